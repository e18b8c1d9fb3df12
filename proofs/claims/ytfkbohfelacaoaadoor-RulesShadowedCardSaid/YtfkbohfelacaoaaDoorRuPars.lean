/-
  Layer 9: the walk of RulesParse.
-/
import Derived.Test.YtfkbohfelacaoaaDoorRuFormat
import Derived.Test.YtfkbohfelacaoaaDoorPcRow
import Derived.Lib.SlBytesConst
namespace Go.Proofs.YtfkbohfelacaoaaDoor
open Go.ChangeShapes Go.WideShapes Go.ChangeAt Go.RowKit
set_option linter.unusedVariables false

theorem Has.put {B : Nat} {a : Option Addr} {len cap k : Nat} {w0 w : World} (h : Has B a len cap k w0 w) {g : Nat} (hg : B < g) (o : Nat) (u : Value) : Has B a len cap k w0 (w.setCell ⟨g, o, none⟩ u) :=
  ⟨h.1.kept ((Below.refl _ _).setCell (p := ⟨g, o, none⟩) (by show B + 1 ≤ g; omega) _), h.2.setCell (p := ⟨g, o, none⟩) (by show B ≤ g; omega) _⟩
theorem Has.bl {B : Nat} {a : Option Addr} {len cap k : Nat} {w0 w : World} (h : Has B a len cap k w0 w) : Below B w0 w := h.2
def SV (k : Nat) (v : Value) : Prop := ∃ s : ByteArray, s.size ≤ k ∧ v = .string s
/-- A row of n short strings; the address of a short string. -/
def RowS (B n : Nat) (v : Value) (w : World) : Prop := ∃ g, g ≠ B ∧ g < w.heap.size ∧ v = .slice (some ⟨g, 0, none⟩) n n ∧ ∀ i, i < n → ∃ s : ByteArray, s.size ≤ 8 ∧ w.cell? ⟨g, i, none⟩ = some (.string s)
def PtrS (B : Nat) (v : Value) (w : World) : Prop := ∃ g o, g ≠ B ∧ g < w.heap.size ∧ v = .pointer (some ⟨g, o, none⟩) ∧ ∃ s : ByteArray, s.size ≤ 8 ∧ w.cell? ⟨g, o, none⟩ = some (.string s)
theorem RowS.new {B : Nat} {w : World} (hB : B < w.heap.size) (L : List ByteArray) {cs : Array Value} (hcs : cs = (L.map Value.string).toArray) (bd : ∀ i (h : i < L.length), (L[i]).size ≤ 8) (t : TypeId) : RowS B L.length (.slice (some ⟨w.heap.size, 0, none⟩) L.length L.length) (w.alloc (.cells cs t)) := by
  refine ⟨w.heap.size, by omega, by simp, rfl, fun i hi => ⟨L[i], bd i hi, ?_⟩⟩
  have e := (MapKept.heap_alloc w (.cells cs t)).1
  have e2 : cs[i]? = some (.string L[i]) := by rw [hcs, List.getElem?_toArray, List.getElem?_map, List.getElem?_eq_getElem hi]; rfl
  simp only [World.cell?, e]
  simpa using e2
theorem RgR.rowS {B n : Nat} {w w' : World} (h : RgR B w w') {v : Value} (hv : RowS B n v w) : RowS B n v w' := by
  obtain ⟨g, h1, h3, h4, h5⟩ := hv
  exact ⟨g, h1, by have := h.size; omega, h4, fun i hi => by rw [Only.cell h h3 h1]; exact h5 i hi⟩
theorem RgR.ptrS {B : Nat} {w w' : World} (h : RgR B w w') {v : Value} (hv : PtrS B v w) : PtrS B v w' := by
  obtain ⟨g, o, h1, h3, h4, s, h5, h6⟩ := hv
  exact ⟨g, o, h1, by have := h.size; omega, h4, s, h5, by rw [Only.cell h h3 h1]; exact h6⟩
theorem nm_size {st : ByteArray} (h : st ∈ nameL) : st.size ≤ 60 := by
  have key : nameL.all (fun st => decide (st.size ≤ 60)) = true := by decide +kernel
  exact of_decide_eq_true (List.all_eq_true.1 key st h)
def psA : List ByteArray := [⟨#[42]⟩, ⟨#[51]⟩, ⟨#[56]⟩, ⟨#[45, 49]⟩, ⟨#[48, 51]⟩, ⟨#[57, 57, 57, 57, 57]⟩, ⟨#[49, 50, 51, 52, 53, 54]⟩]
def psB : List ByteArray := [⟨#[42]⟩, ⟨#[53]⟩, ⟨#[53, 45, 53]⟩, ⟨#[48, 45, 54, 53, 53, 51, 53]⟩, ⟨#[57, 45, 49]⟩, ⟨#[49, 45]⟩, ⟨#[54, 53, 53, 51, 54]⟩, ⟨#[48, 48]⟩]
def psC : List ByteArray := [⟨#[62, 48]⟩, ⟨#[62, 51, 49]⟩, ⟨#[62, 51, 50]⟩, ⟨#[49]⟩, ⟨#[62]⟩, ⟨#[62, 32, 49]⟩, ⟨#[62, 48, 49]⟩]
theorem psA_bd : ∀ i (h : i < psA.length), (psA[i]).size ≤ 8 := by decide
theorem psB_bd : ∀ i (h : i < psB.length), (psB[i]).size ≤ 8 := by decide
theorem psC_bd : ∀ i (h : i < psC.length), (psC[i]).size ≤ 8 := by decide
def PwV (B : Nat) : Nat → Value → World → Prop
  | 0, v, _ => v = .pointer (some ⟨B, 0, none⟩)
  | 1, v, _ => SV 60 v
  | 2, v, _ => SV 61 v
  | 3, v, w => RowS B 7 v w
  | 4, v, _ => v = .pointer (some ⟨B, 0, none⟩)
  | 5, v, _ => IntV 0 6 v
  | 6, v, w => PtrS B v w
  | 7, v, _ => SV 8 v
  | 8, v, _ => SV 69 v
  | 9, v, _ => SV 70 v
  | 10, v, w => RowS B 8 v w
  | 11, v, _ => v = .pointer (some ⟨B, 0, none⟩)
  | 12, v, _ => IntV 0 7 v
  | 13, v, w => PtrS B v w
  | 14, v, _ => SV 8 v
  | 15, v, _ => SV 78 v
  | 16, v, _ => SV 79 v
  | 17, v, w => RowS B 7 v w
  | 18, v, _ => v = .pointer (some ⟨B, 0, none⟩)
  | 19, v, _ => IntV 0 6 v
  | 20, v, w => PtrS B v w
  | 21, v, _ => SV 8 v
  | 22, v, _ => SV 87 v
  | 23, v, _ => SV 87 v
  | _, _, _ => True
theorem PwV.keep {B : Nat} (i : Nat) (v : Value) (w w' : World) (h : RgR B w w') (hv : PwV B i v w) : PwV B i v w' := by
  unfold PwV at *
  split at hv <;> first | exact hv | exact h.rowS hv | exact h.ptrS hv | trivial
theorem txt_pos {r : Rul} (h : ruOk r = true) : 1 ≤ (⟨(txtL r).toArray⟩ : ByteArray).size := by
  rw [Lib.size_eq]
  show 1 ≤ (txtL r).length
  unfold txtL; simp; omega
def oddL : List Int := [32, 42, 45, 62, 48, 57, 97]
theorem oddL_bd : ∀ i (h : i < oddL.length), 0 ≤ oddL[i] ∧ oddL[i] ≤ 255 := by decide
theorem pickU {B : Nat} {w w' : World} {L : List Int} {cs : Array Value} {t : TypeId} {fz : Nat × Nat} (hcs : cs = (L.map (Value.int .u8)).toArray) (ho : Only B (w.alloc (.cells cs t fz)) w') (hB : B < w.heap.size) {n : Nat} (hn : n < L.length) : w'.cell? ⟨w.heap.size, n, none⟩ = some (.int .u8 L[n]) := by
  rw [ho.cell (by simp) (by omega)]
  have e := (MapKept.heap_alloc w (.cells cs t fz)).1
  have e2 : cs[n]? = some (.int .u8 L[n]) := by rw [hcs, List.getElem?_toArray, List.getElem?_map, List.getElem?_eq_getElem hn]; rfl
  simp only [World.cell?, e]
  simpa using e2
set_option maxRecDepth 100000 in
set_option maxHeartbeats 4000000 in
theorem walkParse9 (A : Option Addr) (len cap : Nat) (s : ByteArray) (w : World) (he : Elems w.heap.size A len w) (hw : WS w) :
    Calls Tryd.prog 3 #[.slice A len cap, .string s] w (BoolAns true w) := by
  have HA := Lib.hid (fun w hw => awake9_any w hw)
  have HPs := Lib.hid (fun s hs w hw => parses9_any s hs w hw)
  have HF2 := Lib.hid (fun st c f l n hs w => refFormat_any st c f l n hs w)
  unfold BoolAns at HA HPs
  unfold FoAns at HF2
  unfold BoolAns
  have hW := Lib.hid hw
  have hg := Lib.hid (Has.new (cap := cap) he)
  clear he hw
  go_enter Tryd.func3, Tryd.ntmps3
  go_wp2_with fail
  (with_reducible refine (new_any A len cap _).mono ?_); rintro e w' ⟨rfl, rfl⟩
  go_wp2_with fail
  go_loopw [6] (fun i wr => ∃ j q : Nat, j ≤ 5 ∧ i = .int .i64 j ∧ q ≤ 80 * j ∧ Hid (Has w.heap.size A len cap q w wr)) (fun i _ => 5 - (intOf i).toNat)
  case atStart => exact ⟨0, 0, by omega, rfl, by omega, hg⟩
  case round =>
    obtain ⟨j, q, hj, rfl, hq, HJ⟩ := hrel
    clear hg
    by_cases hlt : j < 5
    · have hlt' : (j : Int) < 5 := by omega
      go_wp2_with fail
      (with_reducible refine (has_rule w.heap.size A len cap q w wr HJ.out (by omega)).mono ?_)
      rintro e w2 ⟨xs, xc, xf, xl, xn, hx, rfl, ⟨k2, hk2, h2⟩, ho2⟩
      have hok := hx.ok
      have hxs := hx.size
      obtain ⟨q1, q2⟩ := fo_good hok
      have hz1 := txt_pos hok
      have hz2 := txt_len hok
      have HF := Lib.hid (fun w => HF2.out xs xc xf xl xn (by omega) w)
      rw [q1, q2] at HF
      generalize (⟨(txtL ⟨xs, xc, xf, xl, xn⟩).toArray⟩ : ByteArray) = X at *
      have H2 := Lib.hid h2
      clear hx hok hxs q1 q2 h2 ho2 HJ
      go_wp2_with fail
      (with_reducible refine (HF.out _).mono ?_); rintro e w3 ⟨rfl, hb⟩
      have H3 := Lib.hid (H2.out.below hb)
      clear hb H2 HF
      go_wp2_with fail
      refine wp_region_loose 96 (by kernel_rfl) (by kernel_rfl) (RgC w.heap.size A len cap (k2 + 24) w3) (RgR w.heap.size) (PwV w.heap.size) rfl (fun i v w1 w2 h hv => PwV.keep i v w1 w2 h hv) ?_ ?_ ?_
      · exact ⟨⟨k2, by simp, H3.out.1.drew⟩, (Only.refl _ _).drew⟩
      · simp only [OblAll]
        refine ⟨?_, ?_, ?_, ?_, ?_, ?_, ?_, ?_, ?_, ?_, ?_, ?_, ?_, ?_, ?_, ?_, ?_, ?_, ?_, ?_, ?_, ?_, ?_, ?_, trivial⟩
        all_goals
          intro fu wx vals hC hp
          simp [predL, predE, Region.binds, PreV, PwV] at hp
          simp only [fillA, if_true, Act.put]
          simp
          have HC := Lib.hid hC
          have HR0 := Lib.hid (show RgR w.heap.size wx wx from Only.refl _ _)
          obtain ⟨⟨kk, hkk, hg'⟩, _⟩ := hC
          have hBx : w.heap.size < wx.heap.size := hg'.lt
        · clear hg'
          go_wp2
          exact ⟨rfl, HC.out.step, HR0.out, rfl⟩
        · simp only [hp]
          clear hp
          go_wp2_with fail
          refine (name_any w.heap.size A len cap kk _ hg' (by omega)).mono ?_
          rintro e w' ⟨x, hx, rfl, hg2, ho⟩
          have HF := Lib.hid (And.intro (HC.out.call (by omega) hg2 ho) ho)
          have HX := Lib.hid (nm_size hx)
          clear hg' hg2 ho hx
          go_wp2
          exact ⟨rfl, HF.out.1, HF.out.2, _, HX.out, rfl⟩
        · obtain ⟨t, ht, e1⟩ := hp
          simp only [e1]
          clear e1 hg'
          go_wp2
          exact ⟨rfl, HC.out.step, HR0.out, _, (by rw [ByteArray.size_append]; show t.size + 1 ≤ 61; omega), rfl⟩
        · clear hg'
          go_wp2
          exact ⟨rfl, HC.out.alloc _, Only.alloc _ wx _, RowS.new hBx psA rfl psA_bd _⟩
        · clear hg'
          go_wp2
          exact ⟨rfl, HC.out.step, HR0.out, rfl⟩
        · simp only [hp]
          clear hp
          go_wp2_with fail
          refine (next_any w.heap.size A len cap kk 7 _ (by decide) (by decide) (by omega) hg').mono ?_
          rintro e w' ⟨r, r0, r1, rfl, hg2, ho⟩
          have HF := Lib.hid (And.intro (HC.out.call (by omega) hg2 ho) ho)
          have HX := Lib.hid (show 0 ≤ r ∧ r ≤ 6 by omega)
          clear hg' hg2 ho
          go_wp2
          exact ⟨rfl, HF.out.1, HF.out.2, _, HX.out, rfl⟩
        · obtain ⟨⟨g, g1, g3, e1, e2⟩, r, hr, e3⟩ := hp
          simp only [e1, e3]
          obtain ⟨m, rfl⟩ := Int.eq_ofNat_of_zero_le hr.1
          have hm : m < 7 := by omega
          obtain ⟨t, ht, hc⟩ := e2 m hm
          have hm' : m ≤ 6 := by omega
          clear e1 e2 e3 hg' hr
          go_wp2
          exact ⟨rfl, HC.out.step, HR0.out, g, _, g1, g3, rfl, t, ht, hc⟩
        · obtain ⟨g, o, g1, g3, e1, t, ht, hc⟩ := hp
          simp only [e1]
          clear e1 hg'
          go_wp2
          exact ⟨rfl, HC.out.step, HR0.out, t, ht, rfl⟩
        · obtain ⟨⟨t, ht, e1⟩, u, hu, e2⟩ := hp
          simp only [e1, e2]
          clear e1 e2 hg'
          go_wp2
          exact ⟨rfl, HC.out.step, HR0.out, _, (by rw [ByteArray.size_append]; omega), rfl⟩
        · obtain ⟨t, ht, e1⟩ := hp
          simp only [e1]
          clear e1 hg'
          go_wp2
          exact ⟨rfl, HC.out.step, HR0.out, _, (by rw [ByteArray.size_append]; show t.size + 1 ≤ 70; omega), rfl⟩
        · clear hg'
          go_wp2
          exact ⟨rfl, HC.out.alloc _, Only.alloc _ wx _, RowS.new hBx psB rfl psB_bd _⟩
        · clear hg'
          go_wp2
          exact ⟨rfl, HC.out.step, HR0.out, rfl⟩
        · simp only [hp]
          clear hp
          go_wp2_with fail
          refine (next_any w.heap.size A len cap kk 8 _ (by decide) (by decide) (by omega) hg').mono ?_
          rintro e w' ⟨r, r0, r1, rfl, hg2, ho⟩
          have HF := Lib.hid (And.intro (HC.out.call (by omega) hg2 ho) ho)
          have HX := Lib.hid (show 0 ≤ r ∧ r ≤ 7 by omega)
          clear hg' hg2 ho
          go_wp2
          exact ⟨rfl, HF.out.1, HF.out.2, _, HX.out, rfl⟩
        · obtain ⟨⟨g, g1, g3, e1, e2⟩, r, hr, e3⟩ := hp
          simp only [e1, e3]
          obtain ⟨m, rfl⟩ := Int.eq_ofNat_of_zero_le hr.1
          have hm : m < 8 := by omega
          obtain ⟨t, ht, hc⟩ := e2 m hm
          have hm' : m ≤ 7 := by omega
          clear e1 e2 e3 hg' hr
          go_wp2
          exact ⟨rfl, HC.out.step, HR0.out, g, _, g1, g3, rfl, t, ht, hc⟩
        · obtain ⟨g, o, g1, g3, e1, t, ht, hc⟩ := hp
          simp only [e1]
          clear e1 hg'
          go_wp2
          exact ⟨rfl, HC.out.step, HR0.out, t, ht, rfl⟩
        · obtain ⟨⟨t, ht, e1⟩, u, hu, e2⟩ := hp
          simp only [e1, e2]
          clear e1 e2 hg'
          go_wp2
          exact ⟨rfl, HC.out.step, HR0.out, _, (by rw [ByteArray.size_append]; omega), rfl⟩
        · obtain ⟨t, ht, e1⟩ := hp
          simp only [e1]
          clear e1 hg'
          go_wp2
          exact ⟨rfl, HC.out.step, HR0.out, _, (by rw [ByteArray.size_append]; show t.size + 1 ≤ 79; omega), rfl⟩
        · clear hg'
          go_wp2
          exact ⟨rfl, HC.out.alloc _, Only.alloc _ wx _, RowS.new hBx psC rfl psC_bd _⟩
        · clear hg'
          go_wp2
          exact ⟨rfl, HC.out.step, HR0.out, rfl⟩
        · simp only [hp]
          clear hp
          go_wp2_with fail
          refine (next_any w.heap.size A len cap kk 7 _ (by decide) (by decide) (by omega) hg').mono ?_
          rintro e w' ⟨r, r0, r1, rfl, hg2, ho⟩
          have HF := Lib.hid (And.intro (HC.out.call (by omega) hg2 ho) ho)
          have HX := Lib.hid (show 0 ≤ r ∧ r ≤ 6 by omega)
          clear hg' hg2 ho
          go_wp2
          exact ⟨rfl, HF.out.1, HF.out.2, _, HX.out, rfl⟩
        · obtain ⟨⟨g, g1, g3, e1, e2⟩, r, hr, e3⟩ := hp
          simp only [e1, e3]
          obtain ⟨m, rfl⟩ := Int.eq_ofNat_of_zero_le hr.1
          have hm : m < 7 := by omega
          obtain ⟨t, ht, hc⟩ := e2 m hm
          have hm' : m ≤ 6 := by omega
          clear e1 e2 e3 hg' hr
          go_wp2
          exact ⟨rfl, HC.out.step, HR0.out, g, _, g1, g3, rfl, t, ht, hc⟩
        · obtain ⟨g, o, g1, g3, e1, t, ht, hc⟩ := hp
          simp only [e1]
          clear e1 hg'
          go_wp2
          exact ⟨rfl, HC.out.step, HR0.out, t, ht, rfl⟩
        · obtain ⟨⟨t, ht, e1⟩, u, hu, e2⟩ := hp
          simp only [e1, e2]
          clear e1 e2 hg'
          go_wp2
          exact ⟨rfl, HC.out.step, HR0.out, _, (by rw [ByteArray.size_append]; omega), rfl⟩
        · obtain ⟨⟨t, ht, e1⟩, _⟩ := hp
          simp only [e1]
          clear e1 hg'
          go_wp2
          exact ⟨rfl, HC.out.step, HR0.out, t, ht, rfl⟩
      · intro w4 vals hC hV
        obtain ⟨Y, hY, ey⟩ := (show SV 87 (vals 23) from hV 23 (by simp))
        obtain ⟨⟨k4, hk4, hg4⟩, ho4⟩ := hC
        have h4 : Has w.heap.size A len cap k4 w w4 := ⟨hg4, H3.out.2.trans (ho4.below (by have := H3.out.1.lt; omega))⟩
        have hB4 := hg4.lt
        simp only [fillA, if_true, Act.put]
        simp
        simp only [ey]
        clear hV ey hg4 ho4 H3
        have H4 := Lib.hid (h4.below (bytes_below w4 5 X))
        clear h4
        have hcv := Lib.run_convert_string_bytes (P := Tryd.prog) w4 9 34 5 X Tryd.underlying9 Tryd.underlying34 Tryd.underlying5
        have HR := Lib.hid (RowB.new w4 X)
        have hgc := grownCap_ge w4 X.size 0 5
        generalize grownCap w4 X.size 0 5 = gc at *
        generalize Lib.bytesWorld w4 5 X = w5 at *
        go_wp2_with fail
        (with_reducible refine (has_next w.heap.size A len cap k4 X.size w w5 H4.out (by omega) (by omega) (by omega)).mono ?_)
        rintro e w6 ⟨r, r0, r1, rfl, h6, ho6⟩
        obtain ⟨m, rfl⟩ := Int.eq_ofNat_of_zero_le r0
        have hm : m < X.size := by omega
        have hr6 := HR.out.later (ho6.block _ HR.out.lt (by omega))
        have HR6 := Lib.hid hr6
        have H6 := Lib.hid h6
        have hB6 := h6.1.lt
        have hg6 := hr6.lt
        clear hcv HR H4 h6 ho6 hr6
        have hcv2 := Lib.run_convert_bytes_const (P := Tryd.prog) w6 34 5 #[.int .u8 32, .int .u8 42, .int .u8 45, .int .u8 62, .int .u8 48, .int .u8 57, .int .u8 97] 7 7 Tryd.underlying34 Tryd.underlying5
        go_wp2_with fail
        (with_reducible refine (has_next w.heap.size A len cap (k4 + 1) 7 w _ (H6.out.alloc _) (by decide) (by decide) (by omega)).mono ?_)
        rintro e w7 ⟨r, r0, r1, rfl, h7, ho7⟩
        obtain ⟨o, rfl⟩ := Int.eq_ofNat_of_zero_le r0
        have ho : o < oddL.length := by show o < 7; omega
        have hc := pickU (L := oddL) rfl ho7 hB6 ho
        obtain ⟨v0, v1⟩ := oddL_bd o ho
        have hr7 := (HR6.out.later (w' := w6.alloc (.cells #[.int .u8 32, .int .u8 42, .int .u8 45, .int .u8 62, .int .u8 48, .int .u8 57, .int .u8 97] 5 (7, 8))) (Below.heap_alloc _ _ _ hg6)).later (ho7.block _ (by simp; omega) (by omega))
        have hmx : m < X.data.toList.length := by rw [len_size]; exact hm
        have hcell := hr7.cell hmx
        have hfr := hr7.frozen hmx
        have ho' : o ≤ 6 := by omega
        generalize oddL[o] = v at *
        have H8 := Lib.hid (h7.put (g := w4.heap.size) hB4 m (.int .u8 v))
        have HR8 := Lib.hid (hr7.put hmx v v0 v1)
        have hl8 : (X.data.toList.set m (UInt8.ofNat v.toNat)).length = X.size := by rw [List.length_set, len_size]
        generalize X.data.toList.set m (UInt8.ofNat v.toNat) = lb at *
        clear h7 ho7 hr7 H6 HR6 hcv2
        have T1 := Lib.hid (fun w hw => HPs.out X (by omega) w hw)
        have T2 := Lib.hid (fun w hw => HPs.out Y (by omega) w hw)
        have T3 := Lib.hid (fun w hw => HPs.out ⟨(lb.take X.size).toArray⟩ (by show (lb.take X.size).length ≤ 1000000; rw [List.length_take]; omega) w hw)
        have T4 := Lib.hid (fun w hw => HPs.out (X ++ ⟨#[32]⟩) (by rw [ByteArray.size_append]; show X.size + 1 ≤ _; omega) w hw)
        have T5 := Lib.hid (fun w hw => HPs.out (⟨#[32]⟩ ++ X) (by rw [ByteArray.size_append]; show 1 + X.size ≤ _; omega) w hw)
        have cv8 := HR8.out.string X.size gc (by omega)
        go_wp2_with fail
        clear hcell hfr hc
        (with_reducible refine (T1.out _ (hW.out.below (Has.bl H8.out))).mono ?_); rintro e w9 ⟨rfl, hb⟩
        have H9 := Lib.hid (H8.out.below hb)
        have hr9 := HR8.out.later (hb.block _ HR8.out.lt)
        have HR9 := Lib.hid hr9
        clear hb H8 HR8 cv8 hr9 T1
        go_wp2_with fail
        (with_reducible refine (T2.out _ (hW.out.below (Has.bl H9.out))).mono ?_); rintro e w10 ⟨rfl, hb⟩
        have H10 := Lib.hid (H9.out.below hb)
        have hr10 := HR9.out.later (hb.block _ HR9.out.lt)
        have cv10 := hr10.string X.size gc (by omega)
        clear hb H9 HR9 hr10 T2
        go_wp2_with fail
        (with_reducible refine (T3.out _ (hW.out.below (Has.bl H10.out))).mono ?_); rintro e w11 ⟨rfl, hb⟩
        have H11 := Lib.hid (H10.out.below hb)
        clear hb H10 cv10 T3
        go_wp2_with fail
        (with_reducible refine (T4.out _ (hW.out.below (Has.bl H11.out))).mono ?_); rintro e w12 ⟨rfl, hb⟩
        have H12 := Lib.hid (H11.out.below hb)
        clear hb H11 T4
        go_wp2_with fail
        (with_reducible refine (T5.out _ (hW.out.below (Has.bl H12.out))).mono ?_); rintro e w13 ⟨rfl, hb⟩
        have H13 := Lib.hid (H12.out.below hb)
        clear hb H12 T5
        go_wp2
        go_roundw
        case rel => exact ⟨j + 1, k4 + 2, by omega, by go_num, by omega, Lib.hid (H13.out.at (by omega))⟩
        case measure => simp [intOf]; omega
    · have HB := Lib.hid HJ.out.2
      have hlt' : ¬ ((j : Nat) : Int) < 5 := by omega
      clear HJ HF2
      by_cases hbig : 200 < s.size
      · have hbig' : (200 : Int) < s.size := by omega
        clear HPs hbig
        go_wp2
        go_ret
        exact ⟨rfl, HB.out⟩
      · have hbig' : (s.size : Int) ≤ 200 := by omega
        have T1 := Lib.hid (fun w hw => HPs.out s (by omega) w hw)
        clear HPs hbig
        go_wp2_with fail
        (with_reducible refine (T1.out _ (hW.out.below HB.out)).mono ?_); rintro e w2 ⟨rfl, hb⟩
        have HB2 := Lib.hid (HB.out.trans (hb.mono HB.out.size))
        clear hb HB T1
        go_wp2_with fail
        (with_reducible refine (HA.out _ (hW.out.below HB2.out)).mono ?_); rintro e w3 ⟨rfl, hb⟩
        have HB3 := Lib.hid (HB2.out.trans (hb.mono HB2.out.size))
        clear hb HB2
        go_wp2
        go_ret
        exact ⟨rfl, HB3.out⟩
end Go.Proofs.YtfkbohfelacaoaaDoor

