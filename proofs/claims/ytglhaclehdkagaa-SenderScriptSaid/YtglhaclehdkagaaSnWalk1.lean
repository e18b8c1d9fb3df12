/-
  Layer 16: the walk of the statement on a sequence of calls (SenderScript). Every input; no condition. Written by gen_snwalk1.py.
-/
import Derived.Test.YtglhaclehdkagaaSnAct
import Derived.Test.YtglhaclehdkagaaSnAwake
import Derived.Test.YtglhaclehdkagaaPv
namespace Go.Proofs.Ytglhaclehdkagaa
open Go.ChangeShapes Go.WideShapes Go.ChangeAt Go.RowKit
set_option linter.unusedVariables false

/-- The two drawn numbers. -/
def SnQ (B : Nat) (i : Nat) (v : Value) (w : World) : Prop :=
  match i with
  | 0 => RwV B 1 64 4 v w
  | 1 => v = .pointer (some ⟨B, 0, none⟩)
  | 2 => InV 0 3 v
  | 3 => PtV B 1 64 v w
  | 4 => InV 1 64 v
  | 5 => v = .pointer (some ⟨B, 0, none⟩)
  | 6 => InV 0 2 v
  | 7 => InV 1 3 v
  | 8 => InV 1 64 v
  | 9 => InV 1 3 v
  | _ => True
theorem SnQ.keep {B : Nat} (i : Nat) (v : Value) (w w' : World) (h : DrR B w w') (hv : SnQ B i v w) : SnQ B i v w' := by
  unfold SnQ at *
  split at hv <;> first | exact hv | exact h.row hv | exact h.ptr hv | trivial
def SnV (B R S : Nat) (j : Int) (s : SnS) (i : Nat) (v : Value) (w : World) : Prop :=
  match i with
  | 0 => v = .pointer (some ⟨B, 0, none⟩)
  | 1 => v = .pointer (some ⟨R, 0, none⟩)
  | 2 => v = .pointer (some ⟨S, 0, none⟩)
  | 3 => v = .int .i64 j
  | 4 => v = .bool true
  | 5 => v = .bool false
  | 6 => v = .bool false
  | 7 => v = .pointer (some ⟨R, 0, none⟩)
  | 8 => v = .bool (snOpen s)
  | 9 => v = .pointer (some ⟨S, 0, none⟩)
  | 10 => v = .bool (snOpen s)
  | 11 => v = .bool false
  | 12 => v = .bool false
  | 13 => v = .bool false
  | 14 => v = .pointer (some ⟨R, 0, none⟩)
  | 15 => v = .int .i64 (snBase s)
  | 16 => v = .pointer (some ⟨S, 0, none⟩)
  | 17 => v = .int .i64 (snBase s)
  | 18 => v = .bool false
  | 19 => v = .bool false
  | 20 => v = .bool false
  | 21 => v = .pointer (some ⟨R, 0, none⟩)
  | 22 => LsA csN 3 38 v s.l w
  | 23 => v = .pointer (some ⟨S, 0, none⟩)
  | 24 => v = .pointer (some ⟨S, 0, none⟩)
  | 25 => v = .pointer (some ⟨S, 3, none⟩)
  | 26 => LsA csN 3 38 v s.l w
  | 27 => v = .bool true
  | 28 => v = .bool false
  | 29 => v = .bool false
  | 30 => v = .bool false
  | 31 => v = .pointer (some ⟨R, 0, none⟩)
  | 32 => LsA csN 3 38 v (snExh s) w
  | 33 => v = .pointer (some ⟨S, 0, none⟩)
  | 34 => LsA csN 3 38 v (snExh s) w
  | 35 => v = .bool true
  | 36 => v = .bool false
  | 37 => v = .bool false
  | _ => True
theorem SnV.keep {B R S : Nat} {j : Int} {s : SnS} (w w' : World) (hb : Below w.heap.size w w') (i : Nat) (v : Value) (hv : SnV B R S j s i v w) : SnV B R S j s i v w' := by
  unfold SnV at *
  split at hv <;> first | exact hv | exact hv.later hb | trivial
theorem SnV.first {B R S : Nat} {j : Int} {s s' : SnS} {w w' : World} {i : Nat} (hi : i < 4) {v : Value} (hv : SnV B R S j s i v w) : SnV B R S j s' i v w' := by
  match i, hi with
  | 0, _ => exact hv
  | 1, _ => exact hv
  | 2, _ => exact hv
  | 3, _ => exact hv
/-- Behind the call: the objects stand alike. -/
def SnP1 (base B : Nat) (a : Option Addr) (len cap R S K N : Nat) (w0 : World) (s : SnS) (w : World) : Prop := ∃ q, q ≤ K ∧ s.l.length ≤ N ∧ Inv base w0 (SnE2 base B a len cap R S q s s) w
theorem SnP1.below {base B : Nat} {a : Option Addr} {len cap R S K N : Nat} {w0 : World} {s : SnS} {w w' : World} (h : SnP1 base B a len cap R S K N w0 s w) (hb : Below w.heap.size w w') : SnP1 base B a len cap R S K N w0 s w' := by
  obtain ⟨q, h1, h2, h3⟩ := h
  exact ⟨q, h1, h2, h3.step SnE2.frm hb⟩
theorem SnP1.pget {base B : Nat} {a : Option Addr} {len cap R S K N : Nat} {w0 : World} {s : SnS} {w : World} (h : SnP1 base B a len cap R S K N w0 s w) : ∃ T, SnP R s T w := by
  obtain ⟨q, h1, h2, h3⟩ := h; exact SnE2.pget h3
theorem SnP1.rget {base B : Nat} {a : Option Addr} {len cap R S K N : Nat} {w0 : World} {s : SnS} {w : World} (h : SnP1 base B a len cap R S K N w0 s w) : ∃ T, RsP S s T w := by
  obtain ⟨q, h1, h2, h3⟩ := h; exact SnE2.rget h3
theorem SnP1.list {base B : Nat} {a : Option Addr} {len cap R S K N : Nat} {w0 : World} {s : SnS} {w : World} (h : SnP1 base B a len cap R S K N w0 s w) : ∃ vL, w.cell? ⟨S, 3, none⟩ = some vL ∧ LsA csN 3 38 vL s.l w := by
  obtain ⟨T, _, h1, _, vL, h3, h4⟩ := h.rget
  have d3 := h3.read 3
  simp [snC] at d3
  exact ⟨vL, d3, h4.any h1⟩
theorem snB_draw {x y : Int} (x0 : 1 ≤ x) (x1 : x ≤ 64) (y0 : 1 ≤ y) (y1 : y ≤ 3) : snB x y = true := snB_of ⟨x0, x1, y0, by omega⟩
theorem exh_len (s : SnS) : (snExh s).length ≤ s.l.length := List.length_filter_le _ _
set_option maxRecDepth 100000 in
set_option maxHeartbeats 16000000 in
theorem walkScript16 (A : Option Addr) (len cap : Nat) (x y : Int) (w : World) (he : Elems w.heap.size A len w) :
    Calls Try.prog 3 #[.slice A len cap, .int .i64 x, .int .i64 y] w (Calm (.bool true) w) := by
  have hg := Has.new (cap := cap) he
  have HC0 := Lib.hid (show DqC w.heap.size A len cap 10 w 10 (w.alloc (.cells #[.slice A len cap, .int .i64 0] 54)).drew from ⟨0, by omega, hg.drew⟩)
  clear he hg
  unfold Calm
  go_enter Try.func3, Try.ntmps3
  go_wp2_with (go_at_call 7; (with_reducible refine (new_any A len cap _).mono ?_); rintro e w' ⟨rfl, rfl⟩)
  refine wp_region_loose 108 (by kernel_rfl) (by kernel_rfl) (DqC w.heap.size A len cap 10 w) (DrR w.heap.size) (SnQ w.heap.size) rfl (fun i v w w' h hv => SnQ.keep i v w w' h hv) HC0.out ?_ ?_
  · simp only [OblAll]
    refine ⟨?_, ?_, ?_, ?_, ?_, ?_, ?_, ?_, ?_, ?_, trivial⟩
    all_goals
      intro fu wx vals hC hp
      simp [predL, predE, Region.binds, PreV, SnQ] at hp
      simp only [fillA, if_true, Act.put]
      simp
      have HCx := Lib.hid hC
    · have hB := hC.choose_spec.2.1.lt
      clear hp
      go_wp2
      exact ⟨rfl, HCx.out.below ((Below.refl _ _).alloc (Nat.le_refl _) _), DrR.below ((Below.refl _ _).alloc (Nat.le_refl _) _), RwV.new hB (L := [1, 2, 3, 64]) rfl (by decide) rfl _⟩
    · clear hp
      go_wp2
      exact ⟨rfl, HCx.out.step, DrR.refl _ _, rfl⟩
    · simp only [hp]
      clear hp
      obtain ⟨kk, hkk, hg'⟩ := hC
      have HX := Lib.hid (has_next w.heap.size A len cap kk 4 w wx hg' (by omega) (by omega) (by omega))
      clear hg'
      go_wp2_with fail
      (with_reducible refine HX.out.mono ?_)
      rintro e w' ⟨r, r0, r1, rfl, hs, ho⟩
      have HF := Lib.hid (And.intro (show DqC w.heap.size A len cap 10 w fu w' from ⟨kk + 1, by omega, hs⟩) (DrR.only ho))
      clear hs ho
      go_wp2
      exact ⟨rfl, HF.out.1, HF.out.2, r, ⟨r0, by omega⟩, rfl⟩
    · obtain ⟨hrow, r, hr, e3⟩ := hp
      obtain ⟨n, rfl⟩ := Int.eq_ofNat_of_zero_le hr.1
      have hn' : n ≤ 3 := by omega
      obtain ⟨g, g1, g2, e1, hpt⟩ := hrow.at_ (i := n) (by omega)
      have HX := Lib.hid hpt
      simp only [e1, e3]
      clear e1 e3 hC hrow hpt hr
      go_wp2
      exact ⟨rfl, HCx.out.step, DrR.refl _ _, HX.out⟩
    · obtain ⟨g, o, g1, g2, e1, z, hz, hc⟩ := hp
      have HX := Lib.hid hz
      simp only [e1]
      clear e1 hC hz
      go_wp2
      exact ⟨rfl, HCx.out.step, DrR.refl _ _, z, HX.out, rfl⟩
    · clear hp
      go_wp2
      exact ⟨rfl, HCx.out.step, DrR.refl _ _, rfl⟩
    · simp only [hp]
      clear hp
      obtain ⟨kk, hkk, hg'⟩ := hC
      have HX := Lib.hid (has_next w.heap.size A len cap kk 3 w wx hg' (by omega) (by omega) (by omega))
      clear hg'
      go_wp2_with fail
      (with_reducible refine HX.out.mono ?_)
      rintro e w' ⟨r, r0, r1, rfl, hs, ho⟩
      have HF := Lib.hid (And.intro (show DqC w.heap.size A len cap 10 w fu w' from ⟨kk + 1, by omega, hs⟩) (DrR.only ho))
      clear hs ho
      go_wp2
      exact ⟨rfl, HF.out.1, HF.out.2, r, ⟨r0, by omega⟩, rfl⟩
    · obtain ⟨z, hz, e1⟩ := hp
      have HX := Lib.hid (show 1 ≤ 1 + z ∧ 1 + z ≤ 3 by omega)
      have hw1 : IntKind.i64.wrap (1 + z) = 1 + z := IntWalk.i64_in _ (by omega)
      simp only [e1]
      clear e1 hC hz
      go_wp2
      exact ⟨rfl, HCx.out.step, DrR.refl _ _, 1 + z, HX.out, rfl⟩
    · obtain ⟨z, hz, e1⟩ := hp.1
      have HX := Lib.hid hz
      simp only [e1]
      clear e1 hC hz
      go_wp2
      exact ⟨rfl, HCx.out.step, DrR.refl _ _, z, HX.out, rfl⟩
    · obtain ⟨z, hz, e1⟩ := hp.1
      have HX := Lib.hid hz
      simp only [e1]
      clear e1 hC hz
      go_wp2
      exact ⟨rfl, HCx.out.step, DrR.refl _ _, z, HX.out, rfl⟩
  · intro wz vals hC hV
    have e8 := hV 8 (by simp)
    have e9 := hV 9 (by simp)
    simp only [SnQ] at e8 e9
    obtain ⟨n1, hn1, e8⟩ := e8
    obtain ⟨n2, hn2, e9⟩ := e9
    obtain ⟨k3, hk3, h3⟩ := hC
    have hcp := snB_draw hn1.1 hn1.2 hn2.1 hn2.2
    have h4 := Inv.ofHas h3
    have HX := Lib.hid (h4.emp.call ((psnew_any hcp).star GenP.frm))
    have HCP := Lib.hid hcp
    simp only [fillA, if_true, Act.put]
    simp
    simp only [e8, e9]
    clear e8 e9 hV h3 HC0 hcp hn1 hn2 h4
    generalize vals 0 = u0 at *
    generalize vals 1 = u1 at *
    generalize vals 2 = u2 at *
    generalize vals 3 = u3 at *
    generalize vals 4 = u4 at *
    generalize vals 5 = u5 at *
    generalize vals 6 = u6 at *
    generalize vals 7 = u7 at *
    go_wp2_with fail
    (with_reducible refine HX.out.mono ?_); rintro e w2 ⟨R, rfl, h1⟩
    have HX := Lib.hid (h1.emp.call ((rsnew_any HCP.out).star (SnP.frm.star GenP.frm)))
    clear h1
    go_wp2_with fail
    (with_reducible refine HX.out.mono ?_); rintro e w3 ⟨S, rfl, h1⟩
    have HI := Lib.hid (show Inv w.heap.size w (SnE2 w.heap.size w.heap.size A len cap R S k3 (SnS.new n1 n2) (SnS.new n1 n2)) w3 from h1)
    clear h1 HX HCP
    go_wp2_with fail
    go_loopw [14] (fun s14 wr => ∃ (j k : Nat) (s : SnS), j ≤ 40 ∧ s14 = .int .i64 j ∧ k ≤ 10 + 6 * j ∧ Hid (s.l.length ≤ j) ∧ Hid (Inv w.heap.size w (SnE2 w.heap.size w.heap.size A len cap R S k s s) wr)) (fun s14 _ => 40 - (intOf s14).toNat)
    case atStart => exact ⟨0, k3, SnS.new n1 n2, by omega, rfl, by omega, Lib.hid (by simp [SnS.new]), HI⟩
    case round =>
      obtain ⟨j, k, s, hj, rfl, hk, HL, HS⟩ := hrel
      clear HI
      by_cases hlt : j < 40
      · have hlt' : (j : Int) < 40 := by omega
        have HC0 := Lib.hid (show PvC 4 (fun w' => Inv w.heap.size w (SnE2 w.heap.size w.heap.size A len cap R S k s s) w') (SnP1 w.heap.size w.heap.size A len cap R S (k + 6) (j + 1) w) s (fun _ => false) wr.drew from PvC.start (HS.out.step SnE2.frm (Below.refl _ _).drew) _)
        clear HS
        go_wp2_with fail
        refine wp_region_looseG 108 (by kernel_rfl) (by kernel_rfl) (PvC 4 (fun w' => Inv w.heap.size w (SnE2 w.heap.size w.heap.size A len cap R S k s s) w') (SnP1 w.heap.size w.heap.size A len cap R S (k + 6) (j + 1) w)) (SnV w.heap.size R S j) s rfl HC0.out ?_ ?_
        · simp only [OblAllG]
          refine ⟨?_, ?_, ?_, ?_, ?_, ?_, ?_, ?_, ?_, ?_, ?_, ?_, ?_, ?_, ?_, ?_, ?_, ?_, ?_, ?_, ?_, ?_, ?_, ?_, ?_, ?_, ?_, ?_, ?_, ?_, ?_, ?_, ?_, ?_, ?_, ?_, ?_, ?_, trivial⟩
          all_goals
            intro γ L wx vals hi hu hcl hC hp
            simp [predL, predE, Region.binds, UpL] at hu
            clear hcl
            have hcl : True := trivial
            simp [predL, predE, Region.binds, PreV, SnV] at hp
            simp only [fillA, if_true, Act.put]
            simp
            have HCx := Lib.hid hC
          · clear hp hC hcl hu hi
            go_wp2
            exact ⟨rfl, γ, HCx.out.pre (by decide), rfl, fun _ _ _ h => h⟩
          · clear hp hC hcl hu hi
            go_wp2
            exact ⟨rfl, γ, HCx.out.pre (by decide), rfl, fun _ _ _ h => h⟩
          · clear hp hC hcl hu hi
            go_wp2
            exact ⟨rfl, γ, HCx.out.pre (by decide), rfl, fun _ _ _ h => h⟩
          · clear hp hC hcl hu hi
            go_wp2
            exact ⟨rfl, γ, HCx.out.pre (by decide), rfl, fun _ _ _ h => h⟩
          · have h5 := hC.a hi
            have HX := Lib.hid (act_any h5.1 (by omega) (by have := HL.out; omega) ((j : Int)))
            have HLL := Lib.hid h5.2
            simp only [hp]
            clear hp hC hcl hu h5
            go_wp2_with fail
            (with_reducible refine HX.out.mono ?_); rintro e w' ⟨rfl, k', s', hk', hl', hs⟩
            have HF := Lib.hid (show PvC 4 (fun w' => Inv w.heap.size w (SnE2 w.heap.size w.heap.size A len cap R S k s s) w') (SnP1 w.heap.size w.heap.size A len cap R S (k + 6) (j + 1) w) s' (setL L 4) w' from PvC.pivot ⟨k', hk', by have := HL.out; omega, hs⟩)
            clear hs hk' hl'
            go_wp2
            exact ⟨rfl, s', HF.out, rfl, fun jj u hj h => SnV.first (by
              rcases Nat.lt_or_ge jj 4 with h1 | h1
              · exact h1
              · rcases Nat.lt_or_ge 4 jj with h2 | h2
                · have := HLL.out jj h2; rw [hj] at this; cases this
                · obtain rfl : jj = 4 := by omega
                  rw [hi] at hj; cases hj) h⟩
          · have h5 := hC.up (p := 4) (by simp [hu]) (by decide)
            have HF := Lib.hid (hC.post h5 (i := 5) (by decide) (hC.b h5))
            simp only [hp]
            clear hp hC hcl hu hi h5
            go_wp2
            exact ⟨rfl, γ, HF.out, rfl, fun _ _ _ h => h⟩
          · have h5 := hC.up (p := 5) (by simp [hu]) (by decide)
            have HF := Lib.hid (hC.post h5 (i := 6) (by decide) (hC.b h5))
            simp only [hp]
            clear hp hC hcl hu hi h5
            go_wp2
            exact ⟨rfl, γ, HF.out, rfl, fun _ _ _ h => h⟩
          · have h5 := hC.up (p := 6) (by simp [hu]) (by decide)
            have HF := Lib.hid (hC.post h5 (i := 7) (by decide) (hC.b h5))
            simp only [hp]
            clear hp hC hcl hu hi h5
            go_wp2
            exact ⟨rfl, γ, HF.out, rfl, fun _ _ _ h => h⟩
          · have h5 := hC.up (p := 7) (by simp [hu]) (by decide)
            obtain ⟨T9, hT9⟩ := (hC.b h5).pget
            have hln := (hC.b h5).choose_spec.2.1
            have hx := psopen_any hT9
            unfold Calm at hx
            have HX := Lib.hid hx
            have HF := Lib.hid (fun w' hb => hC.post (w' := w') h5 (i := 8) (by decide) ((hC.b h5).below hb))
            simp only [hp]
            clear hp hC hcl hu hi h5 hT9 hx hln
            go_wp2_with fail
            (with_reducible refine HX.out.mono ?_); rintro e w' ⟨rfl, hb⟩
            have HB := Lib.hid hb
            clear hb
            go_wp2
            exact ⟨rfl, γ, HF.out _ HB.out, rfl, fun jj u _ h => SnV.keep _ _ HB.out jj u h⟩
          · have h5 := hC.up (p := 6) (by simp [hu]) (by decide)
            have HF := Lib.hid (hC.post h5 (i := 9) (by decide) (hC.b h5))
            simp only [hp]
            clear hp hC hcl hu hi h5
            go_wp2
            exact ⟨rfl, γ, HF.out, rfl, fun _ _ _ h => h⟩
          · have h5 := hC.up (p := 9) (by simp [hu]) (by decide)
            obtain ⟨T9, hT9⟩ := (hC.b h5).rget
            have hln := (hC.b h5).choose_spec.2.1
            have hx := rsopen_any hT9
            unfold Calm at hx
            have HX := Lib.hid hx
            have HF := Lib.hid (fun w' hb => hC.post (w' := w') h5 (i := 10) (by decide) ((hC.b h5).below hb))
            simp only [hp]
            clear hp hC hcl hu hi h5 hT9 hx hln
            go_wp2_with fail
            (with_reducible refine HX.out.mono ?_); rintro e w' ⟨rfl, hb⟩
            have HB := Lib.hid hb
            clear hb
            go_wp2
            exact ⟨rfl, γ, HF.out _ HB.out, rfl, fun jj u _ h => SnV.keep _ _ HB.out jj u h⟩
          · have h5 := hC.up (p := 8) (by simp [hu]) (by decide)
            have HF := Lib.hid (hC.post h5 (i := 11) (by decide) (hC.b h5))
            have hbb : (snOpen γ != snOpen γ) = false := by simp
            simp only [hp]
            clear hp hC hcl hu hi h5
            go_wp2
            exact ⟨rfl, γ, HF.out, rfl, fun _ _ _ h => h⟩
          · have h5 := hC.up (p := 6) (by simp [hu]) (by decide)
            have HF := Lib.hid (hC.post h5 (i := 12) (by decide) (hC.b h5))
            simp only [hp]
            clear hp hC hcl hu hi h5
            go_wp2
            exact ⟨rfl, γ, HF.out, rfl, fun _ _ _ h => h⟩
          · have h5 := hC.up (p := 12) (by simp [hu]) (by decide)
            have HF := Lib.hid (hC.post h5 (i := 13) (by decide) (hC.b h5))
            simp only [hp]
            clear hp hC hcl hu hi h5
            go_wp2
            exact ⟨rfl, γ, HF.out, rfl, fun _ _ _ h => h⟩
          · have h5 := hC.up (p := 13) (by simp [hu]) (by decide)
            have HF := Lib.hid (hC.post h5 (i := 14) (by decide) (hC.b h5))
            simp only [hp]
            clear hp hC hcl hu hi h5
            go_wp2
            exact ⟨rfl, γ, HF.out, rfl, fun _ _ _ h => h⟩
          · have h5 := hC.up (p := 14) (by simp [hu]) (by decide)
            obtain ⟨T9, hT9⟩ := (hC.b h5).pget
            have hln := (hC.b h5).choose_spec.2.1
            have hx := psbase_any hT9
            unfold Calm at hx
            have HX := Lib.hid hx
            have HF := Lib.hid (fun w' hb => hC.post (w' := w') h5 (i := 15) (by decide) ((hC.b h5).below hb))
            simp only [hp]
            clear hp hC hcl hu hi h5 hT9 hx hln
            go_wp2_with fail
            (with_reducible refine HX.out.mono ?_); rintro e w' ⟨rfl, hb⟩
            have HB := Lib.hid hb
            clear hb
            go_wp2
            exact ⟨rfl, γ, HF.out _ HB.out, rfl, fun jj u _ h => SnV.keep _ _ HB.out jj u h⟩
          · have h5 := hC.up (p := 13) (by simp [hu]) (by decide)
            have HF := Lib.hid (hC.post h5 (i := 16) (by decide) (hC.b h5))
            simp only [hp]
            clear hp hC hcl hu hi h5
            go_wp2
            exact ⟨rfl, γ, HF.out, rfl, fun _ _ _ h => h⟩
          · have h5 := hC.up (p := 16) (by simp [hu]) (by decide)
            obtain ⟨T9, hT9⟩ := (hC.b h5).rget
            have hln := (hC.b h5).choose_spec.2.1
            have hx := rsbase_any hT9
            unfold Calm at hx
            have HX := Lib.hid hx
            have HF := Lib.hid (fun w' hb => hC.post (w' := w') h5 (i := 17) (by decide) ((hC.b h5).below hb))
            simp only [hp]
            clear hp hC hcl hu hi h5 hT9 hx hln
            go_wp2_with fail
            (with_reducible refine HX.out.mono ?_); rintro e w' ⟨rfl, hb⟩
            have HB := Lib.hid hb
            clear hb
            go_wp2
            exact ⟨rfl, γ, HF.out _ HB.out, rfl, fun jj u _ h => SnV.keep _ _ HB.out jj u h⟩
          · have h5 := hC.up (p := 15) (by simp [hu]) (by decide)
            have HF := Lib.hid (hC.post h5 (i := 18) (by decide) (hC.b h5))
            have hnn : (snBase γ != snBase γ) = false := by simp
            simp only [hp]
            clear hp hC hcl hu hi h5
            go_wp2
            exact ⟨rfl, γ, HF.out, rfl, fun _ _ _ h => h⟩
          · have h5 := hC.up (p := 13) (by simp [hu]) (by decide)
            have HF := Lib.hid (hC.post h5 (i := 19) (by decide) (hC.b h5))
            simp only [hp]
            clear hp hC hcl hu hi h5
            go_wp2
            exact ⟨rfl, γ, HF.out, rfl, fun _ _ _ h => h⟩
          · have h5 := hC.up (p := 19) (by simp [hu]) (by decide)
            have HF := Lib.hid (hC.post h5 (i := 20) (by decide) (hC.b h5))
            simp only [hp]
            clear hp hC hcl hu hi h5
            go_wp2
            exact ⟨rfl, γ, HF.out, rfl, fun _ _ _ h => h⟩
          · have h5 := hC.up (p := 20) (by simp [hu]) (by decide)
            have HF := Lib.hid (hC.post h5 (i := 21) (by decide) (hC.b h5))
            simp only [hp]
            clear hp hC hcl hu hi h5
            go_wp2
            exact ⟨rfl, γ, HF.out, rfl, fun _ _ _ h => h⟩
          · have h5 := hC.up (p := 21) (by simp [hu]) (by decide)
            obtain ⟨T9, hT9⟩ := (hC.b h5).pget
            have hln := (hC.b h5).choose_spec.2.1
            have HX := Lib.hid (pspend_any (by omega) hT9)
            have HF := Lib.hid (fun w' hb => hC.post (w' := w') h5 (i := 22) (by decide) ((hC.b h5).below hb))
            simp only [hp]
            clear hp hC hcl hu hi h5 hT9 hln
            go_wp2_with fail
            (with_reducible refine HX.out.mono ?_); intro e w' hg
            obtain ⟨v9, rfl, hr, hb⟩ := GotLs.any hg
            have HB := Lib.hid hb
            have HR := Lib.hid hr
            clear hb hr hg
            go_wp2
            exact ⟨rfl, γ, HF.out _ HB.out, HR.out, fun jj u _ h => SnV.keep _ _ HB.out jj u h⟩
          · have h5 := hC.up (p := 20) (by simp [hu]) (by decide)
            have HF := Lib.hid (hC.post h5 (i := 23) (by decide) (hC.b h5))
            simp only [hp]
            clear hp hC hcl hu hi h5
            go_wp2
            exact ⟨rfl, γ, HF.out, rfl, fun _ _ _ h => h⟩
          · have h5 := hC.up (p := 23) (by simp [hu]) (by decide)
            have HF := Lib.hid (hC.post h5 (i := 24) (by decide) (hC.b h5))
            simp only [hp]
            clear hp hC hcl hu hi h5
            go_wp2
            exact ⟨rfl, γ, HF.out, rfl, fun _ _ _ h => h⟩
          · have h5 := hC.up (p := 24) (by simp [hu]) (by decide)
            have HF := Lib.hid (hC.post h5 (i := 25) (by decide) (hC.b h5))
            simp only [hp]
            clear hp hC hcl hu hi h5
            go_wp2
            exact ⟨rfl, γ, HF.out, rfl, fun _ _ _ h => h⟩
          · have h5 := hC.up (p := 25) (by simp [hu]) (by decide)
            obtain ⟨v9, d9, hl9⟩ := (hC.b h5).list
            have HF := Lib.hid (hC.post h5 (i := 26) (by decide) (hC.b h5))
            have HA := Lib.hid hl9
            simp only [hp]
            clear hp hC hcl hu hi h5 hl9
            go_wp2
            exact ⟨rfl, γ, HF.out, HA.out, fun _ _ _ h => h⟩
          · have h5 := hC.up (p := 22) (by simp [hu]) (by decide)
            have hln := (hC.b h5).choose_spec.2.1
            have hp1 : LsA csN 3 38 (vals 22) γ.l wx := by simp [hp]
            have hp2 : LsA csN 3 38 (vals 26) γ.l wx := by simp [hp]
            have hx := eqSn_any (by omega) hp1 hp2
            unfold Calm at hx
            have HX := Lib.hid hx
            have HF := Lib.hid (fun w' hb => hC.post (w' := w') h5 (i := 27) (by decide) ((hC.b h5).below hb))
            simp only [hp]
            clear hp hC hcl hu hi h5 hx hp1 hp2 hln
            generalize vals 22 = v1 at *
            generalize vals 26 = v2 at *
            go_wp2_with fail
            (with_reducible refine HX.out.mono ?_); rintro e w' ⟨rfl, hb⟩
            have HB := Lib.hid hb
            clear hb
            go_wp2
            exact ⟨rfl, γ, HF.out _ HB.out, rfl, fun jj u _ h => SnV.keep _ _ HB.out jj u h⟩
          · have h5 := hC.up (p := 27) (by simp [hu]) (by decide)
            have HF := Lib.hid (hC.post h5 (i := 28) (by decide) (hC.b h5))
            simp only [hp]
            clear hp hC hcl hu hi h5
            go_wp2
            exact ⟨rfl, γ, HF.out, rfl, fun _ _ _ h => h⟩
          · have h5 := hC.up (p := 20) (by simp [hu]) (by decide)
            have HF := Lib.hid (hC.post h5 (i := 29) (by decide) (hC.b h5))
            simp only [hp]
            clear hp hC hcl hu hi h5
            go_wp2
            exact ⟨rfl, γ, HF.out, rfl, fun _ _ _ h => h⟩
          · have h5 := hC.up (p := 29) (by simp [hu]) (by decide)
            have HF := Lib.hid (hC.post h5 (i := 30) (by decide) (hC.b h5))
            simp only [hp]
            clear hp hC hcl hu hi h5
            go_wp2
            exact ⟨rfl, γ, HF.out, rfl, fun _ _ _ h => h⟩
          · have h5 := hC.up (p := 30) (by simp [hu]) (by decide)
            have HF := Lib.hid (hC.post h5 (i := 31) (by decide) (hC.b h5))
            simp only [hp]
            clear hp hC hcl hu hi h5
            go_wp2
            exact ⟨rfl, γ, HF.out, rfl, fun _ _ _ h => h⟩
          · have h5 := hC.up (p := 31) (by simp [hu]) (by decide)
            obtain ⟨T9, hT9⟩ := (hC.b h5).pget
            have hln := (hC.b h5).choose_spec.2.1
            have HX := Lib.hid (psexh_any (by omega) hT9)
            have HF := Lib.hid (fun w' hb => hC.post (w' := w') h5 (i := 32) (by decide) ((hC.b h5).below hb))
            simp only [hp]
            clear hp hC hcl hu hi h5 hT9 hln
            go_wp2_with fail
            (with_reducible refine HX.out.mono ?_); intro e w' hg
            obtain ⟨v9, rfl, hr, hb⟩ := GotLs.any hg
            have HB := Lib.hid hb
            have HR := Lib.hid hr
            clear hb hr hg
            go_wp2
            exact ⟨rfl, γ, HF.out _ HB.out, HR.out, fun jj u _ h => SnV.keep _ _ HB.out jj u h⟩
          · have h5 := hC.up (p := 30) (by simp [hu]) (by decide)
            have HF := Lib.hid (hC.post h5 (i := 33) (by decide) (hC.b h5))
            simp only [hp]
            clear hp hC hcl hu hi h5
            go_wp2
            exact ⟨rfl, γ, HF.out, rfl, fun _ _ _ h => h⟩
          · have h5 := hC.up (p := 33) (by simp [hu]) (by decide)
            obtain ⟨T9, hT9⟩ := (hC.b h5).rget
            have hln := (hC.b h5).choose_spec.2.1
            have HX := Lib.hid (rsexh_any (by omega) hT9)
            have HF := Lib.hid (fun w' hb => hC.post (w' := w') h5 (i := 34) (by decide) ((hC.b h5).below hb))
            simp only [hp]
            clear hp hC hcl hu hi h5 hT9 hln
            go_wp2_with fail
            (with_reducible refine HX.out.mono ?_); intro e w' hg
            obtain ⟨v9, rfl, hr, hb⟩ := GotLs.any hg
            have HB := Lib.hid hb
            have HR := Lib.hid hr
            clear hb hr hg
            go_wp2
            exact ⟨rfl, γ, HF.out _ HB.out, HR.out, fun jj u _ h => SnV.keep _ _ HB.out jj u h⟩
          · have h5 := hC.up (p := 32) (by simp [hu]) (by decide)
            have hln := (hC.b h5).choose_spec.2.1
            have hp1 : LsA csN 3 38 (vals 32) (snExh γ) wx := by simp [hp]
            have hp2 : LsA csN 3 38 (vals 34) (snExh γ) wx := by simp [hp]
            have hx := eqSn_any (by have := exh_len γ; omega) hp1 hp2
            unfold Calm at hx
            have HX := Lib.hid hx
            have HF := Lib.hid (fun w' hb => hC.post (w' := w') h5 (i := 35) (by decide) ((hC.b h5).below hb))
            simp only [hp]
            clear hp hC hcl hu hi h5 hx hp1 hp2 hln
            generalize vals 32 = v1 at *
            generalize vals 34 = v2 at *
            go_wp2_with fail
            (with_reducible refine HX.out.mono ?_); rintro e w' ⟨rfl, hb⟩
            have HB := Lib.hid hb
            clear hb
            go_wp2
            exact ⟨rfl, γ, HF.out _ HB.out, rfl, fun jj u _ h => SnV.keep _ _ HB.out jj u h⟩
          · have h5 := hC.up (p := 35) (by simp [hu]) (by decide)
            have HF := Lib.hid (hC.post h5 (i := 36) (by decide) (hC.b h5))
            simp only [hp]
            clear hp hC hcl hu hi h5
            go_wp2
            exact ⟨rfl, γ, HF.out, rfl, fun _ _ _ h => h⟩
          · have h5 := hC.up (p := 30) (by simp [hu]) (by decide)
            have HF := Lib.hid (hC.post h5 (i := 37) (by decide) (hC.b h5))
            simp only [hp]
            clear hp hC hcl hu hi h5
            go_wp2
            exact ⟨rfl, γ, HF.out, rfl, fun _ _ _ h => h⟩
        · intro γ wz2 vals L hC hall hV
          have e37 := hV 37 (by simp)
          simp only [SnV] at e37
          obtain ⟨kk, hkk, hll, hs⟩ := hC.b (hall 4 (by simp))
          have HS2 := Lib.hid hs
          have HL2 := Lib.hid hll
          simp only [fillA, if_true, Act.put]
          simp
          simp only [e37]
          clear e37 hV hC hs hall HC0 hll
          go_wp2
          go_roundw
          case rel => exact ⟨j + 1, kk, γ, by omega, by go_num, by omega, HL2, HS2⟩
          case measure => simp [intOf]; omega
      · obtain rfl : j = 40 := by omega
        have HN := Lib.hid (fun W => psnewE_any x y W)
        have HM := Lib.hid (fun W => rsnewE_any x y W)
        have HW := Lib.hid (fun w => awake16_any w)
        unfold NewAnyP at HN HM
        unfold Calm at HW
        obtain ⟨z, hz⟩ : ∃ z, snNE x y = z := ⟨_, rfl⟩
        rw [hz] at HN HM
        have hzz : (z == z) = true := by simp
        have HB := Lib.hid HS.out.out
        clear hz HS HL
        go_wp2_with fail
        (with_reducible refine (HN.out _).mono ?_); rintro e w4 ⟨p4, rfl, hb4⟩
        have H4 := Lib.hid (HB.out.trans (hb4.mono HB.out.size))
        clear hb4 HB
        go_wp2_with fail
        (with_reducible refine (HM.out _).mono ?_); rintro e w5 ⟨p5, rfl, hb5⟩
        have H5 := Lib.hid (H4.out.trans (hb5.mono H4.out.size))
        clear hb5 H4
        go_wp2_with fail
        (with_reducible refine (HW.out _).mono ?_); rintro e w8 ⟨rfl, hb8⟩
        have HF := Lib.hid (H5.out.trans (hb8.mono H5.out.size))
        clear hb8
        go_wp2
        go_ret
        exact ⟨rfl, HF.out⟩
end Go.Proofs.Ytglhaclehdkagaa

