/-
  Layer 9: the walk of RulesClassify. Written by a program (gen_ruclw.py).
-/
import Derived.Test.YtfkbohfelacaoaaDoorRuCls
import Derived.Test.YtfkbohfelacaoaaDoorRuPars
namespace Go.Proofs.YtfkbohfelacaoaaDoor
open Go.ChangeShapes Go.WideShapes Go.ChangeAt Go.RowKit
set_option linter.unusedVariables false

theorem ruInfo : (Tryd.prog.info? 29).map (fun i => (i.zero, i.size, i.bytes)) = some (some (.agg #[.string ⟨#[]⟩, .int .i64 0, .int .i64 0, .int .i64 0, .int .i64 0]), 5, 48) := by kernel_rfl
theorem row_only {w w' : World} {base B : Nat} {t : TypeId} {n : Nat} {v : Value} {xs : List Value} (h : w.ownsRow base t 5 v n xs) (ho : Only B w w') (hB : B < base) : w'.ownsRow base t 5 v n xs := by
  refine ⟨h.1, ?_⟩
  rcases h.2 with h1 | ⟨g, cap, cur, h1, h2, h3, h4⟩
  · exact .inl h1
  · exact .inr ⟨g, cap, cur, h1, h2, (ho.block g (lt_of_block h3) (by omega)).trans h3, h4⟩
theorem row_below {w w' : World} {base : Nat} {t : TypeId} {n : Nat} {v : Value} {xs : List Value} (h : w.ownsRow base t 5 v n xs) (hb : Below w.heap.size w w') : w'.ownsRow base t 5 v n xs := by
  refine ⟨h.1, ?_⟩
  rcases h.2 with h1 | ⟨g, cap, cur, h1, h2, h3, h4⟩
  · exact .inl h1
  · exact .inr ⟨g, cap, cur, h1, h2, (hb.block g (lt_of_block h3)).trans h3, h4⟩
theorem row_shape {w : World} {base : Nat} {t : TypeId} {s n : Nat} {v : Value} {xs : List Value} (h : w.ownsRow base t s v n xs) : ∃ A c, v = .slice A n c ∧ n ≤ c ∧ c ≤ 9223372036854775807 := by
  rcases h.2 with ⟨hv, h0⟩ | ⟨g, cap, cur, hv, _, _, h4, h5, _⟩
  · subst h0; exact ⟨none, 0, hv, by omega, by omega⟩
  · exact ⟨_, cap, hv, h4, by unfold maxLen at h5; omega⟩
/-- A list of rules that grows in a row of the call's own, beside the choices in block B. -/
structure RL (B : Nat) (A : Option Addr) (len cap K : Nat) (w0 : World) (base : Nat) (l : List Rul) (v : Value) (w : World) : Prop where
  has : ∃ k, k ≤ K ∧ Has B A len cap k w0 w
  row : w.ownsRow base 29 5 v l.length (rcs l)
  size : base ≤ w.heap.size
  lt : B < base
  ok : ∀ r ∈ l, ruOk r = true ∧ r.st.size ≤ 24
theorem RL.grow {B : Nat} {A : Option Addr} {len cap K K' k : Nat} {w0 w w3 w4 : World} {base : Nat} {l : List Rul} {v v' : Value} {st : ByteArray} {c f m n : Int} (h : RL B A len cap K w0 base l v w) (hg : RuG st c f m n) (h3 : Has B A len cap k w0 w3) (hk : k ≤ K') (ho : Only B w w3)
    (hr : w4.ownsRow base 29 5 v' (l.length + 1) (rcs l ++ rc5 ⟨st, c, f, m, n⟩)) (hgr : (w3.alloc (.cells #[.string st, .int .i64 c, .int .i64 f, .int .i64 m, .int .i64 n] 29)).grownBy w4 v.ownBlock) : RL B A len cap K' w0 base (l ++ [⟨st, c, f, m, n⟩]) v' w4 := by
  have hs := h.size
  have hl := h.lt
  have hos := ho.size
  have hb : Below base w3 w4 := ((Below.refl base w3).alloc (by omega) _).grown hgr (by simp; omega) (own_block5 h.row)
  refine ⟨⟨k, hk, h3.1.kept (hb.mono (by omega)), h3.2.trans (hb.mono (by omega))⟩, ?_, Nat.le_trans (by omega) hb.size, hl, fun r hr => ?_⟩
  · rw [List.length_append, rcs_app, rcs_one]; exact hr
  · rcases List.mem_append.1 hr with hr | hr
    · exact h.ok r hr
    · simp only [List.mem_singleton] at hr; subst hr; exact ⟨hg.ok, hg.size⟩
/-- What the operations of the statement's test give: g: the argument's station is short. -/
def ClV (p : Nat) (a : ByteArray) (Q X H : Array Value) (f : Int) (ok m m2 g : Bool) : Nat → Value → World → Prop
  | 0, v, _ => v = .int .i64 f
  | 1, v, _ => v = .int .i64 f
  | 2, v, _ => v = .bool false
  | 3, v, _ => v = .bool false
  | 4, v, _ => v = .bool ok
  | 5, v, _ => v = .bool ok
  | 6, v, _ => v = .bool false
  | 7, v, _ => v = .bool false
  | 8, v, _ => v = .bool false
  | 9, v, _ => v = .agg Q
  | 10, v, _ => v = .agg X
  | 11, v, _ => v = .bool m
  | 12, v, _ => v = .agg Q
  | 13, v, _ => v = .agg X
  | 14, v, _ => v = .bool m
  | 15, v, _ => v = .bool false
  | 16, v, _ => v = .bool false
  | 17, v, _ => v = .bool false
  | 18, v, _ => v = .pointer (some ⟨p, 0, none⟩)
  | 19, v, _ => v = .string a
  | 20, v, _ => v = .int .i64 a.size
  | 21, v, _ => v = .bool g
  | 22, v, _ => v = .bool g
  | 23, v, _ => g = true → v = .agg Q
  | 24, v, _ => g = true → v = .agg H
  | 25, v, _ => g = true → v = .bool m2
  | 26, v, _ => g = true → v = .agg Q
  | 27, v, _ => g = true → v = .agg H
  | 28, v, _ => g = true → v = .bool m2
  | 29, v, _ => g = true → v = .bool false
  | 30, v, _ => v = .bool false
  | 31, v, _ => v = .bool false
  | _, _, _ => True
def ClC (w0 : World) (b1 b2 b3 : Nat) (x0 x1 x2 x3 x4 y0 y1 y2 y3 y4 h0 h1 h2 h3 h4 : Value) (_ : Nat) (w : World) : Prop := Five w b1 x0 x1 x2 x3 x4 ∧ Five w b2 y0 y1 y2 y3 y4 ∧ Five w b3 h0 h1 h2 h3 h4 ∧ Below w0.heap.size w0 w
theorem ClC.step {w0 w w' : World} {b1 b2 b3 k k' : Nat} {x0 x1 x2 x3 x4 y0 y1 y2 y3 y4 h0 h1 h2 h3 h4 : Value} (h : ClC w0 b1 b2 b3 x0 x1 x2 x3 x4 y0 y1 y2 y3 y4 h0 h1 h2 h3 h4 k w) (hb : Below w.heap.size w w') : ClC w0 b1 b2 b3 x0 x1 x2 x3 x4 y0 y1 y2 y3 y4 h0 h1 h2 h3 h4 k' w' :=
  ⟨h.1.later hb, h.2.1.later hb, h.2.2.1.later hb, h.2.2.2.trans (hb.mono h.2.2.2.size)⟩
set_option maxRecDepth 100000 in
set_option maxHeartbeats 4000000 in
theorem walkClassify (A : Option Addr) (len cap : Nat) (a0s bs : ByteArray) (ac af al an bc bp bl bf : Int) (w : World) (he : Elems w.heap.size A len w) (hw : WS w) :
    Calls Tryd.prog 5 #[.slice A len cap, .agg #[.string a0s, .int .i64 ac, .int .i64 af, .int .i64 al, .int .i64 an], .agg #[.string bs, .int .i64 bc, .int .i64 bp, .int .i64 bl, .int .i64 bf]] w (BoolAns true w) := by
  obtain ⟨i0, hii, hz0, hz1, hz2⟩ := info_parts ruInfo
  have HA := Lib.hid (fun w hw => awake9_any w hw)
  have HM := Lib.hid (fun s1 s2 c1 f1 l1 n1 c2 p2 l2 f2 w => mt_any s1 s2 c1 f1 l1 n1 c2 p2 l2 f2 w)
  have HMR := Lib.hid (fun s1 s2 c1 f1 l1 n1 c2 p2 l2 f2 h1 h2 w => mtR_any s1 s2 c1 f1 l1 n1 c2 p2 l2 f2 h1 h2 w)
  have HK1 := Lib.hid (fun L A cap hs hc hp hl hf w hr hn hcap => classify_any L A cap hs hc hp hl hf w hr hn hcap)
  have HK2 := Lib.hid (fun L A cap hs hc hp hl hf w hr hn hcap hz hhz => classifyR_any L A cap hs hc hp hl hf w hr hn hcap hz hhz)
  unfold BoolAns at HA HM HMR
  unfold ClAns at HK1 HK2
  unfold BoolAns
  have hk := box2 w 29 43 #[.string a0s, .int .i64 ac, .int .i64 af, .int .i64 al, .int .i64 an] #[.string bs, .int .i64 bc, .int .i64 bp, .int .i64 bl, .int .i64 bf]
  have hb0 := box2_below w (.cells #[.string a0s, .int .i64 ac, .int .i64 af, .int .i64 al, .int .i64 an] 29) (.cells #[.string bs, .int .i64 bc, .int .i64 bp, .int .i64 bl, .int .i64 bf] 43)
  have HZA := Lib.hid hk.1.five'
  have HZB := Lib.hid hk.2.five'
  have he1 : Elems ((w.alloc (.cells #[.string a0s, .int .i64 ac, .int .i64 af, .int .i64 al, .int .i64 an] 29)).alloc (.cells #[.string bs, .int .i64 bc, .int .i64 bp, .int .i64 bl, .int .i64 bf] 43)).heap.size A len ((w.alloc (.cells #[.string a0s, .int .i64 ac, .int .i64 af, .int .i64 al, .int .i64 an] 29)).alloc (.cells #[.string bs, .int .i64 bc, .int .i64 bp, .int .i64 bl, .int .i64 bf] 43)) := (he.kept hb0).wide (by simp; omega)
  have hW := Lib.hid hw
  have HB0 := Lib.hid hb0
  have hz0' : ((w.alloc (.cells #[.string a0s, .int .i64 ac, .int .i64 af, .int .i64 al, .int .i64 an] 29)).alloc (.cells #[.string bs, .int .i64 bc, .int .i64 bp, .int .i64 bl, .int .i64 bf] 43)).heap.size = w.heap.size + 2 := by simp
  clear hw hk hb0
  go_enter Tryd.func5, Tryd.ntmps5
  go_wp2_with fail
  generalize ((w.alloc (.cells #[.string a0s, .int .i64 ac, .int .i64 af, .int .i64 al, .int .i64 an] 29)).alloc (.cells #[.string bs, .int .i64 bc, .int .i64 bp, .int .i64 bl, .int .i64 bf] 43)) = w1 at *
  have hg := Lib.hid (Has.new (cap := cap) he1)
  clear he he1 hz0'
  (with_reducible refine (new_any A len cap _).mono ?_); rintro e w' ⟨rfl, rfl⟩
  go_wp2_with fail
  go_loopw [8] (fun i wr => ∃ j q : Nat, j ≤ 4 ∧ i = .int .i64 j ∧ q ≤ 200 * j ∧ Hid (Has w1.heap.size A len cap q w1 wr)) (fun i _ => 4 - (intOf i).toNat)
  case atStart => exact ⟨0, 0, by omega, rfl, by omega, hg⟩
  case round =>
    obtain ⟨j, q, hj, rfl, hq, HJ⟩ := hrel
    clear hg
    by_cases hlt : j < 4
    · have hlt' : (j : Int) < 4 := by omega
      go_wp2_with fail
      (with_reducible refine (has_next w1.heap.size A len cap q 5 w1 wr HJ.out (by decide) (by decide) (by omega)).mono ?_)
      rintro e w2 ⟨r, r0, r1, rfl, h2, ho2⟩
      obtain ⟨n, rfl⟩ := Int.eq_ofNat_of_zero_le r0
      have HL0 := Lib.hid (show RL w1.heap.size A len cap (q + 1) w1 w2.heap.size [] (.slice none 0 0) w2 from ⟨⟨q + 1, Nat.le_refl _, h2⟩, ⟨rfl, .inl ⟨rfl, rfl⟩⟩, Nat.le_refl _, h2.1.lt, fun r hr => absurd hr (by simp)⟩)
      have hn4 : n ≤ 4 := by omega
      clear h2 ho2 HJ
      go_wp2_with fail
      obtain ⟨wo, rfl⟩ : ∃ wo : World, wo = wr := ⟨_, rfl⟩
      go_loopw [9, 10] (fun v i wr => ∃ (t : Nat) (l : List Rul), t + l.length = n ∧ i = .int .i64 t ∧ Hid (RL w1.heap.size A len cap (q + 1 + 20 * l.length) w1 w2.heap.size l v wr)) (fun _ i _ => (intOf i).toNat)
      case atStart => exact ⟨n, [], rfl, rfl, HL0⟩
      case round =>
        obtain ⟨t, l, htl, rfl, HL⟩ := hrel
        clear HL0
        rcases (by omega : t = 0 ∨ 1 ≤ t) with rfl | ht
        · obtain ⟨A', c', rfl, hc1, hc2⟩ := row_shape HL.out.row
          obtain ⟨kq, hkq, hHq⟩ := HL.out.has
          have hll : l.length ≤ 4 := by omega
          go_wp2_with fail
          (with_reducible refine (has_header w1.heap.size A len cap kq w1 wr hHq (by omega)).mono ?_)
          rintro e w4 ⟨hs, hc, hp, hl, hf, hh, rfl, ⟨k4, hk4, h4⟩, ho4⟩
          have hrow := (row_only HL.out.row ho4 HL.out.lt).alloc (.cells #[.string hs, .int .i64 hc, .int .i64 hp, .int .i64 hl, .int .i64 hf] 43)
          have hlr := RuAt.own hrow rfl
          have hB4 := h4.1.lt
          have hok := HL.out.ok
          have hz5 := Whole.fresh w4 43 #[.string hs, .int .i64 hc, .int .i64 hp, .int .i64 hl, .int .i64 hf]
          have H5 := Lib.hid (h4.alloc (.cells #[.string hs, .int .i64 hc, .int .i64 hp, .int .i64 hl, .int .i64 hf] 43))
          have hhs := hh.small
          have K1 := Lib.hid (fun hr => HK1.out l A' c' hs hc hp hl hf (w4.alloc (.cells #[.string hs, .int .i64 hc, .int .i64 hp, .int .i64 hl, .int .i64 hf] 43)) hr hc1 hc2)
          have K2 := Lib.hid (fun w hr => HK2.out l A' c' hs hc hp hl hf w hr hc1 hc2 (fun r hr => by have := (hok r hr).2; omega) (by omega))
          generalize clV ⟨hs, hc, hp, hl, hf⟩ l = f at *
          generalize clB ⟨hs, hc, hp, hl, hf⟩ l = ok at *
          have K1r := Lib.hid (K1.out hlr)
          have HLR := Lib.hid hlr
          have HZ5 := Lib.hid hz5
          have hlt4 := hz5.size_lt
          clear hh h4 ho4 hrow hlr hok hz5 hHq HL K1
          go_wp2_with fail
          (with_reducible refine K1r.out.mono ?_); rintro e w6 ⟨rfl, hb⟩
          have hlr6 := (HLR.out.below hb (Nat.le_refl _)).wider hb.size
          have H6 := Lib.hid (H5.out.below hb)
          have HZ6 := Lib.hid (HZ5.out.later hb)
          obtain ⟨d0, d1, d2, d3, d4⟩ := HZ6.out.five'
          have K2r := Lib.hid (K2.out w6 hlr6)
          clear hb hlr6 HLR H5 HZ5 K1r K2
          go_wp2_with fail
          (with_reducible refine K2r.out.mono ?_); rintro e w7 ⟨rfl, hb⟩
          have H7 := Lib.hid (H6.out.below hb)
          have HZ7 := Lib.hid (HZ6.out.later hb)
          clear hb H6 HZ6 K2r d0 d1 d2 d3 d4
          go_wp2_with fail
          (with_reducible refine (has_rule w1.heap.size A len cap k4 w1 w7 H7.out (by omega)).mono ?_)
          rintro e w8 ⟨qs, qc, qf, ql, qn, hq8, rfl, ⟨k9, hk9, h8⟩, ho8⟩
          have hz8 := HZ7.out.carry (ho8.block _ HZ7.out.size_lt (by omega))
          have hqs := hq8.size
          have hq9 := (Whole.fresh w8 29 #[.string qs, .int .i64 qc, .int .i64 qf, .int .i64 ql, .int .i64 qn]).five'
          have hz9 := (hz8.alloc (.cells #[.string qs, .int .i64 qc, .int .i64 qf, .int .i64 ql, .int .i64 qn] 29)).five'
          have H9 := Lib.hid (h8.alloc (.cells #[.string qs, .int .i64 qc, .int .i64 qf, .int .i64 ql, .int .i64 qn] 29))
          have M1 := Lib.hid (fun w => HM.out qs hs qc qf ql qn hc hp hl hf w)
          have M2 := Lib.hid (fun w => HMR.out qs hs qc qf ql qn hc hp hl hf (by omega) (by omega) w)
          have M3 := Lib.hid (fun w => HM.out qs bs qc qf ql qn bc bp bl bf w)
          generalize mtR ⟨qs, qc, qf, ql, qn⟩ ⟨hs, hc, hp, hl, hf⟩ = m at *
          obtain ⟨m2, hm2⟩ : ∃ x, mtR ⟨qs, qc, qf, ql, qn⟩ ⟨bs, bc, bp, bl, bf⟩ = x := ⟨_, rfl⟩
          rw [hm2] at M3
          have hm2 := Lib.hid hm2
          have tf : (f != f) = false := by simp
          have tok : (ok != ok) = false := by simp
          have tm : (m != m) = false := by simp
          have tm2 : (m2 != m2) = false := by simp
          clear hq8 h8 ho8 hz8 H7 HZ7
          go_wp2_with fail
          generalize w8.alloc (.cells #[.string qs, .int .i64 qc, .int .i64 qf, .int .i64 ql, .int .i64 qn] 29) = w9 at *
          have hbb := HZB.out.later (Has.bl H9.out)
          have HC9 := Lib.hid (show ClC w9 w8.heap.size w4.heap.size (w.heap.size + 1) (.string qs) (.int .i64 qc) (.int .i64 qf) (.int .i64 ql) (.int .i64 qn) (.string hs) (.int .i64 hc) (.int .i64 hp) (.int .i64 hl) (.int .i64 hf) (.string bs) (.int .i64 bc) (.int .i64 bp) (.int .i64 bl) (.int .i64 bf) 0 w9 from ⟨hq9, hz9, hbb, Below.refl _ _⟩)
          clear hq9 hz9 hbb
          by_cases hg : bs.size < 60
          · have hg' : (bs.size : Int) < 60 := by omega
            have M4 := Lib.hid (fun w => HMR.out qs bs qc qf ql qn bc bp bl bf (by omega) (by omega) w)
            rw [hm2.out] at M4
            clear hg
            refine wp_region_loose 104 (by kernel_rfl) (by kernel_rfl) (ClC w9 w8.heap.size w4.heap.size (w.heap.size + 1) (.string qs) (.int .i64 qc) (.int .i64 qf) (.int .i64 ql) (.int .i64 qn) (.string hs) (.int .i64 hc) (.int .i64 hp) (.int .i64 hl) (.int .i64 hf) (.string bs) (.int .i64 bc) (.int .i64 bp) (.int .i64 bl) (.int .i64 bf)) FoR (ClV (w.heap.size + 1) bs #[.string qs, .int .i64 qc, .int .i64 qf, .int .i64 ql, .int .i64 qn] #[.string hs, .int .i64 hc, .int .i64 hp, .int .i64 hl, .int .i64 hf] #[.string bs, .int .i64 bc, .int .i64 bp, .int .i64 bl, .int .i64 bf] f ok m m2 true) rfl (fun i v w w' h hv => by unfold ClV at *; split at hv <;> exact hv) ?_ ?_ ?_
            · exact HC9.out.step (Below.refl _ _).drew
            · simp only [OblAll]
              refine ⟨?_, ?_, ?_, ?_, ?_, ?_, ?_, ?_, ?_, ?_, ?_, ?_, ?_, ?_, ?_, ?_, ?_, ?_, ?_, ?_, ?_, ?_, ?_, ?_, ?_, ?_, ?_, ?_, ?_, ?_, ?_, ?_, trivial⟩
              all_goals
                intro fu wx vals hC hp
                simp [predL, predE, Region.binds, PreV, ClV] at hp
                simp only [fillA, if_true, Act.put]
                simp
                have HC := Lib.hid hC
                obtain ⟨⟨a0, a1, a2, a3, a4⟩, ⟨c0, c1, c2, c3, c4⟩, ⟨e0, e1, e2, e3, e4⟩, _⟩ := hC
                have HR0 := Lib.hid (show FoR wx wx from Below.refl _ _)
              · try simp only [hp]
                try clear hp
                go_wp2
                exact ⟨rfl, HC.out.step (Below.refl _ _), HR0.out, rfl⟩
              · try simp only [hp]
                try clear hp
                go_wp2
                exact ⟨rfl, HC.out.step (Below.refl _ _), HR0.out, rfl⟩
              · try simp only [hp]
                try clear hp
                go_wp2
                exact ⟨rfl, HC.out.step (Below.refl _ _), HR0.out, rfl⟩
              · try simp only [hp]
                try clear hp
                go_wp2
                exact ⟨rfl, HC.out.step (Below.refl _ _), HR0.out, rfl⟩
              · try simp only [hp]
                try clear hp
                go_wp2
                exact ⟨rfl, HC.out.step (Below.refl _ _), HR0.out, rfl⟩
              · try simp only [hp]
                try clear hp
                go_wp2
                exact ⟨rfl, HC.out.step (Below.refl _ _), HR0.out, rfl⟩
              · try simp only [hp]
                try clear hp
                go_wp2
                exact ⟨rfl, HC.out.step (Below.refl _ _), HR0.out, rfl⟩
              · try simp only [hp]
                try clear hp
                go_wp2
                exact ⟨rfl, HC.out.step (Below.refl _ _), HR0.out, rfl⟩
              · try simp only [hp]
                try clear hp
                go_wp2
                exact ⟨rfl, HC.out.step (Below.refl _ _), HR0.out, rfl⟩
              · try simp only [hp]
                try clear hp
                go_wp2
                exact ⟨rfl, HC.out.step (Below.refl _ _), HR0.out, rfl⟩
              · try simp only [hp]
                try clear hp
                go_wp2
                exact ⟨rfl, HC.out.step (Below.refl _ _), HR0.out, rfl⟩
              · try simp only [hp]
                try clear hp
                go_wp2_with fail
                (with_reducible refine (M1.out _).mono ?_); rintro e w' ⟨rfl, hb⟩
                have HB := Lib.hid hb
                go_wp2
                exact ⟨rfl, HC.out.step HB.out, HB.out, rfl⟩
              · try simp only [hp]
                try clear hp
                go_wp2
                exact ⟨rfl, HC.out.step (Below.refl _ _), HR0.out, rfl⟩
              · try simp only [hp]
                try clear hp
                go_wp2
                exact ⟨rfl, HC.out.step (Below.refl _ _), HR0.out, rfl⟩
              · try simp only [hp]
                try clear hp
                go_wp2_with fail
                (with_reducible refine (M2.out _).mono ?_); rintro e w' ⟨rfl, hb⟩
                have HB := Lib.hid hb
                go_wp2
                exact ⟨rfl, HC.out.step HB.out, HB.out, rfl⟩
              · try simp only [hp]
                try clear hp
                go_wp2
                exact ⟨rfl, HC.out.step (Below.refl _ _), HR0.out, rfl⟩
              · try simp only [hp]
                try clear hp
                go_wp2
                exact ⟨rfl, HC.out.step (Below.refl _ _), HR0.out, rfl⟩
              · try simp only [hp]
                try clear hp
                go_wp2
                exact ⟨rfl, HC.out.step (Below.refl _ _), HR0.out, rfl⟩
              · try simp only [hp]
                try clear hp
                go_wp2
                exact ⟨rfl, HC.out.step (Below.refl _ _), HR0.out, rfl⟩
              · try simp only [hp]
                try clear hp
                go_wp2
                exact ⟨rfl, HC.out.step (Below.refl _ _), HR0.out, rfl⟩
              · try simp only [hp]
                try clear hp
                go_wp2
                exact ⟨rfl, HC.out.step (Below.refl _ _), HR0.out, rfl⟩
              · try simp only [hp]
                try clear hp
                go_wp2
                first
                  | exact ⟨rfl, HC.out.step (Below.refl _ _), HR0.out, rfl⟩
                  | exact ⟨rfl, HC.out.step (Below.refl _ _), HR0.out, show Value.bool (decide ((bs.size : Int) < 60)) = .bool true from congrArg Value.bool (decide_eq_true (by omega))⟩
              · try simp only [hp]
                try clear hp
                go_wp2
                exact ⟨rfl, HC.out.step (Below.refl _ _), HR0.out, rfl⟩
              · try simp only [hp]
                try clear hp
                go_wp2
                exact ⟨rfl, HC.out.step (Below.refl _ _), HR0.out, (fun _ => rfl)⟩
              · try simp only [hp]
                try clear hp
                go_wp2
                exact ⟨rfl, HC.out.step (Below.refl _ _), HR0.out, (fun _ => rfl)⟩
              · try simp only [hp]
                try clear hp
                go_wp2_with fail
                (with_reducible refine (M3.out _).mono ?_); rintro e w' ⟨rfl, hb⟩
                have HB := Lib.hid hb
                go_wp2
                exact ⟨rfl, HC.out.step HB.out, HB.out, (fun _ => rfl)⟩
              · try simp only [hp]
                try clear hp
                go_wp2
                exact ⟨rfl, HC.out.step (Below.refl _ _), HR0.out, (fun _ => rfl)⟩
              · try simp only [hp]
                try clear hp
                go_wp2
                exact ⟨rfl, HC.out.step (Below.refl _ _), HR0.out, (fun _ => rfl)⟩
              · try simp only [hp]
                try clear hp
                go_wp2_with fail
                (with_reducible refine (M4.out _).mono ?_); rintro e w' ⟨rfl, hb⟩
                have HB := Lib.hid hb
                go_wp2
                exact ⟨rfl, HC.out.step HB.out, HB.out, (fun _ => rfl)⟩
              · try simp only [hp]
                try clear hp
                go_wp2
                exact ⟨rfl, HC.out.step (Below.refl _ _), HR0.out, (fun _ => rfl)⟩
              · try simp only [hp]
                try clear hp
                go_wp2
                exact ⟨rfl, HC.out.step (Below.refl _ _), HR0.out, rfl⟩
              · try simp only [hp]
                try clear hp
                go_wp2
                exact ⟨rfl, HC.out.step (Below.refl _ _), HR0.out, rfl⟩
            · intro w10 vals hC hV
              have e31 := (show vals 31 = .bool false from hV 31 (by simp))
              have H10 := Lib.hid (H9.out.below hC.2.2.2)
              simp only [fillA, if_true, Act.put]
              simp
              simp only [e31]
              clear hV hC H9 HC9
              go_wp2
              go_roundw
              case rel => exact ⟨j + 1, k9, by omega, by go_num, by omega, H10⟩
              case measure => simp [intOf]; omega
          · have hg' : ¬ (bs.size : Int) < 60 := by omega
            clear hg
            refine wp_region_loose 104 (by kernel_rfl) (by kernel_rfl) (ClC w9 w8.heap.size w4.heap.size (w.heap.size + 1) (.string qs) (.int .i64 qc) (.int .i64 qf) (.int .i64 ql) (.int .i64 qn) (.string hs) (.int .i64 hc) (.int .i64 hp) (.int .i64 hl) (.int .i64 hf) (.string bs) (.int .i64 bc) (.int .i64 bp) (.int .i64 bl) (.int .i64 bf)) FoR (ClV (w.heap.size + 1) bs #[.string qs, .int .i64 qc, .int .i64 qf, .int .i64 ql, .int .i64 qn] #[.string hs, .int .i64 hc, .int .i64 hp, .int .i64 hl, .int .i64 hf] #[.string bs, .int .i64 bc, .int .i64 bp, .int .i64 bl, .int .i64 bf] f ok m m2 false) rfl (fun i v w w' h hv => by unfold ClV at *; split at hv <;> exact hv) ?_ ?_ ?_
            · exact HC9.out.step (Below.refl _ _).drew
            · simp only [OblAll]
              refine ⟨?_, ?_, ?_, ?_, ?_, ?_, ?_, ?_, ?_, ?_, ?_, ?_, ?_, ?_, ?_, ?_, ?_, ?_, ?_, ?_, ?_, ?_, ?_, ?_, ?_, ?_, ?_, ?_, ?_, ?_, ?_, ?_, trivial⟩
              all_goals
                intro fu wx vals hC hp
                simp [predL, predE, Region.binds, PreV, ClV] at hp
                simp only [fillA, if_true, Act.put]
                simp
                have HC := Lib.hid hC
                obtain ⟨⟨a0, a1, a2, a3, a4⟩, ⟨c0, c1, c2, c3, c4⟩, ⟨e0, e1, e2, e3, e4⟩, _⟩ := hC
                have HR0 := Lib.hid (show FoR wx wx from Below.refl _ _)
              · try simp only [hp]
                try clear hp
                go_wp2
                exact ⟨rfl, HC.out.step (Below.refl _ _), HR0.out, rfl⟩
              · try simp only [hp]
                try clear hp
                go_wp2
                exact ⟨rfl, HC.out.step (Below.refl _ _), HR0.out, rfl⟩
              · try simp only [hp]
                try clear hp
                go_wp2
                exact ⟨rfl, HC.out.step (Below.refl _ _), HR0.out, rfl⟩
              · try simp only [hp]
                try clear hp
                go_wp2
                exact ⟨rfl, HC.out.step (Below.refl _ _), HR0.out, rfl⟩
              · try simp only [hp]
                try clear hp
                go_wp2
                exact ⟨rfl, HC.out.step (Below.refl _ _), HR0.out, rfl⟩
              · try simp only [hp]
                try clear hp
                go_wp2
                exact ⟨rfl, HC.out.step (Below.refl _ _), HR0.out, rfl⟩
              · try simp only [hp]
                try clear hp
                go_wp2
                exact ⟨rfl, HC.out.step (Below.refl _ _), HR0.out, rfl⟩
              · try simp only [hp]
                try clear hp
                go_wp2
                exact ⟨rfl, HC.out.step (Below.refl _ _), HR0.out, rfl⟩
              · try simp only [hp]
                try clear hp
                go_wp2
                exact ⟨rfl, HC.out.step (Below.refl _ _), HR0.out, rfl⟩
              · try simp only [hp]
                try clear hp
                go_wp2
                exact ⟨rfl, HC.out.step (Below.refl _ _), HR0.out, rfl⟩
              · try simp only [hp]
                try clear hp
                go_wp2
                exact ⟨rfl, HC.out.step (Below.refl _ _), HR0.out, rfl⟩
              · try simp only [hp]
                try clear hp
                go_wp2_with fail
                (with_reducible refine (M1.out _).mono ?_); rintro e w' ⟨rfl, hb⟩
                have HB := Lib.hid hb
                go_wp2
                exact ⟨rfl, HC.out.step HB.out, HB.out, rfl⟩
              · try simp only [hp]
                try clear hp
                go_wp2
                exact ⟨rfl, HC.out.step (Below.refl _ _), HR0.out, rfl⟩
              · try simp only [hp]
                try clear hp
                go_wp2
                exact ⟨rfl, HC.out.step (Below.refl _ _), HR0.out, rfl⟩
              · try simp only [hp]
                try clear hp
                go_wp2_with fail
                (with_reducible refine (M2.out _).mono ?_); rintro e w' ⟨rfl, hb⟩
                have HB := Lib.hid hb
                go_wp2
                exact ⟨rfl, HC.out.step HB.out, HB.out, rfl⟩
              · try simp only [hp]
                try clear hp
                go_wp2
                exact ⟨rfl, HC.out.step (Below.refl _ _), HR0.out, rfl⟩
              · try simp only [hp]
                try clear hp
                go_wp2
                exact ⟨rfl, HC.out.step (Below.refl _ _), HR0.out, rfl⟩
              · try simp only [hp]
                try clear hp
                go_wp2
                exact ⟨rfl, HC.out.step (Below.refl _ _), HR0.out, rfl⟩
              · try simp only [hp]
                try clear hp
                go_wp2
                exact ⟨rfl, HC.out.step (Below.refl _ _), HR0.out, rfl⟩
              · try simp only [hp]
                try clear hp
                go_wp2
                exact ⟨rfl, HC.out.step (Below.refl _ _), HR0.out, rfl⟩
              · try simp only [hp]
                try clear hp
                go_wp2
                exact ⟨rfl, HC.out.step (Below.refl _ _), HR0.out, rfl⟩
              · try simp only [hp]
                try clear hp
                go_wp2
                first
                  | exact ⟨rfl, HC.out.step (Below.refl _ _), HR0.out, rfl⟩
                  | exact ⟨rfl, HC.out.step (Below.refl _ _), HR0.out, show Value.bool (decide ((bs.size : Int) < 60)) = .bool false from congrArg Value.bool (decide_eq_false (by omega))⟩
              · try simp only [hp]
                try clear hp
                go_wp2
                exact ⟨rfl, HC.out.step (Below.refl _ _), HR0.out, rfl⟩
              · try simp only [hp]
                try clear hp
                go_wp2
                exact ⟨rfl, HC.out.step (Below.refl _ _), HR0.out, fun h => absurd h (by decide)⟩
              · try simp only [hp]
                try clear hp
                go_wp2
                exact ⟨rfl, HC.out.step (Below.refl _ _), HR0.out, fun h => absurd h (by decide)⟩
              · try simp only [hp]
                try clear hp
                go_wp2
                exact ⟨rfl, HC.out.step (Below.refl _ _), HR0.out, fun h => absurd h (by decide)⟩
              · try simp only [hp]
                try clear hp
                go_wp2
                exact ⟨rfl, HC.out.step (Below.refl _ _), HR0.out, fun h => absurd h (by decide)⟩
              · try simp only [hp]
                try clear hp
                go_wp2
                exact ⟨rfl, HC.out.step (Below.refl _ _), HR0.out, fun h => absurd h (by decide)⟩
              · try simp only [hp]
                try clear hp
                go_wp2
                exact ⟨rfl, HC.out.step (Below.refl _ _), HR0.out, fun h => absurd h (by decide)⟩
              · try simp only [hp]
                try clear hp
                go_wp2
                exact ⟨rfl, HC.out.step (Below.refl _ _), HR0.out, fun h => absurd h (by decide)⟩
              · try simp only [hp]
                try clear hp
                go_wp2
                exact ⟨rfl, HC.out.step (Below.refl _ _), HR0.out, rfl⟩
              · try simp only [hp]
                try clear hp
                go_wp2
                exact ⟨rfl, HC.out.step (Below.refl _ _), HR0.out, rfl⟩
            · intro w10 vals hC hV
              have e31 := (show vals 31 = .bool false from hV 31 (by simp))
              have H10 := Lib.hid (H9.out.below hC.2.2.2)
              simp only [fillA, if_true, Act.put]
              simp
              simp only [e31]
              clear hV hC H9 HC9
              go_wp2
              go_roundw
              case rel => exact ⟨j + 1, k9, by omega, by go_num, by omega, H10⟩
              case measure => simp [intOf]; omega
        · obtain ⟨kq, hkq, hHq⟩ := HL.out.has
          have hll : l.length + 1 ≤ 4 := by omega
          go_wp2_with fail
          (with_reducible refine (has_rule w1.heap.size A len cap kq w1 wr hHq (by omega)).mono ?_)
          rintro e w3 ⟨st, c, f, m, n', hx, rfl, ⟨k3, hk3, h3⟩, ho3⟩
          have hrow := (row_only HL.out.row ho3 HL.out.lt).alloc (.cells #[.string st, .int .i64 c, .int .i64 f, .int .i64 m, .int .i64 n'] 29)
          have hsz := HL.out.size
          have hos := ho3.size
          have HG := Lib.hid (fun v4 w4 hr hgr => HL.out.grow (K' := q + 1 + 20 * (l.length + 1)) (v' := v4) (w4 := w4) hx h3 (by omega) ho3 hr hgr)
          clear hHq HL hx h3 ho3
          go_wp2_with (at_builtin; refine wpList_append_own _ rfl (.tmp 29) (.tmp 32) 44 rfl w2.heap.size 29 i0 (.agg #[.string ⟨#[]⟩, .int .i64 0, .int .i64 0, .int .i64 0, .int .i64 0]) 5 48 Tryd.underlying44 hii hz0 hz1 hz2 rfl (by decide) _ l.length (rcs l) rfl hrow ⟨w3.heap.size, 0, none⟩ 1 1 (rc5 ⟨st, c, f, m, n'⟩) rfl rfl (newRule w3 ⟨st, c, f, m, n'⟩ 29) (ruleOne _) (by unfold maxLen; omega) (by omega) (by simp; omega) ?_; intro v4 w4 hv4 hg4 _)
          have HL2 := Lib.hid (HG.out v4 w4 hv4 hg4)
          clear hv4 hg4 HG hrow
          go_wp2
          go_roundw
          case rel => exact ⟨t - 1, l ++ [⟨st, c, f, m, n'⟩], by simp; omega, by go_num, by simpa using HL2⟩
          case measure => simp [intOf]; omega
    · have hJ := HJ.out
      have ha' := HZA.out.later (hJ.2)
      have hb' := HZB.out.later (hJ.2)
      have HBr := Lib.hid (HB0.out.trans (hJ.2.mono HB0.out.size))
      have hlt' : ¬ ((j : Nat) : Int) < 4 := by omega
      have HCt := Lib.hid (show LtC w w.heap.size (w.heap.size + 1) (.string a0s) (.int .i64 ac) (.int .i64 af) (.int .i64 al) (.int .i64 an) (.string bs) (.int .i64 bc) (.int .i64 bp) (.int .i64 bl) (.int .i64 bf) 0 wr from ⟨ha', hb', HBr.out⟩)
      clear hJ HJ HZA HZB HK1 HK2 hlt
      by_cases c1 : 60 < a0s.size
      · have c1' : (60 : Int) < a0s.size := by omega
        obtain ⟨d0, d1, d2, d3, d4⟩ := ha'
        clear HM HMR c1 hb' HCt
        go_wp2_with fail
        go_quiet (fail)
        go_wp2
        go_ret
        exact ⟨rfl, Below_drewN HBr.out _⟩
      · have c1' : (a0s.size : Int) ≤ 60 := by omega
        by_cases c2 : 60 < bs.size
        · have c2' : (60 : Int) < bs.size := by omega
          have g2 : decide ((60 : Int) < bs.size) = true := decide_eq_true c2'
          clear HM HMR c1 c2 ha' hb'
          go_wp2_with fail
          refine wp_region_loose 104 (by kernel_rfl) (by kernel_rfl) (LtC w (w.heap.size) (w.heap.size + 1) (.string a0s) (.int .i64 ac) (.int .i64 af) (.int .i64 al) (.int .i64 an) (.string bs) (.int .i64 bc) (.int .i64 bp) (.int .i64 bl) (.int .i64 bf)) FoR (LtV (w.heap.size) (w.heap.size + 1) a0s bs #[.string a0s, .int .i64 ac, .int .i64 af, .int .i64 al, .int .i64 an] #[.string bs, .int .i64 bc, .int .i64 bp, .int .i64 bl, .int .i64 bf] false true true) rfl (fun i v w w' h hv => by unfold LtV at *; split at hv <;> exact hv) ?_ ?_ ?_
          · exact HCt.out.step (Below.refl _ _).drew
          · simp only [OblAll]
            refine ⟨?_, ?_, ?_, ?_, ?_, ?_, ?_, ?_, ?_, ?_, ?_, ?_, ?_, ?_, ?_, ?_, ?_, ?_, ?_, ?_, ?_, ?_, ?_, trivial⟩
            all_goals
              intro fu wx vals hC hp
              simp [predL, predE, Region.binds, PreV, LtV] at hp
              simp only [fillA, if_true, Act.put]
              simp
              have HC := Lib.hid hC
              obtain ⟨⟨a0, a1, a2, a3, a4⟩, ⟨c0, c1, c2, c3, c4⟩, _⟩ := hC
              have HR0 := Lib.hid (show FoR wx wx from Below.refl _ _)
            · try simp only [hp]
              try clear hp
              go_wp2
              exact ⟨rfl, HC.out.step (Below.refl _ _), HR0.out, rfl⟩
            · try simp only [hp]
              try clear hp
              go_wp2
              exact ⟨rfl, HC.out.step (Below.refl _ _), HR0.out, rfl⟩
            · try simp only [hp]
              try clear hp
              go_wp2
              exact ⟨rfl, HC.out.step (Below.refl _ _), HR0.out, rfl⟩
            · try simp only [hp]
              try clear hp
              go_wp2
              exact ⟨rfl, HC.out.step (Below.refl _ _), HR0.out, show Value.bool (decide ((60 : Int) < (a0s.size : Int))) = .bool false from congrArg Value.bool (decide_eq_false (by omega))⟩
            · try simp only [hp]
              try clear hp
              go_wp2
              exact ⟨rfl, HC.out.step (Below.refl _ _), HR0.out, rfl⟩
            · try simp only [hp]
              try clear hp
              go_wp2
              exact ⟨rfl, HC.out.step (Below.refl _ _), HR0.out, (fun _ => rfl)⟩
            · try simp only [hp]
              try clear hp
              go_wp2
              exact ⟨rfl, HC.out.step (Below.refl _ _), HR0.out, (fun _ => rfl)⟩
            · try simp only [hp]
              try clear hp
              go_wp2
              exact ⟨rfl, HC.out.step (Below.refl _ _), HR0.out, (fun _ => rfl)⟩
            · try simp only [hp]
              try clear hp
              go_wp2
              first
                | exact ⟨rfl, HC.out.step (Below.refl _ _), HR0.out, fun _ => rfl⟩
                | exact ⟨rfl, HC.out.step (Below.refl _ _), HR0.out, fun _ => show Value.bool (decide ((60 : Int) < (bs.size : Int))) = .bool true from congrArg Value.bool (decide_eq_true (by omega))⟩
            · try simp only [hp]
              try clear hp
              go_wp2
              exact ⟨rfl, HC.out.step (Below.refl _ _), HR0.out, rfl⟩
            · try simp only [hp]
              try clear hp
              go_wp2
              exact ⟨rfl, HC.out.step (Below.refl _ _), HR0.out, rfl⟩
            · try simp only [hp]
              try clear hp
              go_wp2
              exact ⟨rfl, HC.out.step (Below.refl _ _), HR0.out, fun h => absurd h (by decide)⟩
            · try simp only [hp]
              try clear hp
              go_wp2
              exact ⟨rfl, HC.out.step (Below.refl _ _), HR0.out, fun h => absurd h (by decide)⟩
            · try simp only [hp]
              try clear hp
              go_wp2
              exact ⟨rfl, HC.out.step (Below.refl _ _), HR0.out, fun h => absurd h (by decide)⟩
            · try simp only [hp]
              try clear hp
              go_wp2
              exact ⟨rfl, HC.out.step (Below.refl _ _), HR0.out, fun h => absurd h (by decide)⟩
            · try simp only [hp]
              try clear hp
              go_wp2
              exact ⟨rfl, HC.out.step (Below.refl _ _), HR0.out, fun h => absurd h (by decide)⟩
            · try simp only [hp]
              try clear hp
              go_wp2
              exact ⟨rfl, HC.out.step (Below.refl _ _), HR0.out, fun h => absurd h (by decide)⟩
            · try simp only [hp]
              try clear hp
              go_wp2
              exact ⟨rfl, HC.out.step (Below.refl _ _), HR0.out, fun h => absurd h (by decide)⟩
            · try simp only [hp]
              try clear hp
              go_wp2
              exact ⟨rfl, HC.out.step (Below.refl _ _), HR0.out, fun h => absurd h (by decide)⟩
            · try simp only [hp]
              try clear hp
              go_wp2_with fail
              all_goals
                first
                | exact ⟨rfl, HC.out.step (Below.refl _ _), HR0.out, fun h => absurd h (by decide)⟩
                | ((with_reducible refine (HA.out _ (HC.out.ws hW.out)).mono ?_); rintro e w' ⟨rfl, hb⟩; have HB := Lib.hid hb; go_wp2; exact ⟨rfl, HC.out.step HB.out, HB.out, fun h => absurd h (by decide)⟩)
            · try simp only [hp]
              try clear hp
              go_wp2
              exact ⟨rfl, HC.out.step (Below.refl _ _), HR0.out, fun h => absurd h (by decide)⟩
            · try simp only [hp]
              try clear hp
              go_wp2
              exact ⟨rfl, HC.out.step (Below.refl _ _), HR0.out, rfl⟩
            · try simp only [hp]
              try clear hp
              go_wp2
              exact ⟨rfl, HC.out.step (Below.refl _ _), HR0.out, rfl⟩
          · intro w6 vals hC hV
            have e22 := (show vals 22 = .bool true from hV 22 (by simp))
            have HBf := Lib.hid hC.2.2
            simp only [fillA, if_true, Act.put]
            simp
            simp only [e22]
            clear hV hC
            go_wp2
            go_ret
            exact ⟨rfl, HBf.out⟩
        · have c2' : (bs.size : Int) ≤ 60 := by omega
          have g2 : decide ((60 : Int) < bs.size) = false := decide_eq_false (by omega)
          have K1 := Lib.hid (fun w => HM.out a0s bs ac af al an bc bp bl bf w)
          have K2 := Lib.hid (fun w => HMR.out a0s bs ac af al an bc bp bl bf (by omega) (by omega) w)
          generalize mtR ⟨a0s, ac, af, al, an⟩ ⟨bs, bc, bp, bl, bf⟩ = z at *
          have t1 : (z == z) = true := by simp
          clear HM HMR c1 c2 ha' hb'
          go_wp2_with fail
          refine wp_region_loose 104 (by kernel_rfl) (by kernel_rfl) (LtC w (w.heap.size) (w.heap.size + 1) (.string a0s) (.int .i64 ac) (.int .i64 af) (.int .i64 al) (.int .i64 an) (.string bs) (.int .i64 bc) (.int .i64 bp) (.int .i64 bl) (.int .i64 bf)) FoR (LtV (w.heap.size) (w.heap.size + 1) a0s bs #[.string a0s, .int .i64 ac, .int .i64 af, .int .i64 al, .int .i64 an] #[.string bs, .int .i64 bc, .int .i64 bp, .int .i64 bl, .int .i64 bf] false false z) rfl (fun i v w w' h hv => by unfold LtV at *; split at hv <;> exact hv) ?_ ?_ ?_
          · exact HCt.out.step (Below.refl _ _).drew
          · simp only [OblAll]
            refine ⟨?_, ?_, ?_, ?_, ?_, ?_, ?_, ?_, ?_, ?_, ?_, ?_, ?_, ?_, ?_, ?_, ?_, ?_, ?_, ?_, ?_, ?_, ?_, trivial⟩
            all_goals
              intro fu wx vals hC hp
              simp [predL, predE, Region.binds, PreV, LtV] at hp
              simp only [fillA, if_true, Act.put]
              simp
              have HC := Lib.hid hC
              obtain ⟨⟨a0, a1, a2, a3, a4⟩, ⟨c0, c1, c2, c3, c4⟩, _⟩ := hC
              have HR0 := Lib.hid (show FoR wx wx from Below.refl _ _)
            · try simp only [hp]
              try clear hp
              go_wp2
              exact ⟨rfl, HC.out.step (Below.refl _ _), HR0.out, rfl⟩
            · try simp only [hp]
              try clear hp
              go_wp2
              exact ⟨rfl, HC.out.step (Below.refl _ _), HR0.out, rfl⟩
            · try simp only [hp]
              try clear hp
              go_wp2
              exact ⟨rfl, HC.out.step (Below.refl _ _), HR0.out, rfl⟩
            · try simp only [hp]
              try clear hp
              go_wp2
              exact ⟨rfl, HC.out.step (Below.refl _ _), HR0.out, show Value.bool (decide ((60 : Int) < (a0s.size : Int))) = .bool false from congrArg Value.bool (decide_eq_false (by omega))⟩
            · try simp only [hp]
              try clear hp
              go_wp2
              exact ⟨rfl, HC.out.step (Below.refl _ _), HR0.out, rfl⟩
            · try simp only [hp]
              try clear hp
              go_wp2
              exact ⟨rfl, HC.out.step (Below.refl _ _), HR0.out, (fun _ => rfl)⟩
            · try simp only [hp]
              try clear hp
              go_wp2
              exact ⟨rfl, HC.out.step (Below.refl _ _), HR0.out, (fun _ => rfl)⟩
            · try simp only [hp]
              try clear hp
              go_wp2
              exact ⟨rfl, HC.out.step (Below.refl _ _), HR0.out, (fun _ => rfl)⟩
            · try simp only [hp]
              try clear hp
              go_wp2
              first
                | exact ⟨rfl, HC.out.step (Below.refl _ _), HR0.out, fun _ => rfl⟩
                | exact ⟨rfl, HC.out.step (Below.refl _ _), HR0.out, fun _ => show Value.bool (decide ((60 : Int) < (bs.size : Int))) = .bool false from congrArg Value.bool (decide_eq_false (by omega))⟩
            · try simp only [hp]
              try clear hp
              go_wp2
              exact ⟨rfl, HC.out.step (Below.refl _ _), HR0.out, rfl⟩
            · try simp only [hp]
              try clear hp
              go_wp2
              exact ⟨rfl, HC.out.step (Below.refl _ _), HR0.out, rfl⟩
            · try simp only [hp]
              try clear hp
              go_wp2
              exact ⟨rfl, HC.out.step (Below.refl _ _), HR0.out, (fun _ => rfl)⟩
            · try simp only [hp]
              try clear hp
              go_wp2
              exact ⟨rfl, HC.out.step (Below.refl _ _), HR0.out, (fun _ => rfl)⟩
            · try simp only [hp]
              try clear hp
              go_wp2_with fail
              (with_reducible refine (K1.out _).mono ?_); rintro e w' ⟨rfl, hb⟩
              have HB := Lib.hid hb
              go_wp2
              exact ⟨rfl, HC.out.step HB.out, HB.out, (fun _ => rfl)⟩
            · try simp only [hp]
              try clear hp
              go_wp2
              exact ⟨rfl, HC.out.step (Below.refl _ _), HR0.out, (fun _ => rfl)⟩
            · try simp only [hp]
              try clear hp
              go_wp2
              exact ⟨rfl, HC.out.step (Below.refl _ _), HR0.out, (fun _ => rfl)⟩
            · try simp only [hp]
              try clear hp
              go_wp2_with fail
              (with_reducible refine (K2.out _).mono ?_); rintro e w' ⟨rfl, hb⟩
              have HB := Lib.hid hb
              go_wp2
              exact ⟨rfl, HC.out.step HB.out, HB.out, (fun _ => rfl)⟩
            · try simp only [hp]
              try clear hp
              go_wp2
              exact ⟨rfl, HC.out.step (Below.refl _ _), HR0.out, (fun _ => rfl)⟩
            · try simp only [hp]
              try clear hp
              go_wp2
              exact ⟨rfl, HC.out.step (Below.refl _ _), HR0.out, (fun _ => rfl)⟩
            · try simp only [hp]
              try clear hp
              go_wp2_with fail
              (with_reducible refine (HA.out _ (HC.out.ws hW.out)).mono ?_); rintro e w' ⟨rfl, hb⟩
              have HB := Lib.hid hb
              go_wp2
              exact ⟨rfl, HC.out.step HB.out, HB.out, (fun _ => rfl)⟩
            · try simp only [hp]
              try clear hp
              go_wp2
              exact ⟨rfl, HC.out.step (Below.refl _ _), HR0.out, (fun _ => rfl)⟩
            · try simp only [hp]
              try clear hp
              go_wp2
              exact ⟨rfl, HC.out.step (Below.refl _ _), HR0.out, rfl⟩
            · try simp only [hp]
              try clear hp
              go_wp2
              exact ⟨rfl, HC.out.step (Below.refl _ _), HR0.out, rfl⟩
          · intro w6 vals hC hV
            have e22 := (show vals 22 = .bool true from hV 22 (by simp))
            have HBf := Lib.hid hC.2.2
            simp only [fillA, if_true, Act.put]
            simp
            simp only [e22]
            clear hV hC
            go_wp2
            go_ret
            exact ⟨rfl, HBf.out⟩
end Go.Proofs.YtfkbohfelacaoaaDoor

