/-
  Layer 9: contract of Parse.
-/
import Derived.Test.YtfkbohfelacaoaaDoorRuCut
import Derived.Test.YtfkbohfelacaoaaDoorRuOk
import Derived.Test.YtfkbohfelacaoaaDoorHdGen
namespace Go.Proofs.YtfkbohfelacaoaaDoor
open Go.ChangeShapes Go.WideShapes Go.ChangeAt Go.RowKit
set_option linter.unusedVariables false

def zeroR : Rul := ⟨⟨#[]⟩, 0, 0, 0, 0⟩
/-- The rule that is returned for a text. -/
def pRu (l : List UInt8) : Rul := match synL l with
  | some r => if ruOk r then r else zeroR
  | none => zeroR
def PaAns (l : List UInt8) (w : World) (e : Ending) (w' : World) : Prop :=
  e = .returned (.tuple #[.agg #[.string (pRu l).st, .int .i64 (pRu l).c, .int .i64 (pRu l).f, .int .i64 (pRu l).l, .int .i64 (pRu l).w], .int .i64 (ruE l)]) ∧ Below w.heap.size w w'
theorem pa_none {l : List UInt8} (h : synL l = none) : pRu l = zeroR ∧ ruE l = 8 := by unfold pRu ruE; rw [h]; exact ⟨rfl, rfl⟩
theorem pa_bad {l : List UInt8} {r : Rul} (h : synL l = some r) (k : ruOk r = false) : pRu l = zeroR ∧ ruE l = 1 := by unfold pRu ruE; rw [h]; simp [k]
theorem pa_good {l : List UInt8} {r : Rul} (h : synL l = some r) (k : ruOk r = true) : pRu l = r ∧ ruE l = 0 := by unfold pRu ruE; rw [h]; simp [k]
theorem cutK_len : ∀ (k : Nat) {l : List UInt8} {ws : List (List UInt8)}, cutK k l = some ws → ∀ x ∈ ws, x.length ≤ l.length
  | 0, l, ws, h, x, hx => by
    rw [cutK] at h
    split at h
    · cases h
    · cases h; simp only [List.mem_singleton] at hx; rw [hx]; exact Nat.le_refl _
  | k + 1, l, ws, h, x, hx => by
    rw [cutK] at h
    cases hc : cutB 32 l with
    | none => rw [hc] at h; cases h
    | some p =>
      rw [hc] at h
      simp only at h
      split at h
      · cases h
      · obtain ⟨h1, h2⟩ := cutB_some (x := p.1) (y := p.2) hc
        have hl : l.length = p.1.length + 1 + p.2.length := by rw [h2]; simp; omega
        cases hy : cutK k p.2 with
        | none => rw [hy] at h; cases h
        | some vs =>
          rw [hy] at h
          have e : p.1 :: vs = ws := by simpa using h
          rw [← e] at hx
          rcases List.mem_cons.1 hx with rfl | hx
          · omega
          · have := cutK_len k hy x hx; omega
theorem four_len {l a b c d : List UInt8} (h : four l = some (a, b, c, d)) : a.length ≤ l.length ∧ b.length ≤ l.length ∧ c.length ≤ l.length ∧ d.length ≤ l.length := by
  unfold four at h
  split at h
  · rename_i x y z u hk
    cases h
    exact ⟨cutK_len 3 hk a (by simp), cutK_len 3 hk b (by simp), cutK_len 3 hk c (by simp), cutK_len 3 hk d (by simp)⟩
  · cases h
/-- In Parse: the result's block, the words' block, the rest. -/
structure PK (w wx : World) (b4 : Nat) (u0 u1 u2 u3 : ByteArray) : Prop where
  res : Whole wx w.heap.size 29 #[.string ⟨#[]⟩, .int .i64 0, .int .i64 0, .int .i64 0, .int .i64 0]
  wds : Whole wx b4 62 #[.string u0, .string u1, .string u2, .string u3]
  below : Below w.heap.size w wx
  ws : WS wx
theorem PK.later {w wx wy : World} {b4 : Nat} {u0 u1 u2 u3 : ByteArray} (h : PK w wx b4 u0 u1 u2 u3) (hb : Below wx.heap.size wx wy) : PK w wy b4 u0 u1 u2 u3 :=
  ⟨h.res.later hb, h.wds.later hb, h.below.trans (hb.mono h.below.size), h.ws.below hb⟩
/-- The result's block written, read back. -/
theorem res_put {w : World} {H : Nat} {t : TypeId} {c0 c1 c2 c3 c4 u0 u1 u2 u3 u4 : Value} (h : Whole w H t #[c0, c1, c2, c3, c4]) :
    (put5 w H u0 u1 u2 u3 u4).cell? ⟨H, 0, none⟩ = some u0 ∧ (put5 w H u0 u1 u2 u3 u4).cell? ⟨H, 1, none⟩ = some u1 ∧ (put5 w H u0 u1 u2 u3 u4).cell? ⟨H, 2, none⟩ = some u2 ∧ (put5 w H u0 u1 u2 u3 u4).cell? ⟨H, 3, none⟩ = some u3 ∧ (put5 w H u0 u1 u2 u3 u4).cell? ⟨H, 4, none⟩ = some u4 :=
  ⟨h.put5.read 0, h.put5.read 1, h.put5.read 2, h.put5.read 3, h.put5.read 4⟩
set_option maxHeartbeats 4000000 in
theorem parse_any (s : ByteArray) (hs : s.size ≤ 2000000) (w : World) (hw : WS w) : Calls Tryd.prog 16 #[.string s] w (PaAns s.data.toList w) := by
  have HC := Lib.hid (fun w => cut_any s hs w)
  have hW := Lib.hid hw
  have hl := len_size s
  have HL := Lib.hid (fun a b c d h => four_len (l := s.data.toList) (a := a) (b := b) (c := c) (d := d) h)
  rw [hl] at HL
  have HS0 := Lib.hid (fun h => pa_none (l := s.data.toList) (syn_no h))
  have HSY := Lib.hid (fun a b c d h => syn_parts (l := s.data.toList) (a := a) (b := b) (c := c) (d := d) h)
  have P0 := Lib.hid (fun h => pa_none (l := s.data.toList) h)
  have P1 := Lib.hid (fun r h k => pa_bad (l := s.data.toList) (r := r) h k)
  have P2 := Lib.hid (fun r h k => pa_good (l := s.data.toList) (r := r) h k)
  unfold PaAns
  generalize pRu s.data.toList = pr at *
  generalize ruE s.data.toList = pe at *
  clear hw hl
  have HZ := Lib.hid (Whole.fresh w 29 #[.string ⟨#[]⟩, .int .i64 0, .int .i64 0, .int .i64 0, .int .i64 0])
  go_enter Tryd.func16, Tryd.ntmps16
  go_wp2_with fail
  (with_reducible refine (HC.out _).mono ?_)
  rintro e w1 ⟨u0, u1, u2, u3, b, rfl, hb, hcase⟩
  have hz1 := HZ.out.later hb
  have hb1 := ((Below.refl _ _).alloc (Nat.le_refl _) _).trans (hb.mono (by simp))
  have hw1 := hW.out.below hb1
  have HK := Lib.hid (show PK w (w1.alloc (.cells #[.string u0, .string u1, .string u2, .string u3] 62)) w1.heap.size u0 u1 u2 u3 from ⟨hz1.alloc _, Whole.fresh _ _ _, hb1.trans ((Below.refl _ w1).alloc hb1.size _), hw1.below ((Below.refl _ w1).alloc (Nat.le_refl _) _)⟩)
  have hlt : w.heap.size < w1.heap.size := hz1.size_lt
  obtain ⟨d0, d1, d2, d3, d4⟩ : w1.cell? ⟨w.heap.size, 0, none⟩ = some (.string ⟨#[]⟩) ∧ w1.cell? ⟨w.heap.size, 1, none⟩ = some (.int .i64 0) ∧ w1.cell? ⟨w.heap.size, 2, none⟩ = some (.int .i64 0) ∧ w1.cell? ⟨w.heap.size, 3, none⟩ = some (.int .i64 0) ∧ w1.cell? ⟨w.heap.size, 4, none⟩ = some (.int .i64 0) := ⟨hz1.read 0, hz1.read 1, hz1.read 2, hz1.read 3, hz1.read 4⟩
  have z0 := hz1.free 0
  have z1 := hz1.free 1
  have z2 := hz1.free 2
  have z3 := hz1.free 3
  have z4 := hz1.free 4
  have HF0 := Lib.hid (And.intro (hz1.put5 (u0 := .string ⟨#[]⟩) (u1 := .int .i64 0) (u2 := .int .i64 0) (u3 := .int .i64 0) (u4 := .int .i64 0) |>.alloc (.cells #[.string u0, .string u1, .string u2, .string u3] 62)) ((hb1.trans (put5_below (w := w1) (H := w.heap.size) (u0 := .string ⟨#[]⟩) (u1 := .int .i64 0) (u2 := .int .i64 0) (u3 := .int .i64 0) (u4 := .int .i64 0) (Nat.le_refl _))).alloc (by rw [put5_size]; exact hb1.size) (.cells #[.string u0, .string u1, .string u2, .string u3] 62)))
  unfold put5 at HF0
  clear hz1 hb1 hw1 hb HZ hW HC
  rcases hcase with ⟨rfl, h4⟩ | ⟨rfl, h4⟩
  · obtain ⟨q1, q2⟩ := HS0.out h4
    subst q1 q2
    clear h4 HS0 HSY P0 P1 P2 HL HK
    go_wp2
    have hp := HF0.out.1
    have p0 := hp.read 0
    have p1 := hp.read 1
    have p2 := hp.read 2
    have p3 := hp.read 3
    have p4 := hp.read 4
    simp only [List.getElem?_toArray, List.getElem?_cons_zero, List.getElem?_cons_succ] at p0 p1 p2 p3 p4
    exact bodyPost_ret (v := .tuple #[.agg #[.string ⟨#[]⟩, .int .i64 0, .int .i64 0, .int .i64 0, .int .i64 0], .int .i64 8]) (by simp [results, Tryd.results16, go_sem, p0, p1, p2, p3, p4]) rfl ⟨rfl, HF0.out.2⟩
  · have hsy := HSY.out _ _ _ _ h4
    obtain ⟨l0, l1, l2, l3⟩ := HL.out _ _ _ _ h4
    rw [len_size] at l0 l1 l2 l3
    clear HF0 HS0 HSY HL d0 d1 d2 d3 d4 z0 z1 z2 z3 z4 h4
    have H1 := Lib.hid (fun w hw => parseClass_any u1 w hw)
    have H2 := Lib.hid (fun w hw => parsePorts_any u2 (by omega) w hw)
    have H3 := Lib.hid (fun w hw => parseFlow_any u3 w hw)
    have H4 := Lib.hid (fun w => parseStation_any u0 (by omega) w)
    unfold ClsAns at H1
    unfold PoAns at H2
    unfold FlAns at H3
    generalize stL u0.data.toList = st at *
    generalize clI u1.data.toList = c at *
    generalize clB' u1.data.toList = bc at *
    generalize (poT u2.data.toList).1 = f at *
    generalize (poT u2.data.toList).2.1 = l at *
    generalize (poT u2.data.toList).2.2 = bp at *
    generalize flI u3.data.toList = n at *
    generalize flB u3.data.toList = bf at *
    have H5 := Lib.hid (fun w => rval_any st c f l n w)
    unfold BoolAns at H5
    have hsyh := Lib.hid hsy
    have hk := HK.out
    have d1 := hk.wds.read 1
    simp only [List.getElem?_toArray, List.getElem?_cons_zero, List.getElem?_cons_succ] at d1
    clear hsy hk l0 l1 l2 l3 hs
    go_wp2_with fail
    (with_reducible refine (H1.out _ HK.out.ws).mono ?_); rintro e w2 ⟨rfl, hb⟩
    have HK2 := Lib.hid (HK.out.later hb)
    clear hb d1 HK
    have d2 := HK2.out.wds.read 2
    simp only [List.getElem?_toArray, List.getElem?_cons_zero, List.getElem?_cons_succ] at d2
    go_wp2_with fail
    (with_reducible refine (H2.out _ HK2.out.ws).mono ?_); rintro e w3 ⟨rfl, hb⟩
    have HK3 := Lib.hid (HK2.out.later hb)
    clear hb d2 HK2
    have d3 := HK3.out.wds.read 3
    simp only [List.getElem?_toArray, List.getElem?_cons_zero, List.getElem?_cons_succ] at d3
    go_wp2_with fail
    (with_reducible refine (H3.out _ HK3.out.ws).mono ?_); rintro e w4 ⟨rfl, hb⟩
    have HK4 := Lib.hid (HK3.out.later hb)
    clear hb d3 HK3 H1 H2 H3
    by_cases hall : (bc && bp && bf) = true
    · have hsy := Lib.hid (hsyh.out.trans (if_pos hall))
      obtain ⟨rfl, rfl, rfl⟩ : bc = true ∧ bp = true ∧ bf = true := by
        cases bc <;> cases bp <;> cases bf <;> simp_all
      clear hall hsyh
      have d0 := HK4.out.wds.read 0
      simp only [List.getElem?_toArray, List.getElem?_cons_zero] at d0
      go_wp2_with fail
      (with_reducible refine (H4.out _).mono ?_); rintro e w5 ⟨rfl, hb⟩
      have HK5 := Lib.hid (HK4.out.later hb)
      clear hb d0 HK4 H4
      go_wp2_with fail
      have HR5 := Lib.hid (show Whole (w5.alloc (.cells #[.string st, .int .i64 c, .int .i64 f, .int .i64 l, .int .i64 n] 29)) w5.heap.size 29 #[.string st, .int .i64 c, .int .i64 f, .int .i64 l, .int .i64 n] from Whole.fresh _ _ _)
      (with_reducible refine (H5.out _).mono ?_); rintro e w6 ⟨rfl, hb⟩
      have HK6 := Lib.hid (HK5.out.later (((Below.refl _ w5).alloc (Nat.le_refl _) _).trans (hb.mono (by simp))))
      have HR6 := Lib.hid (HR5.out.later hb)
      clear hb HK5 HR5 H5
      have hz := HK6.out.res
      obtain ⟨d0, d1, d2, d3, d4⟩ : w6.cell? ⟨w.heap.size, 0, none⟩ = some (.string ⟨#[]⟩) ∧ w6.cell? ⟨w.heap.size, 1, none⟩ = some (.int .i64 0) ∧ w6.cell? ⟨w.heap.size, 2, none⟩ = some (.int .i64 0) ∧ w6.cell? ⟨w.heap.size, 3, none⟩ = some (.int .i64 0) ∧ w6.cell? ⟨w.heap.size, 4, none⟩ = some (.int .i64 0) := ⟨hz.read 0, hz.read 1, hz.read 2, hz.read 3, hz.read 4⟩
      have z0 := hz.free 0
      have z1 := hz.free 1
      have z2 := hz.free 2
      have z3 := hz.free 3
      have z4 := hz.free 4
      cases hv : ruOk ⟨st, c, f, l, n⟩ with
      | false =>
        obtain ⟨q1, q2⟩ := P1.out _ hsy.out hv
        subst q1 q2
        have HF0 := Lib.hid (And.intro (hz.put5 (u0 := .string ⟨#[]⟩) (u1 := .int .i64 0) (u2 := .int .i64 0) (u3 := .int .i64 0) (u4 := .int .i64 0)) (HK6.out.below.trans (put5_below (w := w6) (H := w.heap.size) (u0 := .string ⟨#[]⟩) (u1 := .int .i64 0) (u2 := .int .i64 0) (u3 := .int .i64 0) (u4 := .int .i64 0) (Nat.le_refl _))))
        unfold put5 at HF0
        clear hz HK6 HR6 P0 P1 P2 hsy hv
        go_wp2
        have hp := HF0.out.1
        have p0 := hp.read 0
        have p1 := hp.read 1
        have p2 := hp.read 2
        have p3 := hp.read 3
        have p4 := hp.read 4
        simp only [List.getElem?_toArray, List.getElem?_cons_zero, List.getElem?_cons_succ] at p0 p1 p2 p3 p4
        exact bodyPost_ret (v := .tuple #[.agg #[.string ⟨#[]⟩, .int .i64 0, .int .i64 0, .int .i64 0, .int .i64 0], .int .i64 1]) (by simp [results, Tryd.results16, go_sem, p0, p1, p2, p3, p4]) rfl ⟨rfl, HF0.out.2⟩
      | true =>
        obtain ⟨q1, q2⟩ := P2.out _ hsy.out hv
        subst q1 q2
        have hr := HR6.out
        obtain ⟨e0, e1, e2, e3, e4⟩ : w6.cell? ⟨w5.heap.size, 0, none⟩ = some (.string st) ∧ w6.cell? ⟨w5.heap.size, 1, none⟩ = some (.int .i64 c) ∧ w6.cell? ⟨w5.heap.size, 2, none⟩ = some (.int .i64 f) ∧ w6.cell? ⟨w5.heap.size, 3, none⟩ = some (.int .i64 l) ∧ w6.cell? ⟨w5.heap.size, 4, none⟩ = some (.int .i64 n) := ⟨hr.read 0, hr.read 1, hr.read 2, hr.read 3, hr.read 4⟩
        have HF0 := Lib.hid (And.intro (hz.put5 (u0 := .string st) (u1 := .int .i64 c) (u2 := .int .i64 f) (u3 := .int .i64 l) (u4 := .int .i64 n)) (HK6.out.below.trans (put5_below (w := w6) (H := w.heap.size) (u0 := .string st) (u1 := .int .i64 c) (u2 := .int .i64 f) (u3 := .int .i64 l) (u4 := .int .i64 n) (Nat.le_refl _))))
        unfold put5 at HF0
        clear hz hr HK6 HR6 P0 P1 P2 hsy hv
        go_wp2
        have hp := HF0.out.1
        have p0 := hp.read 0
        have p1 := hp.read 1
        have p2 := hp.read 2
        have p3 := hp.read 3
        have p4 := hp.read 4
        simp only [List.getElem?_toArray, List.getElem?_cons_zero, List.getElem?_cons_succ] at p0 p1 p2 p3 p4
        exact bodyPost_ret (v := .tuple #[.agg #[.string st, .int .i64 c, .int .i64 f, .int .i64 l, .int .i64 n], .int .i64 0]) (by simp [results, Tryd.results16, go_sem, p0, p1, p2, p3, p4]) rfl ⟨rfl, HF0.out.2⟩
    · have hsy := Lib.hid (hsyh.out.trans (if_neg hall))
      obtain ⟨q1, q2⟩ := P0.out hsy.out
      subst q1 q2
      clear P0 P1 P2 hsy hsyh H4 H5
      have hz := HK4.out.res
      obtain ⟨d0, d1, d2, d3, d4⟩ : w4.cell? ⟨w.heap.size, 0, none⟩ = some (.string ⟨#[]⟩) ∧ w4.cell? ⟨w.heap.size, 1, none⟩ = some (.int .i64 0) ∧ w4.cell? ⟨w.heap.size, 2, none⟩ = some (.int .i64 0) ∧ w4.cell? ⟨w.heap.size, 3, none⟩ = some (.int .i64 0) ∧ w4.cell? ⟨w.heap.size, 4, none⟩ = some (.int .i64 0) := ⟨hz.read 0, hz.read 1, hz.read 2, hz.read 3, hz.read 4⟩
      have z0 := hz.free 0
      have z1 := hz.free 1
      have z2 := hz.free 2
      have z3 := hz.free 3
      have z4 := hz.free 4
      have HF0 := Lib.hid (And.intro (hz.put5 (u0 := .string ⟨#[]⟩) (u1 := .int .i64 0) (u2 := .int .i64 0) (u3 := .int .i64 0) (u4 := .int .i64 0)) (HK4.out.below.trans (put5_below (w := w4) (H := w.heap.size) (u0 := .string ⟨#[]⟩) (u1 := .int .i64 0) (u2 := .int .i64 0) (u3 := .int .i64 0) (u4 := .int .i64 0) (Nat.le_refl _))))
      unfold put5 at HF0
      clear hz HK4
      have hall' : bc = false ∨ (bc = true ∧ bp = false) ∨ (bc = true ∧ bp = true ∧ bf = false) := by cases bc <;> cases bp <;> cases bf <;> simp_all
      clear hall
      rcases hall' with rfl | ⟨rfl, rfl⟩ | ⟨rfl, rfl, rfl⟩
      all_goals
        go_wp2
        have hp := HF0.out.1
        have p0 := hp.read 0
        have p1 := hp.read 1
        have p2 := hp.read 2
        have p3 := hp.read 3
        have p4 := hp.read 4
        simp only [List.getElem?_toArray, List.getElem?_cons_zero, List.getElem?_cons_succ] at p0 p1 p2 p3 p4
        exact bodyPost_ret (v := .tuple #[.agg #[.string ⟨#[]⟩, .int .i64 0, .int .i64 0, .int .i64 0, .int .i64 0], .int .i64 8]) (by simp [results, Tryd.results16, go_sem, p0, p1, p2, p3, p4]) rfl ⟨rfl, HF0.out.2⟩
end Go.Proofs.YtfkbohfelacaoaaDoor

