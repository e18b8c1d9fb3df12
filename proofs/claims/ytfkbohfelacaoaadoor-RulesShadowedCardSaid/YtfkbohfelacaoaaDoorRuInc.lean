/-
  Layer 9: contracts of includes, Covers and Matches. Written by a program (gen_ruinc.py).
-/
import Derived.Test.YtfkbohfelacaoaaDoorRuOk
import Derived.Test.YtfkbohfelacaoaaDoorLbCmp
namespace Go.Proofs.YtfkbohfelacaoaaDoor
open Go.ChangeShapes Go.WideShapes Go.ChangeAt Go.RowKit
set_option linter.unusedVariables false

/-- Classes and ports: program's words, reference's words. -/
def incN (ac af al bc bf bl : Int) : Bool := decide ((ac = -1 ∨ ac = bc) ∧ af ≤ bf ∧ bl ≤ al)
def refN (ac af al bc bf bl : Int) : Bool := decide ((ac < 0 ∨ ac = bc) ∧ af ≤ bf ∧ bl ≤ al)
def inc (a b : Rul) : Bool := (decide (a.st.size = 0) || decide (cmpN a.st b.st = 0)) && incN a.c a.f a.l b.c b.f b.l
theorem incN_no {ac af al bc bf bl : Int} (h : ¬ ((ac = -1 ∨ ac = bc) ∧ af ≤ bf ∧ bl ≤ al)) : false = incN ac af al bc bf bl := (decide_eq_false h).symm
theorem incN_last {ac af al bc bf bl : Int} (h : (ac = -1 ∨ ac = bc) ∧ af ≤ bf) : decide (bl ≤ al) = incN ac af al bc bf bl := by
  unfold incN; rw [decide_eq_decide]; omega
theorem refN_no {ac af al bc bf bl : Int} (h : ¬ ((ac < 0 ∨ ac = bc) ∧ af ≤ bf ∧ bl ≤ al)) : false = refN ac af al bc bf bl := (decide_eq_false h).symm
theorem refN_last {ac af al bc bf bl : Int} (h : (ac < 0 ∨ ac = bc) ∧ af ≤ bf) : decide (bl ≤ al) = refN ac af al bc bf bl := by
  unfold refN; rw [decide_eq_decide]; omega
theorem refN_inc {ac af al bc bf bl : Int} (h : -1 ≤ ac) : refN ac af al bc bf bl = incN ac af al bc bf bl := by
  unfold refN incN; rw [decide_eq_decide]; omega
theorem inc_cases (a b : Rul) : (a.st.size = 0 ∧ inc a b = incN a.c a.f a.l b.c b.f b.l) ∨ (¬ a.st.size = 0 ∧ cmpN a.st b.st = 0 ∧ inc a b = incN a.c a.f a.l b.c b.f b.l) ∨ (¬ a.st.size = 0 ∧ ¬ cmpN a.st b.st = 0 ∧ inc a b = false) := by
  unfold inc
  by_cases h : a.st.size = 0
  · exact .inl ⟨h, by simp [h]⟩
  · by_cases k : cmpN a.st b.st = 0
    · exact .inr (.inl ⟨h, k, by simp [k]⟩)
    · exact .inr (.inr ⟨h, k, by simp [h, k]⟩)
theorem nam_empty {s : ByteArray} (h : s.size = 0) : nam s = none := nam_size_no (by omega)
theorem cmp_empty {a b : ByteArray} (ha : (nam a).isSome = true) (hb : b.size = 0) : ¬ cmpN a b = 0 := by
  unfold cmpN
  rw [nam_empty hb]
  cases h : nam a with
  | none => rw [h] at ha; cases ha
  | some x => show ¬ (1 : Int) = 0; decide
theorem cov_inc {a b : Rul} (ha : ruOk a = true) (hb : ruOk b = true) : cov a b = inc a b := by
  rw [Bool.eq_iff_iff, cov_iff]
  have h1 := (ruOk_parts ha).2.1
  unfold inc incN
  rw [Bool.and_eq_true, Bool.or_eq_true, decide_eq_true_eq, decide_eq_true_eq, decide_eq_true_eq]
  constructor
  · rintro ⟨_, _, h, k, l1, l2⟩
    exact ⟨h.imp id (fun x => x.2), by omega, l1, l2⟩
  · rintro ⟨h, k, l1, l2⟩
    refine ⟨ha, hb, ?_, by omega, l1, l2⟩
    by_cases e : a.st.size = 0
    · exact .inl e
    · refine .inr ⟨fun k => ?_, h.resolve_left e⟩
      exact cmp_empty ((ruOk_parts ha).1.resolve_left e) k (h.resolve_left e)
theorem mt_inc {r : Rul} {h : Hdr} (hr : ruOk r = true) (hh : hdB h = true) (n : Int) : mtR r h = inc r ⟨h.st, h.c, h.p, h.p, n⟩ := by
  rw [Bool.eq_iff_iff, mtR_iff]
  have h1 := (ruOk_parts hr).2.1
  unfold inc incN
  rw [Bool.and_eq_true, Bool.or_eq_true, decide_eq_true_eq, decide_eq_true_eq, decide_eq_true_eq]
  constructor
  · rintro ⟨_, _, h, k, l1, l2⟩; exact ⟨h, by simp only; omega, l1, l2⟩
  · rintro ⟨h, k, l1, l2⟩; exact ⟨hr, hh, h, by simp only at k; omega, l1, l2⟩
theorem cov_no {a b : Rul} (h : ruOk a = false ∨ ruOk b = false) : cov a b = false := by
  unfold cov; rcases h with h | h <;> simp [h]
theorem mt_no {r : Rul} {h : Hdr} (k : ruOk r = false ∨ hdB h = false) : mtR r h = false := by
  unfold mtR; rcases k with k | k <;> simp [k]
/-- Two values, each in a new block. -/
theorem box2 (w : World) (t1 t2 : TypeId) (c1 c2 : Array Value) : Whole ((w.alloc (.cells c1 t1)).alloc (.cells c2 t2)) w.heap.size t1 c1 ∧ Whole ((w.alloc (.cells c1 t1)).alloc (.cells c2 t2)) (w.heap.size + 1) t2 c2 := by
  refine ⟨(Whole.fresh w t1 c1).alloc _, ?_⟩
  have h := Whole.fresh (w.alloc (.cells c1 t1)) t2 c2
  rwa [show (w.alloc (.cells c1 t1)).heap.size = w.heap.size + 1 by simp] at h
theorem box2_below (w : World) (o1 o2 : Obj) : Below w.heap.size w ((w.alloc o1).alloc o2) := ((Below.refl _ w).alloc (Nat.le_refl _) o1).alloc (by simp) o2
/-- Behind a call. -/
structure Kept2 (w w' : World) (t1 t2 : TypeId) (c1 c2 : Array Value) : Prop where
  one : Whole w' w.heap.size t1 c1
  two : Whole w' (w.heap.size + 1) t2 c2
  below : Below w.heap.size w w'
theorem Kept2.start (w : World) (t1 t2 : TypeId) (c1 c2 : Array Value) : Kept2 w ((w.alloc (.cells c1 t1)).alloc (.cells c2 t2)) t1 t2 c1 c2 := ⟨(box2 w t1 t2 c1 c2).1, (box2 w t1 t2 c1 c2).2, box2_below w _ _⟩
theorem Kept2.later {w w' w'' : World} {t1 t2 : TypeId} {c1 c2 : Array Value} (h : Kept2 w w' t1 t2 c1 c2) (hb : Below w'.heap.size w' w'') : Kept2 w w'' t1 t2 c1 c2 := ⟨h.one.later hb, h.two.later hb, h.below.trans (hb.mono h.below.size)⟩
theorem Kept2.cells5 {w w' : World} {t1 t2 : TypeId} {a0 a1 a2 a3 a4 b0 b1 b2 b3 b4 : Value} (h : Kept2 w w' t1 t2 #[a0, a1, a2, a3, a4] #[b0, b1, b2, b3, b4]) :
    (w'.cell? ⟨w.heap.size, 0, none⟩ = some a0 ∧ w'.cell? ⟨w.heap.size, 1, none⟩ = some a1 ∧ w'.cell? ⟨w.heap.size, 2, none⟩ = some a2 ∧ w'.cell? ⟨w.heap.size, 3, none⟩ = some a3 ∧ w'.cell? ⟨w.heap.size, 4, none⟩ = some a4) ∧
    (w'.cell? ⟨w.heap.size + 1, 0, none⟩ = some b0 ∧ w'.cell? ⟨w.heap.size + 1, 1, none⟩ = some b1 ∧ w'.cell? ⟨w.heap.size + 1, 2, none⟩ = some b2 ∧ w'.cell? ⟨w.heap.size + 1, 3, none⟩ = some b3 ∧ w'.cell? ⟨w.heap.size + 1, 4, none⟩ = some b4) := by
  have k := h.one
  have l := h.two
  exact ⟨⟨k.read 0, k.read 1, k.read 2, k.read 3, k.read 4⟩, ⟨l.read 0, l.read 1, l.read 2, l.read 3, l.read 4⟩⟩
set_option maxHeartbeats 4000000 in
theorem inc_any (s1 bs : ByteArray) (ac af al an bc bf bl bn : Int) (w : World) : Calls Tryd.prog 47 #[.agg #[.string s1, .int .i64 ac, .int .i64 af, .int .i64 al, .int .i64 an], .agg #[.string bs, .int .i64 bc, .int .i64 bf, .int .i64 bl, .int .i64 bn]] w (BoolAns (inc ⟨s1, ac, af, al, an⟩ ⟨bs, bc, bf, bl, bn⟩) w) := by
  have H := Lib.hid (fun w => compare_any s1 bs w)
  have N0 := Lib.hid (fun h => incN_no (ac := ac) (af := af) (al := al) (bc := bc) (bf := bf) (bl := bl) h)
  have N1 := Lib.hid (fun h => incN_last (ac := ac) (af := af) (al := al) (bc := bc) (bf := bf) (bl := bl) h)
  have HC := inc_cases ⟨s1, ac, af, al, an⟩ ⟨bs, bc, bf, bl, bn⟩
  unfold BoolAns
  unfold CmpAns at H
  rcases HC with ⟨h0, hr⟩ | ⟨h0, h1, hr⟩ | ⟨h0, h1, hr⟩
  · rw [hr]
    simp only at h0 N0 N1 ⊢
    generalize incN ac af al bc bf bl = r at *
    have e := empty_of h0
    subst e
    clear h0 H hr
    go_enter Tryd.func47, Tryd.ntmps47
    go_wp2
    all_goals
      go_ret
      first
        | exact ⟨ret_bool (N1.out (by omega)), box2_below w _ _⟩
        | exact ⟨ret_bool (N0.out (by omega)), box2_below w _ _⟩
  · rw [hr]
    simp only at h0 h1 ⊢
    unfold cmpN at h1
    rw [h1] at H
    generalize incN ac af al bc bf bl = r at *
    have he := str_ne h0
    clear h1 h0 hr
    have HK0 := Lib.hid (Kept2.start w 29 29 #[.string s1, .int .i64 ac, .int .i64 af, .int .i64 al, .int .i64 an] #[.string bs, .int .i64 bc, .int .i64 bf, .int .i64 bl, .int .i64 bn])
    go_enter Tryd.func47, Tryd.ntmps47
    go_wp2_with fail
    (with_reducible refine (H.out _).mono ?_); rintro e w1 ⟨rfl, hb⟩
    have HK1 := Lib.hid (HK0.out.later hb)
    clear hb
    obtain ⟨⟨d0, d1, d2, d3, d4⟩, ⟨e0, e1, e2, e3, e4⟩⟩ := HK1.out.cells5
    go_wp2
    all_goals
      go_ret
      first
        | exact ⟨ret_bool (N1.out (by omega)), HK1.out.below⟩
        | exact ⟨ret_bool (N0.out (by omega)), HK1.out.below⟩
  · rw [hr]
    simp only at h0 h1
    unfold cmpN at h1
    generalize cmpO (nam s1) (nam bs) = v at *
    have he := str_ne h0
    clear h0 hr N0 N1
    have HK0 := Lib.hid (Kept2.start w 29 29 #[.string s1, .int .i64 ac, .int .i64 af, .int .i64 al, .int .i64 an] #[.string bs, .int .i64 bc, .int .i64 bf, .int .i64 bl, .int .i64 bn])
    go_enter Tryd.func47, Tryd.ntmps47
    go_wp2_with fail
    (with_reducible refine (H.out _).mono ?_); rintro e w1 ⟨rfl, hb⟩
    have HK1 := Lib.hid (HK0.out.later hb)
    clear hb
    go_wp2
    go_ret
    exact ⟨rfl, HK1.out.below⟩
set_option maxHeartbeats 4000000 in
theorem cov_any (s1 bs : ByteArray) (ac af al an bc bf bl bn : Int) (w : World) : Calls Tryd.prog 24 #[.agg #[.string s1, .int .i64 ac, .int .i64 af, .int .i64 al, .int .i64 an], .agg #[.string bs, .int .i64 bc, .int .i64 bf, .int .i64 bl, .int .i64 bn]] w (BoolAns (cov ⟨s1, ac, af, al, an⟩ ⟨bs, bc, bf, bl, bn⟩) w) := by
  have HA := Lib.hid (fun w => rval_any s1 ac af al an w)
  have HB := Lib.hid (fun w => rval_any bs bc bf bl bn w)
  have HI := Lib.hid (fun w => inc_any s1 bs ac af al an bc bf bl bn w)
  have C1 := Lib.hid (fun ha hb => cov_inc (a := ⟨s1, ac, af, al, an⟩) (b := ⟨bs, bc, bf, bl, bn⟩) ha hb)
  have C0 := Lib.hid (fun h => cov_no (a := ⟨s1, ac, af, al, an⟩) (b := ⟨bs, bc, bf, bl, bn⟩) h)
  unfold BoolAns at *
  generalize ruOk ⟨s1, ac, af, al, an⟩ = x at *
  generalize ruOk ⟨bs, bc, bf, bl, bn⟩ = y at *
  have HK0 := Lib.hid (Kept2.start w 29 29 #[.string s1, .int .i64 ac, .int .i64 af, .int .i64 al, .int .i64 an] #[.string bs, .int .i64 bc, .int .i64 bf, .int .i64 bl, .int .i64 bn])
  cases x
  · rw [C0.out (.inl rfl)]
    clear C0 C1 HI HB
    go_enter Tryd.func24, Tryd.ntmps24
    go_wp2_with fail
    (with_reducible refine (HA.out _).mono ?_); rintro e w1 ⟨rfl, hb⟩
    have HK1 := Lib.hid (HK0.out.later hb)
    clear hb
    go_wp2
    go_ret
    exact ⟨rfl, HK1.out.below⟩
  · cases y
    · rw [C0.out (.inr rfl)]
      clear C0 C1 HI
      go_enter Tryd.func24, Tryd.ntmps24
      go_wp2_with fail
      (with_reducible refine (HA.out _).mono ?_); rintro e w1 ⟨rfl, hb⟩
      have HK1 := Lib.hid (HK0.out.later hb)
      clear hb
      obtain ⟨⟨d0, d1, d2, d3, d4⟩, ⟨e0, e1, e2, e3, e4⟩⟩ := HK1.out.cells5
      go_wp2_with fail
      (with_reducible refine (HB.out _).mono ?_); rintro e w2 ⟨rfl, hb⟩
      have HK2 := Lib.hid (HK1.out.later hb)
      clear hb
      clear d0 d1 d2 d3 d4 e0 e1 e2 e3 e4
      go_wp2
      go_ret
      exact ⟨rfl, HK2.out.below⟩
    · rw [C1.out rfl rfl]
      clear C0 C1
      generalize inc ⟨s1, ac, af, al, an⟩ ⟨bs, bc, bf, bl, bn⟩ = z at *
      go_enter Tryd.func24, Tryd.ntmps24
      go_wp2_with fail
      (with_reducible refine (HA.out _).mono ?_); rintro e w1 ⟨rfl, hb⟩
      have HK1 := Lib.hid (HK0.out.later hb)
      clear hb
      obtain ⟨⟨d0, d1, d2, d3, d4⟩, ⟨e0, e1, e2, e3, e4⟩⟩ := HK1.out.cells5
      go_wp2_with fail
      (with_reducible refine (HB.out _).mono ?_); rintro e w2 ⟨rfl, hb⟩
      have HK2 := Lib.hid (HK1.out.later hb)
      clear hb
      clear d0 d1 d2 d3 d4 e0 e1 e2 e3 e4
      obtain ⟨⟨d0, d1, d2, d3, d4⟩, ⟨e0, e1, e2, e3, e4⟩⟩ := HK2.out.cells5
      go_wp2_with fail
      (with_reducible refine (HI.out _).mono ?_); rintro e w3 ⟨rfl, hb⟩
      have HK3 := Lib.hid (HK2.out.later hb)
      clear hb
      go_wp2
      go_ret
      exact ⟨rfl, HK3.out.below⟩
set_option maxHeartbeats 4000000 in
theorem mt_any (s1 hs : ByteArray) (ac af al an hc hp hl hf : Int) (w : World) : Calls Tryd.prog 22 #[.agg #[.string s1, .int .i64 ac, .int .i64 af, .int .i64 al, .int .i64 an], .agg #[.string hs, .int .i64 hc, .int .i64 hp, .int .i64 hl, .int .i64 hf]] w (BoolAns (mtR ⟨s1, ac, af, al, an⟩ ⟨hs, hc, hp, hl, hf⟩) w) := by
  have HA := Lib.hid (fun w => rval_any s1 ac af al an w)
  have HB := Lib.hid (fun w => valid8_any hs hc hp hl hf w)
  have HI := Lib.hid (fun w => inc_any s1 hs ac af al an hc hp hp 0 w)
  have C1 := Lib.hid (fun ha hb => mt_inc (r := ⟨s1, ac, af, al, an⟩) (h := ⟨hs, hc, hp, hl, hf⟩) ha hb 0)
  have C0 := Lib.hid (fun h => mt_no (r := ⟨s1, ac, af, al, an⟩) (h := ⟨hs, hc, hp, hl, hf⟩) h)
  unfold BoolAns at *
  simp only [show hdB ⟨hs, hc, hp, hl, hf⟩ = hdOk hs hc hp hl hf from rfl] at C0 C1
  generalize ruOk ⟨s1, ac, af, al, an⟩ = x at *
  generalize hdOk hs hc hp hl hf = y at *
  have HK0 := Lib.hid (Kept2.start w 29 43 #[.string s1, .int .i64 ac, .int .i64 af, .int .i64 al, .int .i64 an] #[.string hs, .int .i64 hc, .int .i64 hp, .int .i64 hl, .int .i64 hf])
  cases x
  · rw [C0.out (.inl rfl)]
    clear C0 C1 HI HB
    go_enter Tryd.func22, Tryd.ntmps22
    go_wp2_with fail
    (with_reducible refine (HA.out _).mono ?_); rintro e w1 ⟨rfl, hb⟩
    have HK1 := Lib.hid (HK0.out.later hb)
    clear hb
    go_wp2
    go_ret
    exact ⟨rfl, HK1.out.below⟩
  · cases y
    · rw [C0.out (.inr rfl)]
      clear C0 C1 HI
      go_enter Tryd.func22, Tryd.ntmps22
      go_wp2_with fail
      (with_reducible refine (HA.out _).mono ?_); rintro e w1 ⟨rfl, hb⟩
      have HK1 := Lib.hid (HK0.out.later hb)
      clear hb
      obtain ⟨⟨d0, d1, d2, d3, d4⟩, ⟨e0, e1, e2, e3, e4⟩⟩ := HK1.out.cells5
      go_wp2_with fail
      (with_reducible refine (HB.out _).mono ?_); rintro e w2 ⟨rfl, hb⟩
      have HK2 := Lib.hid (HK1.out.later hb)
      clear hb
      clear d0 d1 d2 d3 d4 e0 e1 e2 e3 e4
      go_wp2
      go_ret
      exact ⟨rfl, HK2.out.below⟩
    · rw [C1.out rfl rfl]
      clear C0 C1
      generalize inc ⟨s1, ac, af, al, an⟩ ⟨hs, hc, hp, hp, 0⟩ = z at *
      go_enter Tryd.func22, Tryd.ntmps22
      go_wp2_with fail
      (with_reducible refine (HA.out _).mono ?_); rintro e w1 ⟨rfl, hb⟩
      have HK1 := Lib.hid (HK0.out.later hb)
      clear hb
      obtain ⟨⟨d0, d1, d2, d3, d4⟩, ⟨e0, e1, e2, e3, e4⟩⟩ := HK1.out.cells5
      go_wp2_with fail
      (with_reducible refine (HB.out _).mono ?_); rintro e w2 ⟨rfl, hb⟩
      have HK2 := Lib.hid (HK1.out.later hb)
      clear hb
      clear d0 d1 d2 d3 d4 e0 e1 e2 e3 e4
      obtain ⟨⟨d0, d1, d2, d3, d4⟩, ⟨e0, e1, e2, e3, e4⟩⟩ := HK2.out.cells5
      go_wp2_with fail
      (with_reducible refine (HI.out _).mono ?_); rintro e w3 ⟨rfl, hb⟩
      have HK3 := Lib.hid (HK2.out.later hb)
      clear hb
      go_wp2
      go_ret
      exact ⟨rfl, HK3.out.below⟩
end Go.Proofs.YtfkbohfelacaoaaDoor

