/-
  Layer 9: contract of the reference's ParseRule. Written by a program (gen_rupr.py).
-/
import Derived.Test.YtfkbohfelacaoaaDoorRuParse
import Derived.Test.YtfkbohfelacaoaaDoorRuWords
namespace Go.Proofs.YtfkbohfelacaoaaDoor
open Go.ChangeShapes Go.WideShapes Go.ChangeAt Go.RowKit
set_option linter.unusedVariables false

/-- A text by its words, as the reference asks. -/
theorem syn_len {l : List UInt8} (h : ¬ (wsp 32 l).length = 4) : synL l = none := by
  unfold synL
  match hw : wsp 32 l with
  | [] => rfl
  | [_] => rfl
  | [_, _] => rfl
  | [_, _, _] => rfl
  | [a, b, c, d] => rw [hw] at h; exact absurd rfl h
  | _ :: _ :: _ :: _ :: _ :: _ => rfl
theorem syn_first {l a b c d : List UInt8} (h : wsp 32 l = [a, b, c, d]) (k : a = [] ∨ ¬ nb d 0 = 62) : synL l = none := by
  unfold synL; rw [h]; exact if_pos k
theorem syn_words {l a b c d : List UInt8} (h : wsp 32 l = [a, b, c, d]) (k1 : ¬ a = []) (k2 : nb d 0 = 62) : synL l = if clB' b && (poT c).2.2 && nB (d.drop 1) then some ⟨stL a, clI b, (poT c).1, (poT c).2.1, nI (d.drop 1)⟩ else none := by
  by_cases hb : b = []
  · subst hb
    unfold synL; rw [h]
    show (if a = [] ∨ ¬ nb d 0 = 62 then none else _) = _
    split <;> rfl
  · by_cases hc : c = []
    · subst hc
      unfold synL; rw [h]
      show (if a = [] ∨ ¬ nb d 0 = 62 then none else _) = _
      have : (poT []).2.2 = false := rfl
      rw [this, Bool.and_false, Bool.false_and]
      split
      · rfl
      · show Option.bind _ _ = none; cases clsL b <;> rfl
    · have hd : ¬ d = [] := by intro e; rw [e] at k2; exact absurd k2 (by decide)
      have h4 : four l = some (a, b, c, d) := by
        unfold four
        rw [cutK_wsp, h, if_pos ⟨rfl, by simp only [List.mem_cons, List.not_mem_nil, or_false, not_or]; exact ⟨Ne.symm k1, Ne.symm hb, Ne.symm hc, Ne.symm hd⟩⟩]
      have := syn_parts h4
      rw [(fl_yes k2).1, (fl_yes k2).2] at this
      exact this
theorem wsp_size (c : UInt8) : ∀ (l : List UInt8), ∀ x ∈ wsp c l, x.length ≤ l.length
  | [], x, hx => by simp [wsp] at hx; subst hx; simp
  | b :: l, x, hx => by
    rw [wsp] at hx
    split at hx
    · rcases List.mem_cons.1 hx with rfl | hx
      · simp
      · have := wsp_size c l x hx; simp; omega
    · split at hx
      · simp only [List.mem_singleton] at hx; subst hx; simp
      · rename_i w ws h
        rcases List.mem_cons.1 hx with rfl | hx
        · have := wsp_size c l w (by rw [h]; simp); simp; omega
        · have := wsp_size c l x (by rw [h]; simp [hx]); simp; omega
/-- In ParseRule: the result's block, the words' cells, the rule's block. -/
structure RK (w wx : World) (g b5 : Nat) (u0 u1 u2 u3 : ByteArray) (st : ByteArray) (c f l n : Int) : Prop where
  res : Whole wx w.heap.size 29 #[.string ⟨#[]⟩, .int .i64 0, .int .i64 0, .int .i64 0, .int .i64 0]
  wd0 : wx.cell? ⟨g, 0, none⟩ = some (.string u0)
  wd1 : wx.cell? ⟨g, 1, none⟩ = some (.string u1)
  wd2 : wx.cell? ⟨g, 2, none⟩ = some (.string u2)
  wd3 : wx.cell? ⟨g, 3, none⟩ = some (.string u3)
  rul : Whole wx b5 29 #[.string st, .int .i64 c, .int .i64 f, .int .i64 l, .int .i64 n]
  below : Below w.heap.size w wx
  ne : g ≠ b5
  nb : w.heap.size ≠ b5
  lt : w.heap.size ≤ b5
section
variable {w wx wy : World} {g b5 : Nat} {u0 u1 u2 u3 st : ByteArray} {c f l n : Int}
theorem RK.later (h : RK w wx g b5 u0 u1 u2 u3 st c f l n) (hb : Below wx.heap.size wx wy) : RK w wy g b5 u0 u1 u2 u3 st c f l n :=
  ⟨h.res.later hb, cell_later h.wd0 hb, cell_later h.wd1 hb, cell_later h.wd2 hb, cell_later h.wd3 hb, h.rul.later hb, h.below.trans (hb.mono h.below.size), h.ne, h.nb, h.lt⟩
theorem RK.far (h : RK w wx g b5 u0 u1 u2 u3 st c f l n) (i : Nat) (v : Value) {c' f' l' n' : Int} (hw : Whole (wx.setCell ⟨b5, i, none⟩ v) b5 29 #[.string st, .int .i64 c', .int .i64 f', .int .i64 l', .int .i64 n']) : RK w (wx.setCell ⟨b5, i, none⟩ v) g b5 u0 u1 u2 u3 st c' f' l' n' := by
  have key : ∀ o, (wx.setCell ⟨b5, i, none⟩ v).cell? ⟨g, o, none⟩ = wx.cell? ⟨g, o, none⟩ := fun o => World.cell?_of_block (w := wx) (Below.heap_setCell _ _ _ _ h.ne)
  exact ⟨h.res.carry (Below.heap_setCell _ _ _ _ h.nb), (key 0).trans h.wd0, (key 1).trans h.wd1, (key 2).trans h.wd2, (key 3).trans h.wd3, hw, h.below.setCell (p := ⟨b5, i, none⟩) h.lt v, h.ne, h.nb, h.lt⟩
theorem RK.put1 (h : RK w wx g b5 u0 u1 u2 u3 st c f l n) (x : Int) : RK w (wx.setCell ⟨b5, 1, none⟩ (.int .i64 x)) g b5 u0 u1 u2 u3 st x f l n := h.far 1 _ (h.rul.put 1 _)
theorem RK.put2 (h : RK w wx g b5 u0 u1 u2 u3 st c f l n) (x : Int) : RK w (wx.setCell ⟨b5, 2, none⟩ (.int .i64 x)) g b5 u0 u1 u2 u3 st c x l n := h.far 2 _ (h.rul.put 2 _)
theorem RK.put3 (h : RK w wx g b5 u0 u1 u2 u3 st c f l n) (x : Int) : RK w (wx.setCell ⟨b5, 3, none⟩ (.int .i64 x)) g b5 u0 u1 u2 u3 st c f x n := h.far 3 _ (h.rul.put 3 _)
theorem RK.put4 (h : RK w wx g b5 u0 u1 u2 u3 st c f l n) (x : Int) : RK w (wx.setCell ⟨b5, 4, none⟩ (.int .i64 x)) g b5 u0 u1 u2 u3 st c f l x := h.far 4 _ (h.rul.put 4 _)
theorem RK.facts (h : RK w wx g b5 u0 u1 u2 u3 st c f l n) : (wx.cell? ⟨g, 0, none⟩ = some (.string u0) ∧ wx.cell? ⟨g, 1, none⟩ = some (.string u1) ∧ wx.cell? ⟨g, 2, none⟩ = some (.string u2) ∧ wx.cell? ⟨g, 3, none⟩ = some (.string u3)) ∧
    (wx.cell? ⟨b5, 0, none⟩ = some (.string st) ∧ wx.cell? ⟨b5, 1, none⟩ = some (.int .i64 c) ∧ wx.cell? ⟨b5, 2, none⟩ = some (.int .i64 f) ∧ wx.cell? ⟨b5, 3, none⟩ = some (.int .i64 l) ∧ wx.cell? ⟨b5, 4, none⟩ = some (.int .i64 n)) ∧
    (wx.frozen? ⟨b5, 0, none⟩ = false ∧ wx.frozen? ⟨b5, 1, none⟩ = false ∧ wx.frozen? ⟨b5, 2, none⟩ = false ∧ wx.frozen? ⟨b5, 3, none⟩ = false ∧ wx.frozen? ⟨b5, 4, none⟩ = false) := by
  have k := h.rul
  exact ⟨⟨h.wd0, h.wd1, h.wd2, h.wd3⟩, ⟨k.read 0, k.read 1, k.read 2, k.read 3, k.read 4⟩, ⟨k.free 0, k.free 1, k.free 2, k.free 3, k.free 4⟩⟩
theorem RK.zeros (h : RK w wx g b5 u0 u1 u2 u3 st c f l n) : (wx.cell? ⟨w.heap.size, 0, none⟩ = some (.string ⟨#[]⟩) ∧ wx.cell? ⟨w.heap.size, 1, none⟩ = some (.int .i64 0) ∧ wx.cell? ⟨w.heap.size, 2, none⟩ = some (.int .i64 0) ∧ wx.cell? ⟨w.heap.size, 3, none⟩ = some (.int .i64 0) ∧ wx.cell? ⟨w.heap.size, 4, none⟩ = some (.int .i64 0)) ∧
    (wx.frozen? ⟨w.heap.size, 0, none⟩ = false ∧ wx.frozen? ⟨w.heap.size, 1, none⟩ = false ∧ wx.frozen? ⟨w.heap.size, 2, none⟩ = false ∧ wx.frozen? ⟨w.heap.size, 3, none⟩ = false ∧ wx.frozen? ⟨w.heap.size, 4, none⟩ = false) := by
  have k := h.res
  exact ⟨⟨k.read 0, k.read 1, k.read 2, k.read 3, k.read 4⟩, ⟨k.free 0, k.free 1, k.free 2, k.free 3, k.free 4⟩⟩
end
/-- The result written into its block. -/
theorem whole_fin {w wx : World} (h : Whole wx w.heap.size 29 #[.string ⟨#[]⟩, .int .i64 0, .int .i64 0, .int .i64 0, .int .i64 0]) (hb : Below w.heap.size w wx) (u0 u1 u2 u3 u4 : Value) :
    ((put5 wx w.heap.size u0 u1 u2 u3 u4).cell? ⟨w.heap.size, 0, none⟩ = some u0 ∧ (put5 wx w.heap.size u0 u1 u2 u3 u4).cell? ⟨w.heap.size, 1, none⟩ = some u1 ∧ (put5 wx w.heap.size u0 u1 u2 u3 u4).cell? ⟨w.heap.size, 2, none⟩ = some u2 ∧ (put5 wx w.heap.size u0 u1 u2 u3 u4).cell? ⟨w.heap.size, 3, none⟩ = some u3 ∧ (put5 wx w.heap.size u0 u1 u2 u3 u4).cell? ⟨w.heap.size, 4, none⟩ = some u4) ∧ Below w.heap.size w (put5 wx w.heap.size u0 u1 u2 u3 u4) :=
  ⟨res_put h, hb.trans (put5_below (Nat.le_refl _))⟩
theorem RK.fin {w wx : World} {g b5 : Nat} {u0 u1 u2 u3 st : ByteArray} {c f l n : Int} (h : RK w wx g b5 u0 u1 u2 u3 st c f l n) :
    ((put5 wx w.heap.size (.string st) (.int .i64 c) (.int .i64 f) (.int .i64 l) (.int .i64 n)).cell? ⟨w.heap.size, 0, none⟩ = some (.string st) ∧ (put5 wx w.heap.size (.string st) (.int .i64 c) (.int .i64 f) (.int .i64 l) (.int .i64 n)).cell? ⟨w.heap.size, 1, none⟩ = some (.int .i64 c) ∧ (put5 wx w.heap.size (.string st) (.int .i64 c) (.int .i64 f) (.int .i64 l) (.int .i64 n)).cell? ⟨w.heap.size, 2, none⟩ = some (.int .i64 f) ∧ (put5 wx w.heap.size (.string st) (.int .i64 c) (.int .i64 f) (.int .i64 l) (.int .i64 n)).cell? ⟨w.heap.size, 3, none⟩ = some (.int .i64 l) ∧ (put5 wx w.heap.size (.string st) (.int .i64 c) (.int .i64 f) (.int .i64 l) (.int .i64 n)).cell? ⟨w.heap.size, 4, none⟩ = some (.int .i64 n)) ∧ Below w.heap.size w (put5 wx w.heap.size (.string st) (.int .i64 c) (.int .i64 f) (.int .i64 l) (.int .i64 n)) := whole_fin h.res h.below _ _ _ _ _
set_option maxHeartbeats 8000000 in
theorem parseRule_any (s : ByteArray) (hs : s.size ≤ 1000000) (w : World) : Calls Tryd.prog 32 #[.string s] w (PaAns s.data.toList w) := by
  have HC := Lib.hid (fun w => words_any s hs w)
  have hl := len_size s
  have HL := Lib.hid (fun x hx => wsp_size 32 s.data.toList x hx)
  have HSN := Lib.hid (fun h => pa_none (syn_len (l := s.data.toList) h))
  have HSF := Lib.hid (fun a b c d h k => pa_none (syn_first (l := s.data.toList) (a := a) (b := b) (c := c) (d := d) h k))
  have HSW := Lib.hid (fun a b c d h k1 k2 => syn_words (l := s.data.toList) (a := a) (b := b) (c := c) (d := d) h k1 k2)
  have P0 := Lib.hid (fun h => pa_none (l := s.data.toList) h)
  have P1 := Lib.hid (fun r h k => pa_bad (l := s.data.toList) (r := r) h k)
  have P2 := Lib.hid (fun r h k => pa_good (l := s.data.toList) (r := r) h k)
  unfold PaAns
  generalize pRu s.data.toList = pr at *
  generalize ruE s.data.toList = pe at *
  have HZ := Lib.hid (Whole.fresh w 29 #[.string ⟨#[]⟩, .int .i64 0, .int .i64 0, .int .i64 0, .int .i64 0])
  go_enter Tryd.func32, Tryd.ntmps32
  go_wp2_with fail
  (with_reducible refine (HC.out _).mono ?_)
  rintro e w1 ⟨v, rfl, ho, hb⟩
  have hz1 := HZ.out.later hb
  have hb1 := ((Below.refl _ _).alloc (Nat.le_refl _) _).trans (hb.mono (by simp))
  obtain ⟨⟨d0, d1, d2, d3, d4⟩, ⟨z0, z1, z2, z3, z4⟩⟩ : (w1.cell? ⟨w.heap.size, 0, none⟩ = some (.string ⟨#[]⟩) ∧ w1.cell? ⟨w.heap.size, 1, none⟩ = some (.int .i64 0) ∧ w1.cell? ⟨w.heap.size, 2, none⟩ = some (.int .i64 0) ∧ w1.cell? ⟨w.heap.size, 3, none⟩ = some (.int .i64 0) ∧ w1.cell? ⟨w.heap.size, 4, none⟩ = some (.int .i64 0)) ∧
      (w1.frozen? ⟨w.heap.size, 0, none⟩ = false ∧ w1.frozen? ⟨w.heap.size, 1, none⟩ = false ∧ w1.frozen? ⟨w.heap.size, 2, none⟩ = false ∧ w1.frozen? ⟨w.heap.size, 3, none⟩ = false ∧ w1.frozen? ⟨w.heap.size, 4, none⟩ = false) :=
    ⟨⟨hz1.read 0, hz1.read 1, hz1.read 2, hz1.read 3, hz1.read 4⟩, ⟨hz1.free 0, hz1.free 1, hz1.free 2, hz1.free 3, hz1.free 4⟩⟩
  have HF0 := Lib.hid (whole_fin hz1 hb1 (.string ⟨#[]⟩) (.int .i64 0) (.int .i64 0) (.int .i64 0) (.int .i64 0))
  unfold put5 at HF0
  have HZ1 := Lib.hid hz1
  have HB1 := Lib.hid hb1
  have hn1 : 0 < (wsp 32 s.data.toList).length := List.length_pos_iff.2 (wsp_ne 32 _)
  obtain ⟨g, cap, rfl, hcap1, hcap2⟩ := own_caps ho hn1
  obtain ⟨g', cap', e', hgb, hgl⟩ := own_form ho hn1
  simp only [Value.slice.injEq, Option.some.injEq, Addr.mk.injEq, and_true, true_and] at e'
  obtain ⟨rfl, _⟩ := e'
  have hgb' : w.heap.size + 1 ≤ g := by simpa using hgb
  clear hz1 hb1 hb HZ HC hl hgb
  by_cases h4 : (wsp 32 s.data.toList).length = 4
  · obtain ⟨a, b, c, d, hw⟩ : ∃ a b c d, wsp 32 s.data.toList = [a, b, c, d] := by
      match hq : wsp 32 s.data.toList, h4 with
      | [a, b, c, d], _ => exact ⟨a, b, c, d, rfl⟩
    have la := HL.out a (by rw [hw]; simp)
    have lb := HL.out b (by rw [hw]; simp)
    have lc := HL.out c (by rw [hw]; simp)
    have ld := HL.out d (by rw [hw]; simp)
    rw [len_size] at la lb lc ld
    rw [hw] at ho hcap1
    have ho' := (show w1.ownsRow (w.alloc (.cells #[.string ⟨#[]⟩, .int .i64 0, .int .i64 0, .int .i64 0, .int .i64 0] 29)).heap.size 9 1 (.slice (some ⟨g, 0, none⟩) 4 cap) 4 [.string ⟨a.toArray⟩, .string ⟨b.toArray⟩, .string ⟨c.toArray⟩, .string ⟨d.toArray⟩] from ho)
    rw [hw]
    clear ho HL HSN hn1 h4
    have hcap : 4 ≤ cap := hcap1
    obtain ⟨x0, x1, x2, x3⟩ : w1.cell? ⟨g, 0, none⟩ = some (.string ⟨a.toArray⟩) ∧ w1.cell? ⟨g, 1, none⟩ = some (.string ⟨b.toArray⟩) ∧ w1.cell? ⟨g, 2, none⟩ = some (.string ⟨c.toArray⟩) ∧ w1.cell? ⟨g, 3, none⟩ = some (.string ⟨d.toArray⟩) := ⟨by rw [ho'.cellAt 0 (by omega)]; rfl, by rw [ho'.cellAt 1 (by omega)]; rfl, by rw [ho'.cellAt 2 (by omega)]; rfl, by rw [ho'.cellAt 3 (by omega)]; rfl⟩
    clear ho' hcap1
    obtain ⟨u0, hu0, e0⟩ : ∃ u : ByteArray, u = ⟨a.toArray⟩ ∧ u.data.toList = a := ⟨_, rfl, rfl⟩
    obtain ⟨u1, hu1, e1⟩ : ∃ u : ByteArray, u = ⟨b.toArray⟩ ∧ u.data.toList = b := ⟨_, rfl, rfl⟩
    obtain ⟨u2, hu2, e2⟩ : ∃ u : ByteArray, u = ⟨c.toArray⟩ ∧ u.data.toList = c := ⟨_, rfl, rfl⟩
    obtain ⟨u3, hu3, e3⟩ : ∃ u : ByteArray, u = ⟨d.toArray⟩ ∧ u.data.toList = d := ⟨_, rfl, rfl⟩
    rw [← hu0] at x0
    rw [← hu1] at x1
    rw [← hu2] at x2
    rw [← hu3] at x3
    clear hu0 hu1 hu2 hu3
    subst e0 e1 e2 e3
    rw [len_size] at la lb lc ld
    have hsz : (([u0.data.toList, u1.data.toList, u2.data.toList, u3.data.toList].length : Nat) : Int) = 4 := rfl
    simp only [List.length_cons, List.length_nil]
    have E0 := Lib.hid (fun (h : u0.size = 0) => HSF.out _ _ _ _ hw (.inl (by rw [empty_of h])))
    have E3 := Lib.hid (fun (h : ¬ nb u3.data.toList 0 = 62) => HSF.out _ _ _ _ hw (.inr h))
    by_cases c0 : u0.size = 0
    · obtain ⟨q1, q2⟩ := E0.out c0
      subst q1 q2
      have e := empty_of c0
      subst e
      clear HSF HSW P0 P1 P2 HZ1 HB1 E0 E3 hw c0 la lb lc ld
      go_wp2
      obtain ⟨⟨p0, p1, p2, p3, p4⟩, HBf⟩ := HF0.out
      exact bodyPost_ret (v := .tuple #[.agg #[.string ⟨#[]⟩, .int .i64 0, .int .i64 0, .int .i64 0, .int .i64 0], .int .i64 8]) (by simp [results, Tryd.results32, go_sem, p0, p1, p2, p3, p4]) rfl ⟨rfl, HBf⟩
    · have hk0 : ¬ u0.data.toList = [] := fun k => c0 (by rw [Lib.size_eq, k]; rfl)
      have he0 : u0.toList.isEmpty = false := by rw [List.isEmpty_eq_false_iff]; exact str_ne c0
      have he0' : (u0.toList == ([] : List UInt8)) = false := by rw [beq_eq_false_iff_ne]; exact str_ne c0
      by_cases c3 : u3.size = 0
      · obtain ⟨q1, q2⟩ := E3.out (by rw [empty_of c3]; decide)
        subst q1 q2
        have e := empty_of c3
        subst e
        clear HSF HSW P0 P1 P2 HZ1 HB1 E0 E3 hw c0 c3 la lb lc ld hk0
        go_wp2
        obtain ⟨⟨p0, p1, p2, p3, p4⟩, HBf⟩ := HF0.out
        exact bodyPost_ret (v := .tuple #[.agg #[.string ⟨#[]⟩, .int .i64 0, .int .i64 0, .int .i64 0, .int .i64 0], .int .i64 8]) (by simp [results, Tryd.results32, go_sem, p0, p1, p2, p3, p4]) rfl ⟨rfl, HBf⟩
      · have he3 : u3.toList.isEmpty = false := by rw [List.isEmpty_eq_false_iff]; exact str_ne c3
        have he3' : (u3.toList == ([] : List UInt8)) = false := by rw [beq_eq_false_iff_ne]; exact str_ne c3
        have i0 : ∀ w, (Instr.index 9 (.string u3) (.int .i64 0)).run Tryd.prog w = .ok (.int .u8 (nb u3.data.toList 0 : Nat)) w := fun w => idx_nb u3 0 (by omega) w
        by_cases cn : nb u3.data.toList 0 = 62
        · have hsy := HSW.out _ _ _ _ hw hk0 cn
          rw [cn] at i0
          have hsyh := Lib.hid hsy
          clear HSF HSW E0 E3 hw hk0 HF0 hsy cn
          have h31 : (1 : Int) ≤ u3.size := by omega
          have HB5 := HB1.out
          have hlt := HZ1.out.size_lt
          have hne : ¬ g = w1.heap.size := by omega
          have hne2 : ¬ w1.heap.size = g := by omega
          have hnb : ¬ w.heap.size = w1.heap.size := by omega
          have hnb2 : ¬ w1.heap.size = w.heap.size := by omega
          have HK0 := Lib.hid (fun (st : ByteArray) => show RK w (w1.alloc (.cells #[.string st, .int .i64 (-1), .int .i64 0, .int .i64 0, .int .i64 0] 29)) g w1.heap.size u0 u1 u2 u3 st (-1) 0 0 0 from
            ⟨HZ1.out.alloc _, cell_later x0 ((Below.refl _ w1).alloc (Nat.le_refl _) _), cell_later x1 ((Below.refl _ w1).alloc (Nat.le_refl _) _), cell_later x2 ((Below.refl _ w1).alloc (Nat.le_refl _) _), cell_later x3 ((Below.refl _ w1).alloc (Nat.le_refl _) _), Whole.fresh _ _ _, HB5.alloc HB5.size _, hne, hnb, by omega⟩)
          have H2 := Lib.hid (fun w => ports_any u2 (by omega) w)
          have H3 := Lib.hid (fun w => digits_any (u3.extract 1 u3.size) w)
          unfold PoAns at H2
          unfold DigAns at H3
          rw [drop_str] at H3
          generalize (poT u2.data.toList).1 = f at *
          generalize (poT u2.data.toList).2.1 = l at *
          generalize (poT u2.data.toList).2.2 = bp at *
          generalize nI (u3.data.toList.drop 1) = n at *
          generalize nB (u3.data.toList.drop 1) = bn at *
          clear HZ1 HB1 HB5
          obtain ⟨st, hst, hstz, hcase0⟩ : ∃ st, stL u0.data.toList = st ∧ st.size ≤ 2000000 ∧ ((u0 = ⟨#[42]⟩ ∧ st = ⟨#[]⟩) ∨ ((u0.toList == [42]) = false ∧ st = u0)) := by
            refine ⟨_, rfl, ?_⟩
            unfold stL
            by_cases hq : u0.data.toList = [42]
            · rw [if_pos hq]; exact ⟨by decide, .inl ⟨str_of hq, rfl⟩⟩
            · rw [if_neg hq]; exact ⟨by show u0.size ≤ _; omega, .inr ⟨by rw [Lib.toList_data, beq_eq_false_iff_ne]; exact hq, rfl⟩⟩
          rw [hst] at hsyh
          have HK1 := Lib.hid (HK0.out st)
          clear HK0 hst
          by_cases h1 : u1.data.toList = [42]
          · have hu1 := str_of h1
            rw [h1, cls_star.1, cls_star.2] at hsyh
            have H5 := Lib.hid (fun w => rvalR_any st (-1) f l n hstz w)
            unfold BoolAns at H5
            subst hu1
            clear h1 la lb lc ld
            rcases hcase0 with ⟨rfl, rfl⟩ | ⟨hq0, rfl⟩
            all_goals
              go_wp2_with fail
              (with_reducible refine (H2.out _).mono ?_); rintro e w3 ⟨rfl, hb⟩
              have HK3 := Lib.hid (HK1.out.later hb)
              try clear x0 x1 x2 x3
              try clear r0 r1 r2 r3 r4 k0 k1 k2 k3 k4
              try clear d0 d1 d2 d3 d4 z0 z1 z2 z3 z4
              clear hb
              obtain ⟨⟨x0, x1, x2, x3⟩, ⟨r0, r1, r2, r3, r4⟩, ⟨k0, k1, k2, k3, k4⟩⟩ := HK3.out.facts
              have HK3p := Lib.hid ((HK3.out.put2 f).put3 l)
              go_wp2_with fail
              (with_reducible refine (H3.out _).mono ?_); rintro e w4 ⟨rfl, hb⟩
              have HK4 := Lib.hid (HK3p.out.later hb)
              clear hb HK3 HK3p x0 x1 x2 x3 r0 r1 r2 r3 r4 k0 k1 k2 k3 k4
              obtain ⟨⟨x0, x1, x2, x3⟩, ⟨r0, r1, r2, r3, r4⟩, ⟨k0, k1, k2, k3, k4⟩⟩ := HK4.out.facts
              obtain ⟨⟨y0, y1, y2, y3, y4⟩, ⟨z0, z1, z2, z3, z4⟩⟩ := HK4.out.zeros
              have HK4p := Lib.hid (HK4.out.put4 n)
              clear HK4 H2 H3
              by_cases hall : (true && bp && bn) = true
              · have hsy := Lib.hid (hsyh.out.trans (if_pos hall))
                have hall2 : true = true ∧ bp = true ∧ bn = true := by revert hall; cases bp <;> cases bn <;> simp
                obtain ⟨_, rfl, rfl⟩ := hall2
                clear hall hsyh
                go_wp2_with fail
                (with_reducible refine (H5.out _).mono ?_); rintro e w5 ⟨rfl, hb⟩
                have HK5 := Lib.hid (HK4p.out.later hb)
                clear hb HK4p x0 x1 x2 x3 r0 r1 r2 r3 r4 k0 k1 k2 k3 k4 y0 y1 y2 y3 y4 z0 z1 z2 z3 z4 H5
                obtain ⟨⟨x0, x1, x2, x3⟩, ⟨r0, r1, r2, r3, r4⟩, ⟨k0, k1, k2, k3, k4⟩⟩ := HK5.out.facts
                obtain ⟨⟨y0, y1, y2, y3, y4⟩, ⟨z0, z1, z2, z3, z4⟩⟩ := HK5.out.zeros
                generalize hv : ruOk _ = ok
                cases ok with
                | false =>
                  obtain ⟨q1, q2⟩ := P1.out _ hsy.out hv
                  subst q1 q2
                  have HF0 := Lib.hid (whole_fin HK5.out.res HK5.out.below (.string ⟨#[]⟩) (.int .i64 0) (.int .i64 0) (.int .i64 0) (.int .i64 0))
                  unfold put5 at HF0
                  clear HK5 P0 P1 P2 hsy hv
                  go_wp2
                  obtain ⟨⟨p0, p1, p2, p3, p4⟩, HBf⟩ := HF0.out
                  exact bodyPost_ret (v := .tuple #[.agg #[.string ⟨#[]⟩, .int .i64 0, .int .i64 0, .int .i64 0, .int .i64 0], .int .i64 1]) (by simp [results, Tryd.results32, go_sem, p0, p1, p2, p3, p4]) rfl ⟨rfl, HBf⟩
                | true =>
                  obtain ⟨q1, q2⟩ := P2.out _ hsy.out hv
                  subst q1 q2
                  have HF0 := Lib.hid HK5.out.fin
                  unfold put5 at HF0
                  clear HK5 P0 P1 P2 hsy hv
                  go_wp2
                  obtain ⟨⟨p0, p1, p2, p3, p4⟩, HBf⟩ := HF0.out
                  exact bodyPost_ret (v := .tuple #[.agg #[.string _, .int .i64 (-1), .int .i64 f, .int .i64 l, .int .i64 n], .int .i64 0]) (by simp [results, Tryd.results32, go_sem, p0, p1, p2, p3, p4]) rfl ⟨rfl, HBf⟩
              · have hsy := Lib.hid (hsyh.out.trans (if_neg hall))
                obtain ⟨q1, q2⟩ := P0.out hsy.out
                subst q1 q2
                have HF0 := Lib.hid (whole_fin HK4p.out.res HK4p.out.below (.string ⟨#[]⟩) (.int .i64 0) (.int .i64 0) (.int .i64 0) (.int .i64 0))
                unfold put5 at HF0
                have hall' : true = false ∨ (true = true ∧ bp = false) ∨ (true = true ∧ bp = true ∧ bn = false) := by revert hall; cases bp <;> cases bn <;> simp
                clear P0 P1 P2 hsy hsyh H5 HK4p hall
                rcases hall' with h0 | ⟨_, rfl⟩ | ⟨_, rfl, rfl⟩
                · exact absurd h0 (by decide)
                all_goals
                  go_wp2
                  obtain ⟨⟨p0, p1, p2, p3, p4⟩, HBf⟩ := HF0.out
                  exact bodyPost_ret (v := .tuple #[.agg #[.string ⟨#[]⟩, .int .i64 0, .int .i64 0, .int .i64 0, .int .i64 0], .int .i64 8]) (by simp [results, Tryd.results32, go_sem, p0, p1, p2, p3, p4]) rfl ⟨rfl, HBf⟩
          · obtain ⟨q1, q2⟩ := cls_other h1
            rw [q1, q2] at hsyh
            have hq1 : (u1.toList == [42]) = false := by rw [Lib.toList_data, beq_eq_false_iff_ne]; exact h1
            have H1 := Lib.hid (fun w => digits_any u1 w)
            unfold DigAns at H1
            generalize nI u1.data.toList = c at *
            generalize nB u1.data.toList = bc at *
            have H5 := Lib.hid (fun w => rvalR_any st c f l n hstz w)
            unfold BoolAns at H5
            clear h1 q1 q2 la lb lc ld
            rcases hcase0 with ⟨rfl, rfl⟩ | ⟨hq0, rfl⟩
            all_goals
              go_wp2_with fail
              (with_reducible refine (H1.out _).mono ?_); rintro e w2 ⟨rfl, hb⟩
              have HK2 := Lib.hid (HK1.out.later hb)
              clear hb HK1 x0 x1 x2 x3 d0 d1 d2 d3 d4 z0 z1 z2 z3 z4
              obtain ⟨⟨x0, x1, x2, x3⟩, ⟨r0, r1, r2, r3, r4⟩, ⟨k0, k1, k2, k3, k4⟩⟩ := HK2.out.facts
              have HK2p := Lib.hid (HK2.out.put1 c)
              go_wp2_with fail
              (with_reducible refine (H2.out _).mono ?_); rintro e w3 ⟨rfl, hb⟩
              have HK3 := Lib.hid (HK2p.out.later hb)
              try clear x0 x1 x2 x3
              try clear r0 r1 r2 r3 r4 k0 k1 k2 k3 k4
              try clear d0 d1 d2 d3 d4 z0 z1 z2 z3 z4
              clear hb
              obtain ⟨⟨x0, x1, x2, x3⟩, ⟨r0, r1, r2, r3, r4⟩, ⟨k0, k1, k2, k3, k4⟩⟩ := HK3.out.facts
              have HK3p := Lib.hid ((HK3.out.put2 f).put3 l)
              go_wp2_with fail
              (with_reducible refine (H3.out _).mono ?_); rintro e w4 ⟨rfl, hb⟩
              have HK4 := Lib.hid (HK3p.out.later hb)
              clear hb HK3 HK3p x0 x1 x2 x3 r0 r1 r2 r3 r4 k0 k1 k2 k3 k4
              obtain ⟨⟨x0, x1, x2, x3⟩, ⟨r0, r1, r2, r3, r4⟩, ⟨k0, k1, k2, k3, k4⟩⟩ := HK4.out.facts
              obtain ⟨⟨y0, y1, y2, y3, y4⟩, ⟨z0, z1, z2, z3, z4⟩⟩ := HK4.out.zeros
              have HK4p := Lib.hid (HK4.out.put4 n)
              clear HK4 H2 H3
              by_cases hall : (bc && bp && bn) = true
              · have hsy := Lib.hid (hsyh.out.trans (if_pos hall))
                have hall2 : bc = true ∧ bp = true ∧ bn = true := by revert hall; cases bp <;> cases bn <;> simp
                obtain ⟨rfl, rfl, rfl⟩ := hall2
                clear hall hsyh
                go_wp2_with fail
                (with_reducible refine (H5.out _).mono ?_); rintro e w5 ⟨rfl, hb⟩
                have HK5 := Lib.hid (HK4p.out.later hb)
                clear hb HK4p x0 x1 x2 x3 r0 r1 r2 r3 r4 k0 k1 k2 k3 k4 y0 y1 y2 y3 y4 z0 z1 z2 z3 z4 H5
                obtain ⟨⟨x0, x1, x2, x3⟩, ⟨r0, r1, r2, r3, r4⟩, ⟨k0, k1, k2, k3, k4⟩⟩ := HK5.out.facts
                obtain ⟨⟨y0, y1, y2, y3, y4⟩, ⟨z0, z1, z2, z3, z4⟩⟩ := HK5.out.zeros
                generalize hv : ruOk _ = ok
                cases ok with
                | false =>
                  obtain ⟨q1, q2⟩ := P1.out _ hsy.out hv
                  subst q1 q2
                  have HF0 := Lib.hid (whole_fin HK5.out.res HK5.out.below (.string ⟨#[]⟩) (.int .i64 0) (.int .i64 0) (.int .i64 0) (.int .i64 0))
                  unfold put5 at HF0
                  clear HK5 P0 P1 P2 hsy hv
                  go_wp2
                  obtain ⟨⟨p0, p1, p2, p3, p4⟩, HBf⟩ := HF0.out
                  exact bodyPost_ret (v := .tuple #[.agg #[.string ⟨#[]⟩, .int .i64 0, .int .i64 0, .int .i64 0, .int .i64 0], .int .i64 1]) (by simp [results, Tryd.results32, go_sem, p0, p1, p2, p3, p4]) rfl ⟨rfl, HBf⟩
                | true =>
                  obtain ⟨q1, q2⟩ := P2.out _ hsy.out hv
                  subst q1 q2
                  have HF0 := Lib.hid HK5.out.fin
                  unfold put5 at HF0
                  clear HK5 P0 P1 P2 hsy hv
                  go_wp2
                  obtain ⟨⟨p0, p1, p2, p3, p4⟩, HBf⟩ := HF0.out
                  exact bodyPost_ret (v := .tuple #[.agg #[.string _, .int .i64 (c), .int .i64 f, .int .i64 l, .int .i64 n], .int .i64 0]) (by simp [results, Tryd.results32, go_sem, p0, p1, p2, p3, p4]) rfl ⟨rfl, HBf⟩
              · have hsy := Lib.hid (hsyh.out.trans (if_neg hall))
                obtain ⟨q1, q2⟩ := P0.out hsy.out
                subst q1 q2
                have HF0 := Lib.hid (whole_fin HK4p.out.res HK4p.out.below (.string ⟨#[]⟩) (.int .i64 0) (.int .i64 0) (.int .i64 0) (.int .i64 0))
                unfold put5 at HF0
                have hall' : bc = false ∨ (bc = true ∧ bp = false) ∨ (bc = true ∧ bp = true ∧ bn = false) := by revert hall; cases bp <;> cases bn <;> simp
                clear P0 P1 P2 hsy hsyh H5 HK4p hall
                rcases hall' with rfl | ⟨rfl, rfl⟩ | ⟨rfl, rfl, rfl⟩
                all_goals
                  go_wp2
                  obtain ⟨⟨p0, p1, p2, p3, p4⟩, HBf⟩ := HF0.out
                  exact bodyPost_ret (v := .tuple #[.agg #[.string ⟨#[]⟩, .int .i64 0, .int .i64 0, .int .i64 0, .int .i64 0], .int .i64 8]) (by simp [results, Tryd.results32, go_sem, p0, p1, p2, p3, p4]) rfl ⟨rfl, HBf⟩
        · obtain ⟨q1, q2⟩ := E3.out cn
          subst q1 q2
          have hn : (((nb u3.data.toList 0 : Nat) : Int) != 62) = true := by rw [bne_iff_ne]; omega
          clear HSF HSW P0 P1 P2 HZ1 HB1 E0 E3 hw c0 c3 la lb lc ld hk0 cn
          generalize nb u3.data.toList 0 = z at *
          go_wp2
          obtain ⟨⟨p0, p1, p2, p3, p4⟩, HBf⟩ := HF0.out
          exact bodyPost_ret (v := .tuple #[.agg #[.string ⟨#[]⟩, .int .i64 0, .int .i64 0, .int .i64 0, .int .i64 0], .int .i64 8]) (by simp [results, Tryd.results32, go_sem, p0, p1, p2, p3, p4]) rfl ⟨rfl, HBf⟩
  · obtain ⟨q1, q2⟩ := HSN.out h4
    subst q1 q2
    have h4' : ((((wsp 32 s.data.toList).length : Nat) : Int) != 4) = true := by rw [bne_iff_ne]; omega
    clear HSN HSF HSW P0 P1 P2 HL hn1 ho HZ1 HB1
    generalize (wsp 32 s.data.toList).length = m at *
    go_wp2
    obtain ⟨⟨p0, p1, p2, p3, p4⟩, HBf⟩ := HF0.out
    exact bodyPost_ret (v := .tuple #[.agg #[.string ⟨#[]⟩, .int .i64 0, .int .i64 0, .int .i64 0, .int .i64 0], .int .i64 8]) (by simp [results, Tryd.results32, go_sem, p0, p1, p2, p3, p4]) rfl ⟨rfl, HBf⟩
end Go.Proofs.YtfkbohfelacaoaaDoor

