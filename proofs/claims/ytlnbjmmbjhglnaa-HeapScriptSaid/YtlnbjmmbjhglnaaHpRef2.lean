/-
  Layer 4: contracts of the reference's Push, Update, Key, less, Peek. Every input.
-/
import Derived.Test.YtlnbjmmbjhglnaaHpRef
import Derived.Deep.QuietTactic
import Derived.BigQuiet
namespace Go.Proofs.Ytlnbjmmbjhglnaa
open Go.ChangeShapes Go.WideShapes Go.ChangeAt Go.RowKit
set_option linter.unusedVariables false

set_option maxRecDepth 100000 in
set_option maxHeartbeats 4000000 in
theorem rpush_any {C R cap n : Nat} {S : Nat → Prop} {M : Int → Option Int} {w : World} (h : RefO C R S cap n M w) (id key : Int) :
    Calls Try.prog 24 #[.pointer (some ⟨R, 0, none⟩), .int .i64 id, .int .i64 key] w (RfAns C R S cap (pushN cap n M id) (pushM cap n M id key) (.int .i64 (pushErr cap n M id)) w) := by
  by_cases hid : id < 0 ∨ 4096 ≤ id
  · have HE := Lib.hid (fun W (hb : Below w.heap.size w W) => RfAns.push_stay (key := key) h hb (push_bad hid) (by decide))
    clear h
    rcases hid with h1 | h1
    · go_enter Try.func24, Try.ntmps24
      go_wp2
      go_ret
      exact HE.out _ (Below.refl _ _)
    · have h2 : ¬ id < 0 := by omega
      go_enter Try.func24, Try.ntmps24
      go_wp2
      go_ret
      exact HE.out _ (Below.refl _ _)
  · have i0 : 0 ≤ id := by omega
    have i1 : id < 4096 := by omega
    have i2 : ¬ id < 0 := by omega
    have i3 : ¬ 4096 ≤ id := by omega
    by_cases hm : (M id).isSome = true
    · have HE := Lib.hid (fun W (hb : Below w.heap.size w W) => RfAns.push_stay (key := key) h hb (push_dup hid hm) (by decide))
      obtain ⟨v, E, h1, h2, h3, h5, h6⟩ := h
      obtain ⟨j, hj, he, _⟩ := h3.find hm
      have HFD := Lib.hid (at_yes h1 h2 hj he)
      clear h1 h2 h3 h5 h6 hm hid he
      go_enter Try.func24, Try.ntmps24
      go_wp2_with fail
      (with_reducible refine HFD.out.mono ?_)
      rintro e w1 ⟨rfl, rfl⟩
      go_wp2
      go_ret
      exact HE.out _ (Below.refl _ _)
    · have hn := isSome_not hm
      by_cases hf : n = cap
      · have HE := Lib.hid (fun W (hb : Below w.heap.size w W) => RfAns.push_stay (key := key) h hb (push_full hid hm hf) (by decide))
        obtain ⟨v, E, h1, h2, h3, h5, h6⟩ := h
        have HFD := Lib.hid (at_no h1 (h3.none_at hn))
        obtain ⟨c0, c1, _⟩ := h1.cells
        obtain ⟨A, c, rfl⟩ := h1.ents.shape
        have ht : decide ((n : Int) ≤ (n : Int)) = true := decide_eq_true (Int.le_refl _)
        rw [← hf] at c0
        clear h1 h2 h3 h5 h6 hm hid hn hf
        go_enter Try.func24, Try.ntmps24
        go_wp2_with fail
        (with_reducible refine HFD.out.mono ?_)
        rintro e w1 ⟨rfl, rfl⟩
        go_wp2_with fail
        go_quiet (fail)
        go_wp2
        go_ret
        exact HE.out _ (below_drewN _ _)
      · have HE := Lib.hid (push_ok (n := n) (cap := cap) hid hm hf)
        obtain ⟨v, E, h1, h2, h3, h5, h6⟩ := h
        have HFD := Lib.hid (at_no h1 (h3.none_at hn))
        have hlen := h1.len
        obtain ⟨c0, c1, fz⟩ := h1.cells
        have hRl := (h1.lt R (.inl rfl)).2
        have hCl : C ≤ w.heap.size := by have := h1.lo; omega
        have HW := Lib.hid h1
        have HDO := Lib.hid (h2.push (x := key) (h3.none_at hn))
        have HCO := Lib.hid (h3.push (x := key) hn)
        have HS := Lib.hid h5
        obtain ⟨A, c, rfl⟩ := h1.ents.shape
        have ht : decide ((cap : Int) ≤ (n : Int)) = false := decide_eq_false (by omega)
        have hncap : n < cap := by omega
        clear h1 h2 h3 h5 h6 hm hid hn hf
        go_enter Try.func24, Try.ntmps24
        go_wp2_with fail
        (with_reducible refine HFD.out.mono ?_)
        rintro e w1 ⟨rfl, rfl⟩
        go_wp2_with fail
        go_quiet (fail)
        have HWD := Lib.hid (HW.out.below (below_drewN w nq))
        go_wp2_with (at_builtin; refine wpList_append_ent rfl (.tmp 34) (.tmp 38) rfl (HWD.out.alloc _).ents rfl ⟨w.heap.size, 0, none⟩ id key rfl (pair_cells (w.drewN nq) _ _ _) (by omega) (by simp; omega) ?_; intro v2 w2 he2 hg2 hb2; obtain ⟨b1, b2⟩ := HWD.out.grownAt hg2; obtain ⟨g1, g2, g3⟩ := HWD.out.pushed hncap he2 hg2 hb2; obtain ⟨A2, cc2, rfl⟩ := he2.shape; have HG1 := Lib.hid g1; have HG2 := Lib.hid g2; have HG3 := Lib.hid g3; clear he2 hg2 hb2 g1 g2 g3)
        have HF : Hid (RfAns C R S cap (pushN cap n M id) (pushM cap n M id key) (.int .i64 (pushErr cap n M id)) w (.returned (.int .i64 0)) (w2.setCell ⟨R, 1, none⟩ (.slice A2 (n + 1) cc2))) := by
          unfold pushN pushM; rw [HE.out, if_pos rfl, if_pos rfl]
          exact Lib.hid ⟨_, rfl, RefO.done HS.out HG1.out HDO.out HCO.out ((Chg.of_below (below_drewN w nq)).trans HG2.out) HG3.out⟩
        go_ret
        exact HF.out
set_option maxRecDepth 100000 in
set_option maxHeartbeats 4000000 in
theorem rupd_any {C R cap n : Nat} {S : Nat → Prop} {M : Int → Option Int} {w : World} (h : RefO C R S cap n M w) (id key : Int) :
    Calls Try.prog 25 #[.pointer (some ⟨R, 0, none⟩), .int .i64 id, .int .i64 key] w (RfAns C R S cap n (updM M id key) (.int .i64 (updErr M id)) w) := by
  unfold updM updErr
  by_cases hm : (M id).isSome = true
  · rw [if_pos hm, if_pos hm]
    obtain ⟨v, E, h1, h2, h3, h5, h6⟩ := h
    obtain ⟨j, hj, he, _⟩ := h3.find hm
    have HFD := Lib.hid (at_yes h1 h2 hj he)
    have hlen := h1.len
    obtain ⟨_, c1, _⟩ := h1.cells
    obtain ⟨g, c, rfl, _, _, _⟩ := h1.ents.some_ (by omega)
    obtain ⟨_, a2⟩ := h1.ents.cell hj
    have f2 := h1.ents.free (j * 2 + 1)
    have hjn : (j : Int) < (n : Int) := by omega
    obtain ⟨g1, k1⟩ := h1.keyAt hj key
    have HF : Hid (RfAns C R S cap n (putM M id key) (.int .i64 0) w (.returned (.int .i64 0)) (w.setCell ⟨g, j * 2 + 1, none⟩ (.int .i64 key))) :=
      Lib.hid ⟨_, rfl, RefO.done h5 g1 (h2.upd j key) (he ▸ h3.upd h2 hj key) k1 (fun k hk => .inl hk)⟩
    clear h1 h2 h3 h5 h6 hm he g1 k1
    go_enter Try.func25, Try.ntmps25
    go_wp2_with fail
    (with_reducible refine HFD.out.mono ?_)
    rintro e w1 ⟨rfl, rfl⟩
    go_wp2
    go_ret
    exact HF.out
  · rw [if_neg hm, if_neg hm]
    have HE : Hid (RfAns C R S cap n M (.int .i64 6) w (.returned (.int .i64 6)) w) := Lib.hid ⟨S, rfl, h.same (Below.refl _ _)⟩
    have hn := isSome_not hm
    obtain ⟨v, E, h1, h2, h3, h5, h6⟩ := h
    have HFD := Lib.hid (at_no h1 (h3.none_at hn))
    clear h1 h2 h3 h5 h6 hm hn
    go_enter Try.func25, Try.ntmps25
    go_wp2_with fail
    (with_reducible refine HFD.out.mono ?_)
    rintro e w1 ⟨rfl, rfl⟩
    go_wp2
    go_ret
    exact HE.out
set_option maxRecDepth 100000 in
set_option maxHeartbeats 4000000 in
theorem rkey_any {C R cap n : Nat} {S : Nat → Prop} {M : Int → Option Int} {w : World} (h : RefO C R S cap n M w) (id : Int) :
    Calls Try.prog 29 #[.pointer (some ⟨R, 0, none⟩), .int .i64 id] w (RfAns C R S cap n M (.tuple #[.int .i64 ((M id).getD 0), .bool (M id).isSome]) w) := by
  by_cases hm : (M id).isSome = true
  · have h0 := h
    obtain ⟨v, E, h1, h2, h3, h5, h6⟩ := h
    obtain ⟨j, hj, he, hv⟩ := h3.find hm
    rw [hv]
    have HFD := Lib.hid (at_yes h1 h2 hj he)
    obtain ⟨_, c1, _⟩ := h1.cells
    obtain ⟨g, c, rfl, _, _, _⟩ := h1.ents.some_ (by omega)
    obtain ⟨_, a2⟩ := h1.ents.cell hj
    have hjn : (j : Int) < (n : Int) := by omega
    have HE : Hid (RfAns C R S cap n M (.tuple #[.int .i64 (E j).2, .bool true]) w (.returned (.tuple #[.int .i64 (E j).2, .bool true])) w) := Lib.hid ⟨S, rfl, h0.same (Below.refl _ _)⟩
    clear h0 h1 h2 h3 h5 h6 hm he hv
    go_enter Try.func29, Try.ntmps29
    go_wp2_with fail
    (with_reducible refine HFD.out.mono ?_)
    rintro e w1 ⟨rfl, rfl⟩
    go_wp2
    go_ret2
    exact HE.out
  · have hn := isSome_not hm
    rw [hn]
    have HE : Hid (RfAns C R S cap n M (.tuple #[.int .i64 0, .bool false]) w (.returned (.tuple #[.int .i64 0, .bool false])) w) := Lib.hid ⟨S, rfl, h.same (Below.refl _ _)⟩
    obtain ⟨v, E, h1, h2, h3, h5, h6⟩ := h
    have HFD := Lib.hid (at_no h1 (h3.none_at hn))
    clear h1 h2 h3 h5 h6 hm hn
    go_enter Try.func29, Try.ntmps29
    go_wp2_with fail
    (with_reducible refine HFD.out.mono ?_)
    rintro e w1 ⟨rfl, rfl⟩
    go_wp2
    go_ret2
    exact HE.out
theorem less_any (x y : Int × Int) (W : World) :
    Calls Try.prog 34 #[.agg #[.int .i64 x.1, .int .i64 x.2], .agg #[.int .i64 y.1, .int .i64 y.2]] W fun e w' => e = .returned (.bool (decide (lt2 x y))) ∧ Below W.heap.size W w' := by
  obtain ⟨a, b⟩ := x
  obtain ⟨c, d⟩ := y
  have hB : Below W.heap.size W ((W.alloc (.cells #[.int .i64 a, .int .i64 b] 40)).alloc (.cells #[.int .i64 c, .int .i64 d] 40)) := ((Below.refl _ _).alloc (Nat.le_refl _) _).alloc (by simp) _
  have HB := Lib.hid hB
  clear hB
  by_cases h1 : b < d
  · have ht : Hid (decide (lt2 (a, b) (c, d)) = true) := Lib.hid (decide_eq_true (.inl h1))
    go_enter Try.func34, Try.ntmps34
    go_wp2
    go_ret
    exact ⟨ret_bool ht.out.symm, HB.out⟩
  · by_cases h2 : b = d
    · subst h2
      have e1 : (b == b) = true := by simp
      by_cases h3 : a < c
      · have ht : Hid (decide (lt2 (a, b) (c, b)) = true) := Lib.hid (decide_eq_true (.inr ⟨rfl, h3⟩))
        go_enter Try.func34, Try.ntmps34
        go_wp2
        go_ret
        exact ⟨ret_bool ht.out.symm, HB.out⟩
      · have ht : Hid (decide (lt2 (a, b) (c, b)) = false) := Lib.hid (decide_eq_false (by unfold lt2; simp; omega))
        go_enter Try.func34, Try.ntmps34
        go_wp2
        go_ret
        exact ⟨ret_bool ht.out.symm, HB.out⟩
    · have e1 : (b == d) = false := beq_eq_false_iff_ne.2 h2
      have ht : Hid (decide (lt2 (a, b) (c, d)) = false) := Lib.hid (decide_eq_false (by unfold lt2; simp; omega))
      go_enter Try.func34, Try.ntmps34
      go_wp2
      go_ret
      exact ⟨ret_bool ht.out.symm, HB.out⟩
end Go.Proofs.Ytlnbjmmbjhglnaa
