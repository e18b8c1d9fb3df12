/-
  Layer 4: the heap beside the reference's; the statement's act.
-/
import Derived.Test.YtlnbjmmbjhglnaaHpRef5
import Derived.Test.YtlnbjmmbjhglnaaHpRef6
import Derived.Test.YtlnbjmmbjhglnaaHpLaws2
namespace Go.Proofs.Ytlnbjmmbjhglnaa
open Go.ChangeShapes Go.WideShapes Go.ChangeAt Go.RowKit
set_option linter.unusedVariables false

theorem RefO.chg {C R cap n : Nat} {S T : Nat → Prop} {M : Int → Option Int} {w w' : World} (h : RefO C R T cap n M w) (hk : Chg S w w') (hd : ∀ k, S k → T k → False) : RefO C R T cap n M w' := by
  obtain ⟨v, E, h1, h2, h3, h5, h6⟩ := h
  exact ⟨v, E, h1.keep (fun k e => hk.block k (h1.lt k e).2 (fun e2 => hd k e2 (h5 k e))), h2, h3, h5, fun k hk2 => by have := h6 k hk2; have := hk.size; omega⟩
theorem HeapO.chg {C H cap n : Nat} {S T : Nat → Prop} {M : Int → Option Int} {w w' : World} (h : HeapO C H S cap n M w) (hk : Chg T w w') (hd : ∀ k, S k → T k → False) : HeapO C H S cap n M w' := by
  obtain ⟨PB, v, E, P, h1, h2, h3, h4, h5, h6⟩ := h
  exact ⟨PB, v, E, P, h1.keep (fun k e => hk.block k (h1.lt k e).2 (fun e2 => hd k (h5 k e) e2)), h2, h3, h4, h5, fun k hk2 => by have := h6 k hk2; have := hk.size; omega⟩
/-- Choices in block B beside a heap behind H that holds M1 and a reference's behind R that holds M2. -/
def HR (B : Nat) (a : Option Addr) (len cap q : Nat) (w0 : World) (C H D R c n1 : Nat) (M1 : Int → Option Int) (n2 : Nat) (M2 : Int → Option Int) (w : World) : Prop :=
  Has B a len cap q w0 w ∧ B < C ∧ B < D ∧ ∃ S T, HeapO C H S c n1 M1 w ∧ RefO D R T c n2 M2 w ∧ ∀ k, S k → T k → False
section
variable {B len cap q C H D R c n1 n2 : Nat} {a : Option Addr} {w0 w : World} {M1 M2 : Int → Option Int}
theorem HR.heap {f : FuncId} {args : Array Value} {n' : Nat} {M' : Int → Option Int} {x : Value} (h : HR B a len cap q w0 C H D R c n1 M1 n2 M2 w) (hc : ∀ S, HeapO C H S c n1 M1 w → Calls Try.prog f args w (HpAns C H S c n' M' x w)) :
    Calls Try.prog f args w fun e w' => e = .returned x ∧ HR B a len cap q w0 C H D R c n' M' n2 M2 w' := by
  obtain ⟨h1, h2, h3, S, T, h4, h5, h6⟩ := h
  refine (hc S h4).mono ?_
  rintro e w' ⟨S', rfl, k1, k2, k3⟩
  refine ⟨rfl, h1.trod (fun i hi => by have := h4.lo i hi; omega) k2, h2, h3, S', T, k1, h5.chg k2 h6, fun k e1 e2 => ?_⟩
  rcases k3 k e1 with e | e
  · exact h6 k e e2
  · have := (h5.lo k e2).2; omega
theorem HR.ref {f : FuncId} {args : Array Value} {n' : Nat} {M' : Int → Option Int} {x : Value} (h : HR B a len cap q w0 C H D R c n1 M1 n2 M2 w) (hc : ∀ T, RefO D R T c n2 M2 w → Calls Try.prog f args w (RfAns D R T c n' M' x w)) :
    Calls Try.prog f args w fun e w' => e = .returned x ∧ HR B a len cap q w0 C H D R c n1 M1 n' M' w' := by
  obtain ⟨h1, h2, h3, S, T, h4, h5, h6⟩ := h
  refine (hc T h5).mono ?_
  rintro e w' ⟨T', rfl, k1, k2, k3⟩
  refine ⟨rfl, h1.trod (fun i hi => by have := h5.lo i hi; omega) k2, h2, h3, S, T', h4.chg k2 h6, k1, fun k e1 e2 => ?_⟩
  rcases k3 k e2 with e | e
  · exact h6 k e1 e
  · have := (h4.lo k e1).2; omega
theorem HR.next {N : Int} (h : HR B a len cap q w0 C H D R c n1 M1 n2 M2 w) (m0 : 1 ≤ N) (m1 : N ≤ 1000000000) (hq : q ≤ 1000000000) :
    Calls Try.prog 8 #[.pointer (some ⟨B, 0, none⟩), .int .i64 N] w fun e w' => ∃ r : Int, 0 ≤ r ∧ r < N ∧ e = .returned (.int .i64 r) ∧ HR B a len cap (q + 1) w0 C H D R c n1 M1 n2 M2 w' ∧ Only B w w' := by
  obtain ⟨h1, h2, h3, S, T, h4, h5, h6⟩ := h
  refine (has_next B a len cap q N w0 w h1 m0 m1 hq).mono ?_
  rintro e w' ⟨r, r0, r1, rfl, k1, k2⟩
  refine ⟨r, r0, r1, rfl, ⟨k1, h2, h3, S, T, h4.only h2 k2, h5.chg (Chg.of_only (S := fun k => k = B) k2 rfl) (fun k e1 e2 => by have := (h5.lo k e2).1; have e1 : k = B := e1; omega), h6⟩, k2⟩
theorem HR.int64 (h : HR B a len cap q w0 C H D R c n1 M1 n2 M2 w) (hq : q ≤ 900000000) :
    Calls Try.prog 19 #[.pointer (some ⟨B, 0, none⟩)] w fun e w' => ∃ x : Int, -9223372036854775808 ≤ x ∧ x ≤ 9223372036854775807 ∧ e = .returned (.int .i64 x) ∧ HR B a len cap (q + 3) w0 C H D R c n1 M1 n2 M2 w' := by
  obtain ⟨h1, h2, h3, S, T, h4, h5, h6⟩ := h
  refine (has_int64 B a len cap q w0 w h1 hq).mono ?_
  rintro e w' ⟨x, x0, x1, rfl, k1, k2⟩
  exact ⟨x, x0, x1, rfl, k1, h2, h3, S, T, h4.only h2 k2, h5.chg (Chg.of_only (S := fun k => k = B) k2 rfl) (fun k e1 e2 => by have := (h5.lo k e2).1; have e1 : k = B := e1; omega), h6⟩
theorem HR.below {w' : World} (h : HR B a len cap q w0 C H D R c n1 M1 n2 M2 w) (hb : Below w.heap.size w w') : HR B a len cap q w0 C H D R c n1 M1 n2 M2 w' := by
  obtain ⟨h1, h2, h3, S, T, h4, h5, h6⟩ := h
  exact ⟨h1.below hb, h2, h3, S, T, (h4.same hb).1, (h5.same hb).1, h6⟩
theorem HR.end_ (h : HR B a len cap q w0 C H D R c n1 M1 n2 M2 w) : Below B w0 w := h.1.2
end
/-- The same beside an entry of the call's own in block b. -/
def HRB (B : Nat) (a : Option Addr) (len cap q : Nat) (w0 : World) (C H D R c n1 : Nat) (M1 : Int → Option Int) (n2 : Nat) (M2 : Int → Option Int) (b : Nat) (x : Int × Int) (w : World) : Prop :=
  Has B a len cap q w0 w ∧ B < C ∧ B < D ∧ (∃ S T, HeapO C H S c n1 M1 w ∧ RefO D R T c n2 M2 w ∧ (∀ k, S k → T k → False) ∧ ¬ S b ∧ ¬ T b) ∧ Whole w b 40 #[.int .i64 x.1, .int .i64 x.2]
section
variable {B len cap q C H D R c n1 n2 b : Nat} {a : Option Addr} {w0 w : World} {M1 M2 : Int → Option Int} {x : Int × Int}
theorem HR.boxed (h : HR B a len cap q w0 C H D R c n1 M1 n2 M2 w) (x : Int × Int) : HRB B a len cap q w0 C H D R c n1 M1 n2 M2 w.heap.size x (w.alloc (.cells #[.int .i64 x.1, .int .i64 x.2] 40)) := by
  obtain ⟨h1, h2, h3, S, T, h4, h5, h6⟩ := h
  have hb := pair_new w x.1 x.2
  exact ⟨h1.below hb, h2, h3, ⟨S, T, (h4.same hb).1, (h5.same hb).1, h6, fun e => by have := (h4.lo _ e).2; omega, fun e => by have := (h5.lo _ e).2; omega⟩, Whole.new w _ _⟩
theorem HRB.ref {f : FuncId} {args : Array Value} {n' : Nat} {M' : Int → Option Int} {y : Value} (h : HRB B a len cap q w0 C H D R c n1 M1 n2 M2 b x w) (hc : ∀ T, RefO D R T c n2 M2 w → Calls Try.prog f args w (RfAns D R T c n' M' y w)) :
    Calls Try.prog f args w fun e w' => e = .returned y ∧ HRB B a len cap q w0 C H D R c n1 M1 n' M' b x w' := by
  obtain ⟨h1, h2, h3, ⟨S, T, h4, h5, h6, h7, h8⟩, hw⟩ := h
  refine (hc T h5).mono ?_
  rintro e w' ⟨T', rfl, k1, k2, k3⟩
  refine ⟨rfl, h1.trod (fun i hi => by have := h5.lo i hi; omega) k2, h2, h3, ⟨S, T', h4.chg k2 h6, k1, fun k e1 e2 => ?_, h7, fun e => ?_⟩, k2.whole hw h8⟩
  · rcases k3 k e2 with e | e
    · exact h6 k e1 e
    · have := (h4.lo k e1).2; omega
  · rcases k3 b e with e | e
    · exact h8 e
    · have := hw.size_lt; omega
theorem HRB.below {w' : World} (h : HRB B a len cap q w0 C H D R c n1 M1 n2 M2 b x w) (hb : Below w.heap.size w w') : HRB B a len cap q w0 C H D R c n1 M1 n2 M2 b x w' := by
  obtain ⟨h1, h2, h3, ⟨S, T, h4, h5, h6, h7, h8⟩, hw⟩ := h
  exact ⟨h1.below hb, h2, h3, ⟨S, T, (h4.same hb).1, (h5.same hb).1, h6, h7, h8⟩, hw.below hb⟩
theorem HRB.hr (h : HRB B a len cap q w0 C H D R c n1 M1 n2 M2 b x w) : HR B a len cap q w0 C H D R c n1 M1 n2 M2 w := by
  obtain ⟨h1, h2, h3, ⟨S, T, h4, h5, h6, h7, h8⟩, hw⟩ := h
  exact ⟨h1, h2, h3, S, T, h4, h5, h6⟩
end
/-- What act leaves. -/
def Acted (B : Nat) (a : Option Addr) (len cap q : Nat) (w0 : World) (C H D R c : Nat) (e : Ending) (w' : World) : Prop :=
  ∃ (q' n : Nat) (M : Int → Option Int), e = .returned (.bool true) ∧ q' ≤ q + 8 ∧ HR B a len cap q' w0 C H D R c n M n M w'
def list3 : Array Value := #[Value.int IntKind.i64 (-1), Value.int IntKind.i64 4096, Value.int IntKind.i64 4095]
theorem words3 (w : World) (n : Nat) (hn : n ≤ 2) : ∃ x : Int, -1 ≤ x ∧ x ≤ 4096 ∧ (w.alloc (.cells list3 3)).cell? ⟨w.heap.size, n, none⟩ = some (.int .i64 x) := by
  obtain ⟨x, h0, h1, h2⟩ := pick_int (k := .i64) (lo := -1) (hi := 4096) (cs := list3) (by decide) (n := n) (by show n < 3; omega)
  exact ⟨x, h0, h1, cell_new h2⟩
set_option maxRecDepth 100000 in
set_option maxHeartbeats 16000000 in
theorem act_any {B len cap q C H D R c n : Nat} {a : Option Addr} {w0 w : World} {M : Int → Option Int} (h : HR B a len cap q w0 C H D R c n M n M w) (hq : q ≤ 1000) :
    Calls Try.prog 11 #[.pointer (some ⟨B, 0, none⟩), .pointer (some ⟨H, 0, none⟩), .pointer (some ⟨R, 0, none⟩)] w (Acted B a len cap q w0 C H D R c) := by
  have HX := Lib.hid (h.next (N := 8) (by omega) (by omega) (by omega))
  clear h
  go_enter Try.func11, Try.ntmps11
  go_wp2_with fail
  (with_reducible refine HX.out.mono ?_)
  rintro e w1 ⟨id, i0, i1, rfl, h1, _⟩
  have HI := Lib.hid (h1.int64 (by omega))
  clear h1 HX
  go_wp2_with fail
  (with_reducible refine HI.out.mono ?_)
  rintro e w2 ⟨key, y0, y1, rfl, h2⟩
  have HX := Lib.hid (h2.next (N := 9) (by omega) (by omega) (by omega))
  clear h2 HI
  go_wp2_with fail
  (with_reducible refine HX.out.mono ?_)
  rintro e w3 ⟨r, r0, r1, rfl, h3, _⟩
  by_cases hr : r = 8
  · subst hr
    clear i0 i1 r0 r1 HX
    have hW := words3 w3
    have h4 := h3.below ((Below.refl _ _).alloc (Nat.le_refl _) (.cells list3 3))
    have HXn := Lib.hid (h4.next (N := 3) (by omega) (by omega) (by omega))
    have hB3 := h3.1.1.lt
    unfold list3 at hW HXn
    have HW := Lib.hid hW
    clear hW h3 h4
    go_wp2_with fail
    (with_reducible refine HXn.out.mono ?_)
    rintro e w4 ⟨s, s0, s1, rfl, h4, ho⟩
    obtain ⟨m, rfl⟩ := Int.eq_ofNat_of_zero_le s0
    have hm2 : m ≤ 2 := by omega
    obtain ⟨id2, j0, j1, hj⟩ := HW.out m hm2
    have hj' := ho.keep (by omega) hj
    have HX := Lib.hid (h4.next (N := 8) (by omega) (by omega) (by omega))
    clear h4 HXn HW hj ho
    go_wp2_with fail
    (with_reducible refine HX.out.mono ?_)
    rintro e w5 ⟨t, t0, t1, rfl, h5, _⟩
    clear HX
    rcases (by omega : t = 0 ∨ t = 1 ∨ t = 2 ∨ t = 3 ∨ t = 4 ∨ t = 5 ∨ t = 6 ∨ t = 7) with rfl | rfl | rfl | rfl | rfl | rfl | rfl | rfl
    · have HP := Lib.hid (h5.heap (fun S hS => push_any hS id2 key))
      clear h5
      go_wp2_with fail
      (with_reducible refine HP.out.mono ?_)
      rintro e w6 ⟨rfl, h6⟩
      have HP2 := Lib.hid (h6.ref (fun T hT => rpush_any hT id2 key))
      clear h6 HP
      go_wp2_with fail
      (with_reducible refine HP2.out.mono ?_)
      rintro e w7 ⟨rfl, h7⟩
      have HF := Lib.hid (show Acted B a len cap q w0 C H D R c (.returned (.bool true)) w7 from ⟨_, _, _, rfl, by omega, h7⟩)
      clear h7 HP2
      have ht : (pushErr c n M id2 == pushErr c n M id2) = true := by simp
      go_wp2
      go_ret
      exact HF.out
    · have HP := Lib.hid (h5.heap (fun S hS => push_any hS id2 key))
      clear h5
      go_wp2_with fail
      (with_reducible refine HP.out.mono ?_)
      rintro e w6 ⟨rfl, h6⟩
      have HP2 := Lib.hid (h6.ref (fun T hT => rpush_any hT id2 key))
      clear h6 HP
      go_wp2_with fail
      (with_reducible refine HP2.out.mono ?_)
      rintro e w7 ⟨rfl, h7⟩
      have HF := Lib.hid (show Acted B a len cap q w0 C H D R c (.returned (.bool true)) w7 from ⟨_, _, _, rfl, by omega, h7⟩)
      clear h7 HP2
      have ht : (pushErr c n M id2 == pushErr c n M id2) = true := by simp
      go_wp2
      go_ret
      exact HF.out
    · have HP := Lib.hid (h5.heap (fun S hS => push_any hS id2 key))
      clear h5
      go_wp2_with fail
      (with_reducible refine HP.out.mono ?_)
      rintro e w6 ⟨rfl, h6⟩
      have HP2 := Lib.hid (h6.ref (fun T hT => rpush_any hT id2 key))
      clear h6 HP
      go_wp2_with fail
      (with_reducible refine HP2.out.mono ?_)
      rintro e w7 ⟨rfl, h7⟩
      have HF := Lib.hid (show Acted B a len cap q w0 C H D R c (.returned (.bool true)) w7 from ⟨_, _, _, rfl, by omega, h7⟩)
      clear h7 HP2
      have ht : (pushErr c n M id2 == pushErr c n M id2) = true := by simp
      go_wp2
      go_ret
      exact HF.out
    · have HP := Lib.hid (h5.heap (fun S hS => upd_any hS id2 key))
      clear h5
      go_wp2_with fail
      (with_reducible refine HP.out.mono ?_)
      rintro e w6 ⟨rfl, h6⟩
      have HP2 := Lib.hid (h6.ref (fun T hT => rupd_any hT id2 key))
      clear h6 HP
      go_wp2_with fail
      (with_reducible refine HP2.out.mono ?_)
      rintro e w7 ⟨rfl, h7⟩
      have HF := Lib.hid (show Acted B a len cap q w0 C H D R c (.returned (.bool true)) w7 from ⟨_, _, _, rfl, by omega, h7⟩)
      clear h7 HP2
      have ht : (updErr M id2 == updErr M id2) = true := by simp
      go_wp2
      go_ret
      exact HF.out
    · have HP := Lib.hid (h5.heap (fun S hS => rem_any hS id2))
      clear h5
      go_wp2_with fail
      (with_reducible refine HP.out.mono ?_)
      rintro e w6 ⟨rfl, h6⟩
      have HP2 := Lib.hid (h6.ref (fun T hT => rrem_any hT id2))
      clear h6 HP
      go_wp2_with fail
      (with_reducible refine HP2.out.mono ?_)
      rintro e w7 ⟨rfl, h7⟩
      have HF := Lib.hid (show Acted B a len cap q w0 C H D R c (.returned (.bool true)) w7 from ⟨_, _, _, rfl, by omega, h7⟩)
      clear h7 HP2
      have ht : (updErr M id2 == updErr M id2) = true := by simp
      have ht2 : ((M id2).getD 0 == (M id2).getD 0) = true := by simp
      go_wp2
      go_ret
      exact HF.out
    · have hp := h5.heap (fun S hS => peek_any hS)
      unfold popV at hp
      have HP := Lib.hid hp
      clear h5 hp
      go_wp2_with fail
      (with_reducible refine HP.out.mono ?_)
      rintro e w6 ⟨rfl, h6⟩
      have hp2 := (h6.boxed (popX M)).ref (fun T hT => rpeek_any hT)
      unfold popV at hp2
      have HP2 := Lib.hid hp2
      clear h6 HP hp2
      generalize popErr n = er at *
      go_wp2_with fail
      (with_reducible refine HP2.out.mono ?_)
      rintro e w7 ⟨rfl, h7⟩
      have h8 := h7.below (pair_new w7 (popX M).1 (popX M).2)
      obtain ⟨u0, u1, _, _⟩ := h8.2.2.2.2.at_
      obtain ⟨v0, v1, _, _⟩ := (Whole.new w7 40 #[.int .i64 (popX M).1, .int .i64 (popX M).2]).at_
      have HF := Lib.hid (show Acted B a len cap q w0 C H D R c (.returned (.bool true)) _ from ⟨_, _, _, rfl, by omega, h8.hr⟩)
      have hsz6 := h7.2.2.2.2.size_lt
      clear h7 h8 HP2
      have ht3 : (er == er) = true := by simp
      go_wp2_with fail
      generalize w7.alloc (.cells #[.int .i64 (popX M).1, .int .i64 (popX M).2] 40) = w8 at *
      go_wp2
      go_ret
      exact HF.out
    · have HP := Lib.hid (h5.heap (fun S hS => key_any hS id2))
      clear h5
      go_wp2_with fail
      (with_reducible refine HP.out.mono ?_)
      rintro e w6 ⟨rfl, h6⟩
      have HP2 := Lib.hid (h6.ref (fun T hT => rkey_any hT id2))
      clear h6 HP
      go_wp2_with fail
      (with_reducible refine HP2.out.mono ?_)
      rintro e w7 ⟨rfl, h7⟩
      have HF := Lib.hid (show Acted B a len cap q w0 C H D R c (.returned (.bool true)) w7 from ⟨_, _, _, rfl, by omega, h7⟩)
      clear h7 HP2
      have ht : ((M id2).isSome == (M id2).isSome) = true := by simp
      have ht2 : ((M id2).getD 0 == (M id2).getD 0) = true := by simp
      go_wp2
      go_ret
      exact HF.out
    · have hp := h5.heap (fun S hS => pop_any hS)
      unfold popV at hp
      have HP := Lib.hid hp
      clear h5 hp
      go_wp2_with fail
      (with_reducible refine HP.out.mono ?_)
      rintro e w6 ⟨rfl, h6⟩
      have hp2 := (h6.boxed (popX M)).ref (fun T hT => rpop_any hT)
      unfold popV at hp2
      have HP2 := Lib.hid hp2
      clear h6 HP hp2
      generalize popErr n = er at *
      go_wp2_with fail
      (with_reducible refine HP2.out.mono ?_)
      rintro e w7 ⟨rfl, h7⟩
      have h8 := h7.below (pair_new w7 (popX M).1 (popX M).2)
      obtain ⟨u0, u1, _, _⟩ := h8.2.2.2.2.at_
      obtain ⟨v0, v1, _, _⟩ := (Whole.new w7 40 #[.int .i64 (popX M).1, .int .i64 (popX M).2]).at_
      have HF := Lib.hid (show Acted B a len cap q w0 C H D R c (.returned (.bool true)) _ from ⟨_, _, _, rfl, by omega, h8.hr⟩)
      have hsz6 := h7.2.2.2.2.size_lt
      clear h7 h8 HP2
      have ht3 : (er == er) = true := by simp
      go_wp2_with fail
      generalize w7.alloc (.cells #[.int .i64 (popX M).1, .int .i64 (popX M).2] 40) = w8 at *
      go_wp2
      go_ret
      exact HF.out
  · have hr' : (r == 8) = false := beq_eq_false_iff_ne.2 hr
    have HX := Lib.hid (h3.next (N := 8) (by omega) (by omega) (by omega))
    clear h3 hr
    go_wp2_with fail
    (with_reducible refine HX.out.mono ?_)
    rintro e w5 ⟨t, t0, t1, rfl, h5, _⟩
    clear HX
    rcases (by omega : t = 0 ∨ t = 1 ∨ t = 2 ∨ t = 3 ∨ t = 4 ∨ t = 5 ∨ t = 6 ∨ t = 7) with rfl | rfl | rfl | rfl | rfl | rfl | rfl | rfl
    · have HP := Lib.hid (h5.heap (fun S hS => push_any hS id key))
      clear h5
      go_wp2_with fail
      (with_reducible refine HP.out.mono ?_)
      rintro e w6 ⟨rfl, h6⟩
      have HP2 := Lib.hid (h6.ref (fun T hT => rpush_any hT id key))
      clear h6 HP
      go_wp2_with fail
      (with_reducible refine HP2.out.mono ?_)
      rintro e w7 ⟨rfl, h7⟩
      have HF := Lib.hid (show Acted B a len cap q w0 C H D R c (.returned (.bool true)) w7 from ⟨_, _, _, rfl, by omega, h7⟩)
      clear h7 HP2
      have ht : (pushErr c n M id == pushErr c n M id) = true := by simp
      go_wp2
      go_ret
      exact HF.out
    · have HP := Lib.hid (h5.heap (fun S hS => push_any hS id key))
      clear h5
      go_wp2_with fail
      (with_reducible refine HP.out.mono ?_)
      rintro e w6 ⟨rfl, h6⟩
      have HP2 := Lib.hid (h6.ref (fun T hT => rpush_any hT id key))
      clear h6 HP
      go_wp2_with fail
      (with_reducible refine HP2.out.mono ?_)
      rintro e w7 ⟨rfl, h7⟩
      have HF := Lib.hid (show Acted B a len cap q w0 C H D R c (.returned (.bool true)) w7 from ⟨_, _, _, rfl, by omega, h7⟩)
      clear h7 HP2
      have ht : (pushErr c n M id == pushErr c n M id) = true := by simp
      go_wp2
      go_ret
      exact HF.out
    · have HP := Lib.hid (h5.heap (fun S hS => push_any hS id key))
      clear h5
      go_wp2_with fail
      (with_reducible refine HP.out.mono ?_)
      rintro e w6 ⟨rfl, h6⟩
      have HP2 := Lib.hid (h6.ref (fun T hT => rpush_any hT id key))
      clear h6 HP
      go_wp2_with fail
      (with_reducible refine HP2.out.mono ?_)
      rintro e w7 ⟨rfl, h7⟩
      have HF := Lib.hid (show Acted B a len cap q w0 C H D R c (.returned (.bool true)) w7 from ⟨_, _, _, rfl, by omega, h7⟩)
      clear h7 HP2
      have ht : (pushErr c n M id == pushErr c n M id) = true := by simp
      go_wp2
      go_ret
      exact HF.out
    · have HP := Lib.hid (h5.heap (fun S hS => upd_any hS id key))
      clear h5
      go_wp2_with fail
      (with_reducible refine HP.out.mono ?_)
      rintro e w6 ⟨rfl, h6⟩
      have HP2 := Lib.hid (h6.ref (fun T hT => rupd_any hT id key))
      clear h6 HP
      go_wp2_with fail
      (with_reducible refine HP2.out.mono ?_)
      rintro e w7 ⟨rfl, h7⟩
      have HF := Lib.hid (show Acted B a len cap q w0 C H D R c (.returned (.bool true)) w7 from ⟨_, _, _, rfl, by omega, h7⟩)
      clear h7 HP2
      have ht : (updErr M id == updErr M id) = true := by simp
      go_wp2
      go_ret
      exact HF.out
    · have HP := Lib.hid (h5.heap (fun S hS => rem_any hS id))
      clear h5
      go_wp2_with fail
      (with_reducible refine HP.out.mono ?_)
      rintro e w6 ⟨rfl, h6⟩
      have HP2 := Lib.hid (h6.ref (fun T hT => rrem_any hT id))
      clear h6 HP
      go_wp2_with fail
      (with_reducible refine HP2.out.mono ?_)
      rintro e w7 ⟨rfl, h7⟩
      have HF := Lib.hid (show Acted B a len cap q w0 C H D R c (.returned (.bool true)) w7 from ⟨_, _, _, rfl, by omega, h7⟩)
      clear h7 HP2
      have ht : (updErr M id == updErr M id) = true := by simp
      have ht2 : ((M id).getD 0 == (M id).getD 0) = true := by simp
      go_wp2
      go_ret
      exact HF.out
    · have hp := h5.heap (fun S hS => peek_any hS)
      unfold popV at hp
      have HP := Lib.hid hp
      clear h5 hp
      go_wp2_with fail
      (with_reducible refine HP.out.mono ?_)
      rintro e w6 ⟨rfl, h6⟩
      have hp2 := (h6.boxed (popX M)).ref (fun T hT => rpeek_any hT)
      unfold popV at hp2
      have HP2 := Lib.hid hp2
      clear h6 HP hp2
      generalize popErr n = er at *
      go_wp2_with fail
      (with_reducible refine HP2.out.mono ?_)
      rintro e w7 ⟨rfl, h7⟩
      have h8 := h7.below (pair_new w7 (popX M).1 (popX M).2)
      obtain ⟨u0, u1, _, _⟩ := h8.2.2.2.2.at_
      obtain ⟨v0, v1, _, _⟩ := (Whole.new w7 40 #[.int .i64 (popX M).1, .int .i64 (popX M).2]).at_
      have HF := Lib.hid (show Acted B a len cap q w0 C H D R c (.returned (.bool true)) _ from ⟨_, _, _, rfl, by omega, h8.hr⟩)
      have hsz6 := h7.2.2.2.2.size_lt
      clear h7 h8 HP2
      have ht3 : (er == er) = true := by simp
      go_wp2_with fail
      generalize w7.alloc (.cells #[.int .i64 (popX M).1, .int .i64 (popX M).2] 40) = w8 at *
      go_wp2
      go_ret
      exact HF.out
    · have HP := Lib.hid (h5.heap (fun S hS => key_any hS id))
      clear h5
      go_wp2_with fail
      (with_reducible refine HP.out.mono ?_)
      rintro e w6 ⟨rfl, h6⟩
      have HP2 := Lib.hid (h6.ref (fun T hT => rkey_any hT id))
      clear h6 HP
      go_wp2_with fail
      (with_reducible refine HP2.out.mono ?_)
      rintro e w7 ⟨rfl, h7⟩
      have HF := Lib.hid (show Acted B a len cap q w0 C H D R c (.returned (.bool true)) w7 from ⟨_, _, _, rfl, by omega, h7⟩)
      clear h7 HP2
      have ht : ((M id).isSome == (M id).isSome) = true := by simp
      have ht2 : ((M id).getD 0 == (M id).getD 0) = true := by simp
      go_wp2
      go_ret
      exact HF.out
    · have hp := h5.heap (fun S hS => pop_any hS)
      unfold popV at hp
      have HP := Lib.hid hp
      clear h5 hp
      go_wp2_with fail
      (with_reducible refine HP.out.mono ?_)
      rintro e w6 ⟨rfl, h6⟩
      have hp2 := (h6.boxed (popX M)).ref (fun T hT => rpop_any hT)
      unfold popV at hp2
      have HP2 := Lib.hid hp2
      clear h6 HP hp2
      generalize popErr n = er at *
      go_wp2_with fail
      (with_reducible refine HP2.out.mono ?_)
      rintro e w7 ⟨rfl, h7⟩
      have h8 := h7.below (pair_new w7 (popX M).1 (popX M).2)
      obtain ⟨u0, u1, _, _⟩ := h8.2.2.2.2.at_
      obtain ⟨v0, v1, _, _⟩ := (Whole.new w7 40 #[.int .i64 (popX M).1, .int .i64 (popX M).2]).at_
      have HF := Lib.hid (show Acted B a len cap q w0 C H D R c (.returned (.bool true)) _ from ⟨_, _, _, rfl, by omega, h8.hr⟩)
      have hsz6 := h7.2.2.2.2.size_lt
      clear h7 h8 HP2
      have ht3 : (er == er) = true := by simp
      go_wp2_with fail
      generalize w7.alloc (.cells #[.int .i64 (popX M).1, .int .i64 (popX M).2] 40) = w8 at *
      go_wp2
      go_ret
      exact HF.out
end Go.Proofs.Ytlnbjmmbjhglnaa
