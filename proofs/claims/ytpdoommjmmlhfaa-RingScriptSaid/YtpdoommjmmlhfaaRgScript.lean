/-
  Layer 5: the ring beside the reference's; the statement's act.
-/
import Derived.Test.YtpdoommjmmlhfaaRgRef2
namespace Go.Proofs.Ytpdoommjmmlhfaa
open Go.ChangeShapes Go.WideShapes Go.ChangeAt Go.RowKit
set_option linter.unusedVariables false

theorem RRO.chg {C R cap n : Nat} {S T : Nat → Prop} {L : Nat → Int} {w w' : World} (h : RRO C R T cap n L w) (hk : Chg S w w') (hd : ∀ k, S k → T k → False) : RRO C R T cap n L w' := by
  obtain ⟨v, h1, h5, h6⟩ := h
  exact ⟨v, h1.keep (fun k e => hk.block k (h1.lt k e).2 (fun e2 => hd k e2 (h5 k e))), h5, fun k hk2 => by have := h6 k hk2; have := hk.size; omega⟩
/-- Choices in block B beside a ring behind H that holds L1 and a reference's behind R that holds L2. -/
def RR (B : Nat) (a : Option Addr) (len cap q : Nat) (w0 : World) (C H g D R c n1 : Nat) (L1 : Nat → Int) (n2 : Nat) (L2 : Nat → Int) (w : World) : Prop :=
  Has B a len cap q w0 w ∧ B < C ∧ B < D ∧ ∃ T, RingO C H g c n1 L1 w ∧ RRO D R T c n2 L2 w ∧ ∀ k, rgfoot H g k → T k → False
section
variable {B len cap q C H g D R c n1 n2 : Nat} {a : Option Addr} {w0 w : World} {L1 L2 : Nat → Int}
theorem RR.ring {f : FuncId} {args : Array Value} {n' : Nat} {L' : Nat → Int} {x : Value} (h : RR B a len cap q w0 C H g D R c n1 L1 n2 L2 w) (hc : RingO C H g c n1 L1 w → Calls Try.prog f args w (RgAns C H g c n' L' x w)) :
    Calls Try.prog f args w fun e w' => e = .returned x ∧ RR B a len cap q w0 C H g D R c n' L' n2 L2 w' := by
  obtain ⟨h1, h2, h3, T, h4, h5, h6⟩ := h
  refine (hc h4).mono ?_
  rintro e w' ⟨rfl, k1, k2⟩
  exact ⟨rfl, h1.trod (fun i hi => by have := h4.lo i hi; omega) k2, h2, h3, T, k1, h5.chg k2 h6, h6⟩
theorem RR.ref {f : FuncId} {args : Array Value} {n' : Nat} {L' : Nat → Int} {x : Value} (h : RR B a len cap q w0 C H g D R c n1 L1 n2 L2 w) (hc : ∀ T, RRO D R T c n2 L2 w → Calls Try.prog f args w (RrAns D R T c n' L' x w)) :
    Calls Try.prog f args w fun e w' => e = .returned x ∧ RR B a len cap q w0 C H g D R c n1 L1 n' L' w' := by
  obtain ⟨h1, h2, h3, T, h4, h5, h6⟩ := h
  refine (hc T h5).mono ?_
  rintro e w' ⟨T', rfl, k1, k2, k3⟩
  refine ⟨rfl, h1.trod (fun i hi => by have := h5.lo i hi; omega) k2, h2, h3, T', h4.chg k2 (fun e => h6 H (.inl rfl) e) (fun e => h6 g (.inr rfl) e), k1, fun k e1 e2 => ?_⟩
  rcases k3 k e2 with e | e
  · exact h6 k e1 e
  · have := (h4.lo k e1).2; omega
theorem RR.next {N : Int} (h : RR B a len cap q w0 C H g D R c n1 L1 n2 L2 w) (m0 : 1 ≤ N) (m1 : N ≤ 1000000000) (hq : q ≤ 1000000000) :
    Calls Try.prog 8 #[.pointer (some ⟨B, 0, none⟩), .int .i64 N] w fun e w' => ∃ r : Int, 0 ≤ r ∧ r < N ∧ e = .returned (.int .i64 r) ∧ RR B a len cap (q + 1) w0 C H g D R c n1 L1 n2 L2 w' := by
  obtain ⟨h1, h2, h3, T, h4, h5, h6⟩ := h
  refine (has_next B a len cap q N w0 w h1 m0 m1 hq).mono ?_
  rintro e w' ⟨r, r0, r1, rfl, k1, k2⟩
  exact ⟨r, r0, r1, rfl, k1, h2, h3, T, h4.only h2 k2, h5.chg (Chg.of_only (S := fun k => k = B) k2 rfl) (fun k e1 e2 => by have := (h5.lo k e2).1; have e1 : k = B := e1; omega), h6⟩
theorem RR.below {w' : World} (h : RR B a len cap q w0 C H g D R c n1 L1 n2 L2 w) (hb : Below w.heap.size w w') : RR B a len cap q w0 C H g D R c n1 L1 n2 L2 w' := by
  obtain ⟨h1, h2, h3, T, h4, h5, h6⟩ := h
  exact ⟨h1.below hb, h2, h3, T, h4.below hb, (h5.same hb).1, h6⟩
theorem RR.end_ (h : RR B a len cap q w0 C H g D R c n1 L1 n2 L2 w) : Below B w0 w := h.1.2
theorem RR.slice (h : RR B a len cap q w0 C H g D R c n1 L1 n2 L2 w) : ∃ A d, w.cell? ⟨R, 1, none⟩ = some (.slice A n2 d) ∧ Nums w D w.heap.size A n2 L2 := by
  obtain ⟨_, _, _, T, _, ⟨v, h1, _⟩, _⟩ := h
  obtain ⟨A, d, rfl⟩ := own_shape h1.own
  exact ⟨A, d, h1.cells.2.1, Nums.of_flat h1.own⟩
theorem RR.small (h : RR B a len cap q w0 C H g D R c n1 L1 n2 L2 w) : n1 ≤ c ∧ n2 ≤ c ∧ c ≤ 4096 := by
  obtain ⟨_, _, _, T, h4, h5, _⟩ := h
  have := h4.size; have := h5.size; omega
theorem RR.at_ (h : RR B a len cap q w0 C H g D R c n1 L1 n2 L2 w) (i : Int) :
    Calls Try.prog 20 #[.pointer (some ⟨H, 0, none⟩), .int .i64 i] w fun e w' => e = .returned (.tuple #[.int .i64 (takV L1 n1 i), .bool (inR n1 i)]) ∧ RR B a len cap q w0 C H g D R c n1 L1 n2 L2 w' := by
  obtain ⟨_, _, _, T, h4, _⟩ := id h
  refine (rgat_any h4 i).mono ?_
  rintro e w' ⟨e, q, rfl⟩
  exact ⟨e, h.below (Below_drewN (Below.refl _ _) q)⟩
end
theorem takE_yes {n : Nat} {i r : Int} (h : inR n i = true) : takE n i r = 0 := by unfold takE; rw [if_pos h]
theorem takE_not {n : Nat} {i r : Int} (h : inR n i = false) : takE n i r = r := by unfold takE; rw [h]; rfl
theorem empty_take (n : Nat) (i : Int) (w : World) : Calls Try.prog 25 #[.bool (inR n i)] w fun e w' => e = .returned (.int .i64 (takE n i 5)) ∧ w = w' := empty_any (inR n i) w
/-- What act leaves. -/
def RgActed (B : Nat) (a : Option Addr) (len cap q : Nat) (w0 : World) (C H g D R c : Nat) (e : Ending) (w' : World) : Prop :=
  ∃ (q' n : Nat) (L : Nat → Int), e = .returned (.bool true) ∧ q' ≤ q + 3 ∧ RR B a len cap q' w0 C H g D R c n L n L w'
set_option maxRecDepth 100000 in
set_option maxHeartbeats 16000000 in
theorem rgact_any {B len cap q C H g D R c n : Nat} {a : Option Addr} {w0 w : World} {L : Nat → Int} (h : RR B a len cap q w0 C H g D R c n L n L w) (hq : q ≤ 1000) :
    Calls Try.prog 11 #[.pointer (some ⟨B, 0, none⟩), .pointer (some ⟨H, 0, none⟩), .pointer (some ⟨R, 0, none⟩)] w (RgActed B a len cap q w0 C H g D R c) := by
  have HX := Lib.hid (h.next (N := 100) (by omega) (by omega) (by omega))
  clear h
  go_enter Try.func11, Try.ntmps11
  go_wp2_with fail
  (with_reducible refine HX.out.mono ?_)
  rintro e w1 ⟨v, v0, v1, rfl, h1⟩
  clear HX
  have HX := Lib.hid (h1.next (N := 7) (by omega) (by omega) (by omega))
  clear h1
  go_wp2_with fail
  (with_reducible refine HX.out.mono ?_)
  rintro e w2 ⟨r, r0, r1, rfl, h2⟩
  obtain ⟨i, rfl⟩ : ∃ i : Int, r = i + 1 := ⟨r - 1, by omega⟩
  have i0 : -1 ≤ i := by omega
  have i1 : i < 6 := by omega
  have HX := Lib.hid (h2.next (N := 8) (by omega) (by omega) (by omega))
  clear h2 r0 r1
  go_wp2_with fail
  (with_reducible refine HX.out.mono ?_)
  rintro e w5 ⟨t, t0, t1, rfl, h5⟩
  clear HX
  have hsm := h5.small
  rcases (by omega : t = 0 ∨ t = 1 ∨ t = 2 ∨ t = 3 ∨ t = 4 ∨ t = 5 ∨ t = 6 ∨ t = 7) with rfl | rfl | rfl | rfl | rfl | rfl | rfl | rfl
  · have HP := Lib.hid (h5.ring (fun hS => rgpush_any hS v))
    clear h5
    go_wp2_with fail
    (with_reducible refine HP.out.mono ?_)
    rintro e w6 ⟨rfl, h6⟩
    have HP2 := Lib.hid (h6.ref (fun T hT => rrins_any hT v false))
    clear h6 HP
    go_wp2_with fail
    (with_reducible refine HP2.out.mono ?_)
    rintro e w7 ⟨rfl, h7⟩
    have HF := Lib.hid (show RgActed B a len cap q w0 C H g D R c (.returned (.bool true)) w7 from ⟨_, _, _, rfl, by omega, h7⟩)
    clear h7 HP2
    have ht : (insE c n == insE c n) = true := by simp
    go_wp2
    go_ret
    exact HF.out
  · have HP := Lib.hid (h5.ring (fun hS => rgpush_any hS v))
    clear h5
    go_wp2_with fail
    (with_reducible refine HP.out.mono ?_)
    rintro e w6 ⟨rfl, h6⟩
    have HP2 := Lib.hid (h6.ref (fun T hT => rrins_any hT v false))
    clear h6 HP
    go_wp2_with fail
    (with_reducible refine HP2.out.mono ?_)
    rintro e w7 ⟨rfl, h7⟩
    have HF := Lib.hid (show RgActed B a len cap q w0 C H g D R c (.returned (.bool true)) w7 from ⟨_, _, _, rfl, by omega, h7⟩)
    clear h7 HP2
    have ht : (insE c n == insE c n) = true := by simp
    go_wp2
    go_ret
    exact HF.out
  · have HP := Lib.hid (h5.ring (fun hS => rgfront_any hS v))
    clear h5
    go_wp2_with fail
    (with_reducible refine HP.out.mono ?_)
    rintro e w6 ⟨rfl, h6⟩
    have HP2 := Lib.hid (h6.ref (fun T hT => rrins_any hT v true))
    clear h6 HP
    go_wp2_with fail
    (with_reducible refine HP2.out.mono ?_)
    rintro e w7 ⟨rfl, h7⟩
    have HF := Lib.hid (show RgActed B a len cap q w0 C H g D R c (.returned (.bool true)) w7 from ⟨_, _, _, rfl, by omega, h7⟩)
    clear h7 HP2
    have ht : (insE c n == insE c n) = true := by simp
    go_wp2
    go_ret
    exact HF.out
  · have HP := Lib.hid (h5.ring (fun hS => rgpop_any hS))
    clear h5
    go_wp2_with fail
    (with_reducible refine HP.out.mono ?_)
    rintro e w6 ⟨rfl, h6⟩
    have HP2 := Lib.hid (h6.ref (fun T hT => rrtake_any hT (0)))
    clear h6 HP
    go_wp2_with fail
    (with_reducible refine HP2.out.mono ?_)
    rintro e w7 ⟨rfl, h7⟩
    have HF := Lib.hid (show RgActed B a len cap q w0 C H g D R c (.returned (.bool true)) w7 from ⟨_, _, _, rfl, by omega, h7⟩)
    clear h7 HP2
    have HM := Lib.hid (empty_take n (0) w7)
    have ht : (takV L n (0) == takV L n (0)) = true := by simp
    have ht2 : (takE n (0) 5 == takE n (0) 5) = true := by simp
    go_wp2_with fail
    (with_reducible refine HM.out.mono ?_)
    rintro e w8 ⟨rfl, rfl⟩
    clear HM
    go_wp2
    go_ret
    exact HF.out
  · have HP := Lib.hid (h5.ring (fun hS => rgback_any hS))
    clear h5
    go_wp2_with fail
    (with_reducible refine HP.out.mono ?_)
    rintro e w6 ⟨rfl, h6⟩
    have HP2 := Lib.hid (h6.ref (fun T hT => rrtake_any hT ((n : Int) - 1)))
    obtain ⟨A6, d6, c6, _⟩ := h6.slice
    clear h6 HP
    go_wp2_with fail
    (with_reducible refine HP2.out.mono ?_)
    rintro e w7 ⟨rfl, h7⟩
    have HF := Lib.hid (show RgActed B a len cap q w0 C H g D R c (.returned (.bool true)) w7 from ⟨_, _, _, rfl, by omega, h7⟩)
    clear h7 HP2
    have HM := Lib.hid (empty_take n ((n : Int) - 1) w7)
    have ht : (takV L n ((n : Int) - 1) == takV L n ((n : Int) - 1)) = true := by simp
    have ht2 : (takE n ((n : Int) - 1) 5 == takE n ((n : Int) - 1) 5) = true := by simp
    go_wp2_with fail
    (with_reducible refine HM.out.mono ?_)
    rintro e w8 ⟨rfl, rfl⟩
    clear HM
    go_wp2
    go_ret
    exact HF.out
  · have HP := Lib.hid (h5.at_ i)
    clear h5
    go_wp2_with fail
    (with_reducible refine HP.out.mono ?_)
    rintro e w6 ⟨rfl, h6⟩
    obtain ⟨A6, d6, c6, hn6⟩ := h6.slice
    have HF := Lib.hid (show RgActed B a len cap q w0 C H g D R c (.returned (.bool true)) w6 from ⟨_, _, _, rfl, by omega, h6⟩)
    clear h6 HP
    by_cases hi : 0 ≤ i ∧ i < n
    · obtain ⟨k, rfl⟩ := Int.eq_ofNat_of_zero_le hi.1
      have hk : k < n := by omega
      have hk' : (k : Int) < n := by omega
      obtain ⟨b, off, rfl, _, _, ck⟩ := Nums.at_ hn6 hk
      have hb : inR n (k : Int) = true := inR_yes (by omega) (by omega)
      have hv : takV L n (k : Int) = L k := by unfold takV; rw [if_pos hb]; rfl
      have ht : (L k == L k) = true := by simp
      clear hn6 hi
      go_wp2
      go_ret
      exact HF.out
    · have hb : inR n i = false := inR_no (by omega)
      have hv : takV L n i = 0 := by unfold takV; rw [hb]; rfl
      clear hn6
      rcases (by omega : i < 0 ∨ (¬ i < 0 ∧ (n : Int) ≤ i)) with h1 | ⟨h1, h2⟩
      · clear hi
        go_wp2
        go_ret
        exact HF.out
      · have hd : decide (i < (n : Int)) = false := decide_eq_false (by omega)
        clear hi
        go_wp2
        go_ret
        exact HF.out
  · have HP := Lib.hid (h5.ring (fun hS => rgrem_any hS i))
    clear h5
    go_wp2_with fail
    (with_reducible refine HP.out.mono ?_)
    rintro e w6 ⟨rfl, h6⟩
    have HP2 := Lib.hid (h6.ref (fun T hT => rrtake_any hT i))
    clear h6 HP
    go_wp2_with fail
    (with_reducible refine HP2.out.mono ?_)
    rintro e w7 ⟨rfl, h7⟩
    have HF := Lib.hid (show RgActed B a len cap q w0 C H g D R c (.returned (.bool true)) w7 from ⟨_, _, _, rfl, by omega, h7⟩)
    clear h7 HP2
    have ht : (takV L n i == takV L n i) = true := by simp
    cases hb : inR n i
    · have he := takE_not (r := 6) hb
      go_wp2
      go_ret
      exact HF.out
    · have he := takE_yes (r := 6) hb
      go_wp2
      go_ret
      exact HF.out
  · have HP := Lib.hid (h5.ring (fun hS => rgrem_any hS i))
    clear h5
    go_wp2_with fail
    (with_reducible refine HP.out.mono ?_)
    rintro e w6 ⟨rfl, h6⟩
    have HP2 := Lib.hid (h6.ref (fun T hT => rrtake_any hT i))
    clear h6 HP
    go_wp2_with fail
    (with_reducible refine HP2.out.mono ?_)
    rintro e w7 ⟨rfl, h7⟩
    have HF := Lib.hid (show RgActed B a len cap q w0 C H g D R c (.returned (.bool true)) w7 from ⟨_, _, _, rfl, by omega, h7⟩)
    clear h7 HP2
    have ht : (takV L n i == takV L n i) = true := by simp
    cases hb : inR n i
    · have he := takE_not (r := 6) hb
      go_wp2
      go_ret
      exact HF.out
    · have he := takE_yes (r := 6) hb
      go_wp2
      go_ret
      exact HF.out
end Go.Proofs.Ytpdoommjmmlhfaa

