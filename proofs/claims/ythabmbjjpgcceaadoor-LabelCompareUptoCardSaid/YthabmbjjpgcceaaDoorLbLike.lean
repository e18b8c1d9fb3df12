/-
  Layer 7: contract of the reference's like (recursive). Lists of up to 100 runes each.
-/
import Derived.Test.YthabmbjjpgcceaaDoorLbMatch
import Derived.Deep.QuietTactic
import Derived.BigQuiet
namespace Go.Proofs.YthabmbjjpgcceaaDoor
open Go.ChangeShapes Go.WideShapes Go.ChangeAt Go.RowKit
set_option linter.unusedVariables false

/-- The slice at A, of capacity c, holds the runes l. -/
def LC (w : World) (A : Option Addr) (c : Nat) (l : List Nat) : Prop :=
  l.length ≤ c ∧ c ≤ 9223372036854775807 ∧ ∀ j (h : j < l.length), ∃ b off, A = some ⟨b, off, none⟩ ∧ w.cell? ⟨b, off + j, none⟩ = some (.int .i64 (l[j] : Int))
theorem LC.drewN {w : World} {A : Option Addr} {c : Nat} {l : List Nat} (h : LC w A c l) (q : Nat) : LC (w.drewN q) A c l := h
theorem LC.below {w w' : World} {A : Option Addr} {c : Nat} {l : List Nat} (h : LC w A c l) (hb : Below w.heap.size w w') : LC w' A c l :=
  ⟨h.1, h.2.1, fun j hj => by obtain ⟨b, off, e, k⟩ := h.2.2 j hj; exact ⟨b, off, e, cell_later k hb⟩⟩
theorem LC.head {w : World} {A : Option Addr} {c x : Nat} {l : List Nat} (h : LC w A c (x :: l)) : ∃ b off, A = some ⟨b, off, none⟩ ∧ w.cell? ⟨b, off, none⟩ = some (.int .i64 (x : Int)) ∧ l.length + 1 ≤ c ∧ c ≤ 9223372036854775807 ∧
    (1 < c → LC w (some ⟨b, off + 1, none⟩) (c - 1) l) ∧ (c = 1 → LC w (some ⟨b, off, none⟩) 0 l ∧ l = []) := by
  obtain ⟨h1, h2, h3⟩ := h
  obtain ⟨b, off, e, hc⟩ := h3 0 (by simp)
  have h1' : l.length + 1 ≤ c := by simpa using h1
  refine ⟨b, off, e, by simpa using hc, h1', h2, fun h4 => ⟨by omega, by omega, fun j hj => ?_⟩, fun h4 => ?_⟩
  · obtain ⟨b', off', e', hc'⟩ := h3 (j + 1) (by simpa using hj)
    rw [e] at e'
    simp only [Option.some.injEq, Addr.mk.injEq, and_true] at e'
    obtain ⟨rfl, rfl⟩ := e'
    refine ⟨b, off + 1, rfl, ?_⟩
    rw [show off + 1 + j = off + (j + 1) by omega]
    simpa using hc'
  · have : l = [] := List.eq_nil_of_length_eq_zero (by omega)
    subst this
    exact ⟨⟨by simp, by omega, fun j hj => by simp at hj⟩, rfl⟩
/-- What like answers. -/
def LkAns (p s : List Nat) (w : World) (e : Ending) (w' : World) : Prop := e = .returned (.bool (lik 42 p s)) ∧ ∃ q, w' = w.drewN q
theorem like_nil (s : List Nat) (A B : Option Addr) (c d : Nat) (w : World) : Calls Tryd.prog 33 #[.slice A 0 c, .slice B s.length d] w (LkAns [] s w) := by
  unfold LkAns
  rw [lik_nil]
  cases s with
  | nil =>
    go_enter Tryd.func33, Tryd.ntmps33
    go_wp2
    go_ret
    exact ⟨rfl, 0, rfl⟩
  | cons x s =>
    rw [List.length_cons]
    generalize s.length = m
    have t : ((m : Int) + 1 == 0) = false := by simp; omega
    go_enter Tryd.func33, Tryd.ntmps33
    go_wp2
    go_ret
    exact ⟨rfl, 0, rfl⟩
/-- The walk at a pattern that is not empty: the contract of shorter lists is a hypothesis. -/
def LkIH (n : Nat) : Prop := ∀ (p s : List Nat) (A B : Option Addr) (c d : Nat) (w : World), p.length + s.length ≤ n → LC w A c p → LC w B d s →
    Calls Tryd.prog 33 #[.slice A p.length c, .slice B s.length d] w fun e w' => e = .returned (.bool (lik 42 p s)) ∧ ∃ q, w' = w.drewN q
set_option maxHeartbeats 2000000 in
theorem like_star0 (n : Nat) (IH0 : LkIH n) (p s : List Nat) (x : Nat) (A B : Option Addr) (c d : Nat) (w : World) (hn : p.length + 1 + s.length ≤ n + 1) (hp : LC w A c (x :: p)) (hs : LC w B d s) (hx : x = 42) (h0 : s = []) :
    Calls Tryd.prog 33 #[.slice A (p.length + 1) c, .slice B s.length d] w (LkAns (x :: p) s w) := by
  have IH := Lib.hid IH0
  clear IH0
  obtain ⟨b, off, rfl, hc, hl, hcm, hT, hT1⟩ := hp.head
  have hp' := Lib.hid hp
  have t : ((p.length : Int) + 1 == 0) = false := by simp; omega
  clear hp
  subst hx; subst h0
  unfold LkAns
  rw [lik_z, anyTail]
  by_cases hc1 : 1 < c
  · have hT := Lib.hid (hT hc1)
    clear hT1
    have H1 := Lib.hid (IH.out p [] (some ⟨b, off + 1, none⟩) B (c - 1) d w (by first | (simp at hn ⊢; omega) | (simp at hn ⊢; done)) hT.out hs)
    simp only [List.length_nil] at H1 ⊢
    generalize lik 42 p [] = r at *
    generalize p.length = m at *
    clear hs hn
    cases r
    all_goals
      go_enter Tryd.func33, Tryd.ntmps33
      go_wp2_with fail
      (with_reducible refine H1.out.mono ?_); rintro e w1 ⟨rfl, q, rfl⟩
      go_wp2
      go_ret
      exact ⟨rfl, _, rfl⟩
  · obtain rfl : c = 1 := by omega
    obtain ⟨hT1, rfl⟩ := hT1 rfl
    have hT := Lib.hid hT1
    clear hT1
    have H1 := Lib.hid (IH.out [] [] (some ⟨b, off, none⟩) B 0 d w (by first | (simp at hn ⊢; omega) | (simp at hn ⊢; done)) hT.out hs)
    simp only [List.length_nil] at H1 ⊢
    generalize lik 42 [] [] = r at *
    clear hs hn
    cases r
    all_goals
      go_enter Tryd.func33, Tryd.ntmps33
      go_wp2_with fail
      (with_reducible refine H1.out.mono ?_); rintro e w1 ⟨rfl, q, rfl⟩
      go_wp2
      go_ret
      exact ⟨rfl, _, rfl⟩
set_option maxHeartbeats 2000000 in
theorem like_star1 (n : Nat) (IH0 : LkIH n) (p s : List Nat) (x : Nat) (A B : Option Addr) (c d : Nat) (w : World) (hn : p.length + 1 + s.length ≤ n + 1) (hp : LC w A c (x :: p)) (hs : LC w B d s) (hx : x = 42) (y : Nat) (s1 : List Nat) (h0 : s = y :: s1) :
    Calls Tryd.prog 33 #[.slice A (p.length + 1) c, .slice B s.length d] w (LkAns (x :: p) s w) := by
  have IH := Lib.hid IH0
  clear IH0
  obtain ⟨b, off, rfl, hc, hl, hcm, hT, hT1⟩ := hp.head
  have hp' := Lib.hid hp
  have t : ((p.length : Int) + 1 == 0) = false := by simp; omega
  clear hp
  subst hx; subst h0
  obtain ⟨e, of2, rfl, hcs, hls, hdm, hS, hS1⟩ := hs.head
  have hs' := Lib.hid hs
  clear hs
  unfold LkAns
  rw [lik_z, anyTail, ← lik_z]
  by_cases hc1 : 1 < c
  · have hT := Lib.hid (hT hc1)
    clear hT1
    have H1 := Lib.hid (IH.out p (y :: s1) (some ⟨b, off + 1, none⟩) (some ⟨e, of2, none⟩) (c - 1) d w (by first | (simp at hn ⊢; omega) | (simp at hn ⊢; done)) hT.out hs'.out)
    by_cases hd1 : 1 < d
    · have hS := Lib.hid (hS hd1)
      clear hS1
      have H2 := Lib.hid (fun q => IH.out (42 :: p) s1 (some ⟨b, off, none⟩) (some ⟨e, of2 + 1, none⟩) c (d - 1) (w.drewN q) (by first | (simp at hn ⊢; omega) | (simp at hn ⊢; done)) (hp'.out.drewN q) (hS.out.drewN q))
      simp only [List.length_cons] at H1 H2 ⊢
      generalize lik 42 p (y :: s1) = r at *
      generalize lik 42 (42 :: p) s1 = r2 at *
      generalize p.length = m at *
      generalize s1.length = m2 at *
      have t2 : (0 : Int) < (m2 : Int) + 1 := by omega
      clear hn
      cases r
      · go_enter Tryd.func33, Tryd.ntmps33
        go_wp2_with fail
        (with_reducible refine H1.out.mono ?_); rintro e w1 ⟨rfl, q, rfl⟩
        go_wp2_with fail
        (with_reducible refine (H2.out _).mono ?_); rintro e w1 ⟨rfl, q2, rfl⟩
        go_wp2
        go_ret
        exact ⟨rfl, _, rfl⟩
      · go_enter Tryd.func33, Tryd.ntmps33
        go_wp2_with fail
        (with_reducible refine H1.out.mono ?_); rintro e w1 ⟨rfl, q, rfl⟩
        go_wp2
        go_ret
        exact ⟨rfl, _, rfl⟩
    · obtain rfl : d = 1 := by omega
      obtain ⟨hS1, rfl⟩ := hS1 rfl
      have hS := Lib.hid hS1
      clear hS1
      have H2 := Lib.hid (fun q => IH.out (42 :: p) [] (some ⟨b, off, none⟩) (some ⟨e, of2, none⟩) c 0 (w.drewN q) (by first | (simp at hn ⊢; omega) | (simp at hn ⊢; done)) (hp'.out.drewN q) (hS.out.drewN q))
      simp only [List.length_cons, List.length_nil] at H1 H2 ⊢
      generalize lik 42 p (y :: []) = r at *
      generalize lik 42 (42 :: p) [] = r2 at *
      generalize p.length = m at *
      have t2 : (0 : Int) < 1 := by omega
      clear hn
      cases r
      · go_enter Tryd.func33, Tryd.ntmps33
        go_wp2_with fail
        (with_reducible refine H1.out.mono ?_); rintro e w1 ⟨rfl, q, rfl⟩
        go_wp2_with fail
        (with_reducible refine (H2.out _).mono ?_); rintro e w1 ⟨rfl, q2, rfl⟩
        go_wp2
        go_ret
        exact ⟨rfl, _, rfl⟩
      · go_enter Tryd.func33, Tryd.ntmps33
        go_wp2_with fail
        (with_reducible refine H1.out.mono ?_); rintro e w1 ⟨rfl, q, rfl⟩
        go_wp2
        go_ret
        exact ⟨rfl, _, rfl⟩
  · obtain rfl : c = 1 := by omega
    obtain ⟨hT1, rfl⟩ := hT1 rfl
    have hT := Lib.hid hT1
    clear hT1
    have H1 := Lib.hid (IH.out [] (y :: s1) (some ⟨b, off, none⟩) (some ⟨e, of2, none⟩) 0 d w (by first | (simp at hn ⊢; omega) | (simp at hn ⊢; done)) hT.out hs'.out)
    by_cases hd1 : 1 < d
    · have hS := Lib.hid (hS hd1)
      clear hS1
      have H2 := Lib.hid (fun q => IH.out (42 :: []) s1 (some ⟨b, off, none⟩) (some ⟨e, of2 + 1, none⟩) 1 (d - 1) (w.drewN q) (by first | (simp at hn ⊢; omega) | (simp at hn ⊢; done)) (hp'.out.drewN q) (hS.out.drewN q))
      simp only [List.length_cons, List.length_nil] at H1 H2 ⊢
      generalize lik 42 [] (y :: s1) = r at *
      generalize lik 42 (42 :: []) s1 = r2 at *
      generalize s1.length = m2 at *
      have t2 : (0 : Int) < (m2 : Int) + 1 := by omega
      clear hn
      cases r
      · go_enter Tryd.func33, Tryd.ntmps33
        go_wp2_with fail
        (with_reducible refine H1.out.mono ?_); rintro e w1 ⟨rfl, q, rfl⟩
        go_wp2_with fail
        (with_reducible refine (H2.out _).mono ?_); rintro e w1 ⟨rfl, q2, rfl⟩
        go_wp2
        go_ret
        exact ⟨rfl, _, rfl⟩
      · go_enter Tryd.func33, Tryd.ntmps33
        go_wp2_with fail
        (with_reducible refine H1.out.mono ?_); rintro e w1 ⟨rfl, q, rfl⟩
        go_wp2
        go_ret
        exact ⟨rfl, _, rfl⟩
    · obtain rfl : d = 1 := by omega
      obtain ⟨hS1, rfl⟩ := hS1 rfl
      have hS := Lib.hid hS1
      clear hS1
      have H2 := Lib.hid (fun q => IH.out (42 :: []) [] (some ⟨b, off, none⟩) (some ⟨e, of2, none⟩) 1 0 (w.drewN q) (by first | (simp at hn ⊢; omega) | (simp at hn ⊢; done)) (hp'.out.drewN q) (hS.out.drewN q))
      simp only [List.length_cons, List.length_nil] at H1 H2 ⊢
      generalize lik 42 [] (y :: []) = r at *
      generalize lik 42 (42 :: []) [] = r2 at *
      have t2 : (0 : Int) < 1 := by omega
      clear hn
      cases r
      · go_enter Tryd.func33, Tryd.ntmps33
        go_wp2_with fail
        (with_reducible refine H1.out.mono ?_); rintro e w1 ⟨rfl, q, rfl⟩
        go_wp2_with fail
        (with_reducible refine (H2.out _).mono ?_); rintro e w1 ⟨rfl, q2, rfl⟩
        go_wp2
        go_ret
        exact ⟨rfl, _, rfl⟩
      · go_enter Tryd.func33, Tryd.ntmps33
        go_wp2_with fail
        (with_reducible refine H1.out.mono ?_); rintro e w1 ⟨rfl, q, rfl⟩
        go_wp2
        go_ret
        exact ⟨rfl, _, rfl⟩
set_option maxHeartbeats 2000000 in
theorem like_one0 (n : Nat) (IH0 : LkIH n) (p s : List Nat) (x : Nat) (A B : Option Addr) (c d : Nat) (w : World) (hn : p.length + 1 + s.length ≤ n + 1) (hp : LC w A c (x :: p)) (hs : LC w B d s) (hx : x ≠ 42) (h0 : s = []) :
    Calls Tryd.prog 33 #[.slice A (p.length + 1) c, .slice B s.length d] w (LkAns (x :: p) s w) := by
  have IH := Lib.hid IH0
  clear IH0
  obtain ⟨b, off, rfl, hc, hl, hcm, hT, hT1⟩ := hp.head
  have hp' := Lib.hid hp
  have t : ((p.length : Int) + 1 == 0) = false := by simp; omega
  clear hp
  subst h0
  unfold LkAns
  rw [lik_c0 hx]
  have t2 : ((x : Int) == 42) = false := by simp; omega
  simp only [List.length_nil]
  generalize p.length = m at *
  have t3 : decide ((0 : Int) < 0) = false := by decide
  clear hT hT1 IH hp' hn hs hx
  go_enter Tryd.func33, Tryd.ntmps33
  go_wp2_with fail
  go_quiet (fail)
  go_wp2
  go_ret
  exact ⟨rfl, _, rfl⟩
set_option maxHeartbeats 2000000 in
theorem like_one1 (n : Nat) (IH0 : LkIH n) (p s : List Nat) (x : Nat) (A B : Option Addr) (c d : Nat) (w : World) (hn : p.length + 1 + s.length ≤ n + 1) (hp : LC w A c (x :: p)) (hs : LC w B d s) (hx : x ≠ 42) (y : Nat) (s1 : List Nat) (h0 : s = y :: s1) (hy : x ≠ y) :
    Calls Tryd.prog 33 #[.slice A (p.length + 1) c, .slice B s.length d] w (LkAns (x :: p) s w) := by
  have IH := Lib.hid IH0
  clear IH0
  obtain ⟨b, off, rfl, hc, hl, hcm, hT, hT1⟩ := hp.head
  have hp' := Lib.hid hp
  have t : ((p.length : Int) + 1 == 0) = false := by simp; omega
  clear hp
  subst h0
  obtain ⟨e, of2, rfl, hcs, hls, hdm, hS, hS1⟩ := hs.head
  unfold LkAns
  rw [lik_c hx, decide_eq_false hy, Bool.false_and]
  have t2 : ((x : Int) == 42) = false := by simp; omega
  have t3 : ((x : Int) == (y : Int)) = false := by simp; omega
  simp only [List.length_cons]
  generalize p.length = m at *
  generalize s1.length = m2 at *
  have t4 : (0 : Int) < (m2 : Int) + 1 := by omega
  have t5 : decide ((0 : Int) < (m2 : Int) + 1) = true := decide_eq_true t4
  clear hT hT1 IH hp' hn hs hx hy hS hS1
  go_enter Tryd.func33, Tryd.ntmps33
  go_wp2_with fail
  go_quiet (fail)
  go_wp2
  go_ret
  exact ⟨rfl, _, rfl⟩
set_option maxHeartbeats 2000000 in
theorem like_one2 (n : Nat) (IH0 : LkIH n) (p s : List Nat) (x : Nat) (A B : Option Addr) (c d : Nat) (w : World) (hn : p.length + 1 + s.length ≤ n + 1) (hp : LC w A c (x :: p)) (hs : LC w B d s) (hx : x ≠ 42) (s1 : List Nat) (h0 : s = x :: s1) :
    Calls Tryd.prog 33 #[.slice A (p.length + 1) c, .slice B s.length d] w (LkAns (x :: p) s w) := by
  have IH := Lib.hid IH0
  clear IH0
  obtain ⟨b, off, rfl, hc, hl, hcm, hT, hT1⟩ := hp.head
  have hp' := Lib.hid hp
  have t : ((p.length : Int) + 1 == 0) = false := by simp; omega
  clear hp
  subst h0
  obtain ⟨e, of2, rfl, hcs, hls, hdm, hS, hS1⟩ := hs.head
  clear hs
  unfold LkAns
  rw [lik_c hx, decide_eq_true rfl, Bool.true_and]
  have t2 : ((x : Int) == 42) = false := by simp; omega
  have t3 : ((x : Int) == (x : Int)) = true := by simp
  by_cases hc1 : 1 < c
  · have hT := Lib.hid (hT hc1)
    clear hT1
    by_cases hd1 : 1 < d
    · have hS := Lib.hid (hS hd1)
      clear hS1
      have H2 := Lib.hid (fun q => IH.out p s1 (some ⟨b, off + 1, none⟩) (some ⟨e, of2 + 1, none⟩) (c - 1) (d - 1) (w.drewN q) (by first | (simp at hn ⊢; omega) | (simp at hn ⊢; done)) (hT.out.drewN q) (hS.out.drewN q))
      simp only [List.length_cons] at H2 ⊢
      generalize lik 42 p s1 = r at *
      generalize p.length = m at *
      generalize s1.length = m2 at *
      have t4 : (0 : Int) < (m2 : Int) + 1 := by omega
      have t5 : decide ((0 : Int) < (m2 : Int) + 1) = true := decide_eq_true t4
      clear hn hx hp'
      go_enter Tryd.func33, Tryd.ntmps33
      go_wp2_with fail
      go_quiet ((go_at_call 33; exact Calls.quiet_of (H2.out _)))
      go_wp2
      go_ret
      exact ⟨rfl, _, rfl⟩
    · obtain rfl : d = 1 := by omega
      obtain ⟨hS1, rfl⟩ := hS1 rfl
      have hS := Lib.hid hS1
      clear hS1
      have H2 := Lib.hid (fun q => IH.out p [] (some ⟨b, off + 1, none⟩) (some ⟨e, of2, none⟩) (c - 1) 0 (w.drewN q) (by first | (simp at hn ⊢; omega) | (simp at hn ⊢; done)) (hT.out.drewN q) (hS.out.drewN q))
      simp only [List.length_cons, List.length_nil] at H2 ⊢
      generalize lik 42 p [] = r at *
      generalize p.length = m at *
      have t4 : (0 : Int) < 1 := by omega
      have t5 : decide ((0 : Int) < 1) = true := decide_eq_true t4
      clear hn hx hp'
      go_enter Tryd.func33, Tryd.ntmps33
      go_wp2_with fail
      go_quiet ((go_at_call 33; exact Calls.quiet_of (H2.out _)))
      go_wp2
      go_ret
      exact ⟨rfl, _, rfl⟩
  · obtain rfl : c = 1 := by omega
    obtain ⟨hT1, rfl⟩ := hT1 rfl
    have hT := Lib.hid hT1
    clear hT1
    by_cases hd1 : 1 < d
    · have hS := Lib.hid (hS hd1)
      clear hS1
      have H2 := Lib.hid (fun q => IH.out [] s1 (some ⟨b, off, none⟩) (some ⟨e, of2 + 1, none⟩) 0 (d - 1) (w.drewN q) (by first | (simp at hn ⊢; omega) | (simp at hn ⊢; done)) (hT.out.drewN q) (hS.out.drewN q))
      simp only [List.length_cons, List.length_nil] at H2 ⊢
      generalize lik 42 [] s1 = r at *
      generalize s1.length = m2 at *
      have t4 : (0 : Int) < (m2 : Int) + 1 := by omega
      have t5 : decide ((0 : Int) < (m2 : Int) + 1) = true := decide_eq_true t4
      clear hn hx hp'
      go_enter Tryd.func33, Tryd.ntmps33
      go_wp2_with fail
      go_quiet ((go_at_call 33; exact Calls.quiet_of (H2.out _)))
      go_wp2
      go_ret
      exact ⟨rfl, _, rfl⟩
    · obtain rfl : d = 1 := by omega
      obtain ⟨hS1, rfl⟩ := hS1 rfl
      have hS := Lib.hid hS1
      clear hS1
      have H2 := Lib.hid (fun q => IH.out [] [] (some ⟨b, off, none⟩) (some ⟨e, of2, none⟩) 0 0 (w.drewN q) (by first | (simp at hn ⊢; omega) | (simp at hn ⊢; done)) (hT.out.drewN q) (hS.out.drewN q))
      simp only [List.length_cons, List.length_nil] at H2 ⊢
      generalize lik 42 [] [] = r at *
      have t4 : (0 : Int) < 1 := by omega
      have t5 : decide ((0 : Int) < 1) = true := decide_eq_true t4
      clear hn hx hp'
      go_enter Tryd.func33, Tryd.ntmps33
      go_wp2_with fail
      go_quiet ((go_at_call 33; exact Calls.quiet_of (H2.out _)))
      go_wp2
      go_ret
      exact ⟨rfl, _, rfl⟩
theorem like_any : ∀ (n : Nat) (p s : List Nat) (A B : Option Addr) (c d : Nat) (w : World), p.length + s.length ≤ n → LC w A c p → LC w B d s →
    Calls Tryd.prog 33 #[.slice A p.length c, .slice B s.length d] w (LkAns p s w) := by
  intro n
  induction n with
  | zero =>
    intro p s A B c d w hn hp hs
    obtain rfl : p = [] := List.eq_nil_of_length_eq_zero (by omega)
    exact like_nil s A B c d w
  | succ n ih =>
    intro p s A B c d w hn hp hs
    cases p with
    | nil => exact like_nil s A B c d w
    | cons x p =>
      rw [List.length_cons] at hn ⊢
      by_cases hx : x = 42
      · cases s with
        | nil => exact like_star0 n ih p [] x A B c d w hn hp hs hx rfl
        | cons y s1 => exact like_star1 n ih p (y :: s1) x A B c d w hn hp hs hx y s1 rfl
      · cases s with
        | nil => exact like_one0 n ih p [] x A B c d w hn hp hs hx rfl
        | cons y s1 =>
          by_cases hy : x = y
          · subst hy; exact like_one2 n ih p (x :: s1) x A B c d w hn hp hs hx s1 rfl
          · exact like_one1 n ih p (y :: s1) x A B c d w hn hp hs hx y s1 rfl hy
end Go.Proofs.YthabmbjjpgcceaaDoor

