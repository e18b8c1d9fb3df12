/-
  Layer 13: a region of any order that calls lower twice and stores three fields of the reference's struct at its end: the state by what has come up. No call is walked here.
-/
import Derived.Test.YtkfhjpgapmfiaaaRfLow
import Derived.Test.YtkfhjpgapmfiaaaLoose
namespace Go.Proofs.Ytkfhjpgapmfiaaa
open Go.ChangeShapes Go.WideShapes Go.ChangeAt Go.RowKit
set_option linter.unusedVariables false

/-- A row of one's own stays. -/
theorem ow_later {w w' : World} {base : Nat} {t : TypeId} {s : Nat} {v : Value} {n : Nat} {xs : List Value} (h : w.ownsRow base t s v n xs) (hb : Below w.heap.size w w') : w'.ownsRow base t s v n xs :=
  owk h fun k hk => hb.block k (by
    rcases h.2 with ⟨rfl, _⟩ | ⟨g, cap, cur, rfl, _, k3, _⟩
    · simp [Value.ownBlock] at hk
    · simp [Value.ownBlock] at hk; subst hk; exact lt_of_block k3)
/-- The two lists' slices. -/
structure Gc where
  A1 : Option Addr
  c1 : Nat
  A2 : Option Addr
  c2 : Nat
/-- The world behind those of the three stores that have come up. -/
def wr3 (R : Nat) (v1 v2 v3 : Value) (a b c : Bool) (u : World) : World :=
  let u1 := if a then u.setCell ⟨R, 1, none⟩ v1 else u
  let u2 := if b then u1.setCell ⟨R, 2, none⟩ v2 else u1
  if c then u2.setCell ⟨R, 3, none⟩ v3 else u2
structure ChC (wS : World) (R : Nat) (M1 M2 : List Tg) (N K : Nat) (v3 : Value) (γ : Gc) (L : Nat → Bool) (w : World) : Prop where
  st : ∃ u, Below wS.heap.size wS u ∧ (L 8 = true → u.ownsRow wS.heap.size 52 3 (.slice γ.A1 N γ.c1) N (srs csT M1)) ∧ (L 14 = true → u.ownsRow wS.heap.size 52 3 (.slice γ.A2 K γ.c2) K (srs csT M2)) ∧
    w = wr3 R (.slice γ.A1 N γ.c1) (.slice γ.A2 K γ.c2) v3 (L 23) (L 26) (L 29) u
section
variable {wS w : World} {R : Nat} {M1 M2 : List Tg} {N K : Nat} {v3 : Value} {γ : Gc} {L : Nat → Bool}
theorem ChC.start (γ : Gc) (hb : Below wS.heap.size wS w) : ChC wS R M1 M2 N K v3 γ (fun _ => false) w := ⟨⟨w, hb, (fun h => by cases h), (fun h => by cases h), rfl⟩⟩
theorem ChC.quiet (h : ChC wS R M1 M2 N K v3 γ L w) {i : Nat} (h1 : 8 ≠ i) (h2 : 14 ≠ i) (h3 : 23 ≠ i) (h4 : 26 ≠ i) (h5 : 29 ≠ i) : ChC wS R M1 M2 N K v3 γ (setL L i) w :=
  ⟨by rw [setL_ne h1, setL_ne h2, setL_ne h3, setL_ne h4, setL_ne h5]; exact h.st⟩
theorem ChC.bel (h : ChC wS R M1 M2 N K v3 γ L w) (h3 : L 23 = false) (h4 : L 26 = false) (h5 : L 29 = false) : Below wS.heap.size wS w := by
  obtain ⟨u, hb, _, _, rfl⟩ := h.st
  rw [h3, h4, h5]; exact hb
theorem ChC.call1 (h : ChC wS R M1 M2 N K v3 γ L w) (h3 : L 23 = false) (h4 : L 26 = false) (h5 : L 29 = false) {A : Option Addr} {c : Nat} {w' : World} (hb2 : Below w.heap.size w w')
    (ho : w'.ownsRow w.heap.size 52 3 (.slice A N c) N (srs csT M1)) : ChC wS R M1 M2 N K v3 { γ with A1 := A, c1 := c } (setL L 8) w' := by
  obtain ⟨u, hb, o1, o2, hw⟩ := h.st
  rw [h3, h4, h5] at hw
  have hw : w = u := hw
  subst hw
  refine ⟨w', hb.trans (hb2.mono hb.size), fun _ => oww ho hb.size, fun k => ?_, ?_⟩
  · rw [setL_ne (by decide)] at k; exact ow_later (o2 k) hb2
  · rw [setL_ne (by decide), setL_ne (by decide), setL_ne (by decide), h3, h4, h5]; rfl
theorem ChC.call2 (h : ChC wS R M1 M2 N K v3 γ L w) (h3 : L 23 = false) (h4 : L 26 = false) (h5 : L 29 = false) {A : Option Addr} {c : Nat} {w' : World} (hb2 : Below w.heap.size w w')
    (ho : w'.ownsRow w.heap.size 52 3 (.slice A K c) K (srs csT M2)) : ChC wS R M1 M2 N K v3 { γ with A2 := A, c2 := c } (setL L 14) w' := by
  obtain ⟨u, hb, o1, o2, hw⟩ := h.st
  rw [h3, h4, h5] at hw
  have hw : w = u := hw
  subst hw
  refine ⟨w', hb.trans (hb2.mono hb.size), fun k => ?_, fun _ => oww ho hb.size, ?_⟩
  · rw [setL_ne (by decide)] at k; exact ow_later (o1 k) hb2
  · rw [setL_ne (by decide), setL_ne (by decide), setL_ne (by decide), h3, h4, h5]; rfl
theorem ChC.s1 (h : ChC wS R M1 M2 N K v3 γ L w) (h3 : L 23 = false) (h4 : L 26 = false) (h5 : L 29 = false) : ChC wS R M1 M2 N K v3 γ (setL L 23) (w.setCell ⟨R, 1, none⟩ (.slice γ.A1 N γ.c1)) := by
  obtain ⟨u, hb, o1, o2, hw⟩ := h.st
  rw [h3, h4, h5] at hw
  refine ⟨u, hb, fun k => ?_, fun k => ?_, ?_⟩
  · rw [setL_ne (by decide)] at k; exact o1 k
  · rw [setL_ne (by decide)] at k; exact o2 k
  · rw [setL_at, setL_ne (by decide), setL_ne (by decide), h4, h5, hw]; rfl
theorem ChC.s2 (h : ChC wS R M1 M2 N K v3 γ L w) (h3 : L 23 = true) (h4 : L 26 = false) (h5 : L 29 = false) : ChC wS R M1 M2 N K v3 γ (setL L 26) (w.setCell ⟨R, 2, none⟩ (.slice γ.A2 K γ.c2)) := by
  obtain ⟨u, hb, o1, o2, hw⟩ := h.st
  rw [h3, h4, h5] at hw
  refine ⟨u, hb, fun k => ?_, fun k => ?_, ?_⟩
  · rw [setL_ne (by decide)] at k; exact o1 k
  · rw [setL_ne (by decide)] at k; exact o2 k
  · rw [setL_at, setL_ne (by decide), setL_ne (by decide), h3, h5, hw]; rfl
theorem ChC.s3 (h : ChC wS R M1 M2 N K v3 γ L w) (h3 : L 23 = true) (h4 : L 26 = true) (h5 : L 29 = false) : ChC wS R M1 M2 N K v3 γ (setL L 29) (w.setCell ⟨R, 3, none⟩ v3) := by
  obtain ⟨u, hb, o1, o2, hw⟩ := h.st
  rw [h3, h4, h5] at hw
  refine ⟨u, hb, fun k => ?_, fun k => ?_, ?_⟩
  · rw [setL_ne (by decide)] at k; exact o1 k
  · rw [setL_ne (by decide)] at k; exact o2 k
  · rw [setL_at, setL_ne (by decide), setL_ne (by decide), h3, h4, hw]; rfl
/-- Before the second and before the third store. -/
theorem ChC.at1 (h : ChC wS R M1 M2 N K v3 γ L w) (h3 : L 23 = true) (h4 : L 26 = false) (h5 : L 29 = false) : ∃ u, Below wS.heap.size wS u ∧ w = u.setCell ⟨R, 1, none⟩ (.slice γ.A1 N γ.c1) := by
  obtain ⟨u, hb, o1, o2, hw⟩ := h.st
  rw [h3, h4, h5] at hw
  exact ⟨u, hb, hw⟩
theorem ChC.at2 (h : ChC wS R M1 M2 N K v3 γ L w) (h3 : L 23 = true) (h4 : L 26 = true) (h5 : L 29 = false) : ∃ u, Below wS.heap.size wS u ∧ w = (u.setCell ⟨R, 1, none⟩ (.slice γ.A1 N γ.c1)).setCell ⟨R, 2, none⟩ (.slice γ.A2 K γ.c2) := by
  obtain ⟨u, hb, o1, o2, hw⟩ := h.st
  rw [h3, h4, h5] at hw
  exact ⟨u, hb, hw⟩
theorem ChC.end_ (h : ChC wS R M1 M2 N K v3 γ L w) (h1 : L 8 = true) (h2 : L 14 = true) (h3 : L 23 = true) (h4 : L 26 = true) (h5 : L 29 = true) : ∃ u, Below wS.heap.size wS u ∧ u.ownsRow wS.heap.size 52 3 (.slice γ.A1 N γ.c1) N (srs csT M1) ∧ u.ownsRow wS.heap.size 52 3 (.slice γ.A2 K γ.c2) K (srs csT M2) ∧
    w = ((u.setCell ⟨R, 1, none⟩ (.slice γ.A1 N γ.c1)).setCell ⟨R, 2, none⟩ (.slice γ.A2 K γ.c2)).setCell ⟨R, 3, none⟩ v3 := by
  obtain ⟨u, hb, o1, o2, hw⟩ := h.st
  rw [h3, h4, h5] at hw
  exact ⟨u, hb, o1 h1, o2 h2, hw⟩
end
/-- The values in Charge's region of the two calls. -/
def ChV (R : Nat) (vL vO : Value) (N K : Nat) (b nw : Int) (γ : Gc) (i : Nat) (v : Value) (_ : World) : Prop :=
  match i with
  | 0 => v = .pointer (some ⟨R, 0, none⟩)
  | 1 => v = .pointer (some ⟨R, 0, none⟩)
  | 2 => v = .pointer (some ⟨R, 0, none⟩)
  | 3 => v = .pointer (some ⟨R, 0, none⟩)
  | 4 => v = .pointer (some ⟨R, 0, none⟩)
  | 5 => v = .pointer (some ⟨R, 1, none⟩)
  | 6 => v = vL
  | 7 => v = .int .i64 b
  | 8 => v = .slice γ.A1 N γ.c1
  | 9 => v = .pointer (some ⟨R, 0, none⟩)
  | 10 => v = .pointer (some ⟨R, 0, none⟩)
  | 11 => v = .pointer (some ⟨R, 2, none⟩)
  | 12 => v = vO
  | 13 => v = .int .i64 b
  | 14 => v = .slice γ.A2 K γ.c2
  | 15 => v = .pointer (some ⟨R, 0, none⟩)
  | 16 => v = .pointer (some ⟨R, 0, none⟩)
  | 17 => v = .pointer (some ⟨R, 3, none⟩)
  | 18 => v = .int .i64 nw
  | 19 => v = .int .i64 b
  | 20 => v = .int .i64 (nw - b)
  | 21 => v = .pointer (some ⟨R, 0, none⟩)
  | 22 => v = .pointer (some ⟨R, 1, none⟩)
  | 24 => v = .pointer (some ⟨R, 0, none⟩)
  | 25 => v = .pointer (some ⟨R, 2, none⟩)
  | 27 => v = .pointer (some ⟨R, 0, none⟩)
  | 28 => v = .pointer (some ⟨R, 3, none⟩)
  | _ => True
theorem ChV.k1 {R : Nat} {vL vO : Value} {N K : Nat} {b nw : Int} {γ : Gc} {A : Option Addr} {c i : Nat} {v : Value} {w w' : World} (hi : i ≠ 8) (h : ChV R vL vO N K b nw γ i v w) : ChV R vL vO N K b nw { γ with A1 := A, c1 := c } i v w' := by
  unfold ChV at h ⊢
  split at h <;> first | exact h | exact absurd rfl hi | trivial
theorem ChV.k2 {R : Nat} {vL vO : Value} {N K : Nat} {b nw : Int} {γ : Gc} {A : Option Addr} {c i : Nat} {v : Value} {w w' : World} (hi : i ≠ 14) (h : ChV R vL vO N K b nw γ i v w) : ChV R vL vO N K b nw { γ with A2 := A, c2 := c } i v w' := by
  unfold ChV at h ⊢
  split at h <;> first | exact h | exact absurd rfl hi | trivial
end Go.Proofs.Ytkfhjpgapmfiaaa

