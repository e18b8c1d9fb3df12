/-
  A region of any order in which one operation (piv) turns the objects and all behind it wait for it: the state for the law with a ghost. And: drawn numbers with choices alone (DqC), their environment (Inv.ofHas). No program's object is named.
-/
import Derived.Test.YtkhngfadhfomoaaLoose
import Derived.Test.YtkhngfadhfomoaaDrw
import Derived.Test.YtkhngfadhfomoaaSep
namespace Go.Proofs.Ytkhngfadhfomoaa
open Go.ChangeShapes Go.WideShapes Go.ChangeAt Go.RowKit
set_option linter.unusedVariables false

section
universe u
variable {Γ : Type u}
structure PvC (piv : Nat) (P0 : World → Prop) (P1 : Γ → World → Prop) (γ : Γ) (L : Nat → Bool) (w : World) : Prop where
  a : L piv = false → P0 w ∧ ∀ j, piv < j → L j = false
  b : L piv = true → P1 γ w
variable {piv : Nat} {P0 : World → Prop} {P1 : Γ → World → Prop} {γ : Γ} {L : Nat → Bool} {w w' : World}
theorem PvC.start (h : P0 w) (γ : Γ) : PvC piv P0 P1 γ (fun _ => false) w := ⟨fun _ => ⟨h, fun _ _ => rfl⟩, fun h => by cases h⟩
theorem PvC.up (h : PvC piv P0 P1 γ L w) {p : Nat} (hp : L p = true) (h1 : piv ≤ p) : L piv = true := by
  cases h0 : L piv with
  | true => rfl
  | false =>
    rcases Nat.lt_or_ge piv p with h2 | h2
    · have := (h.a h0).2 p h2; rw [hp] at this; cases this
    · obtain rfl : piv = p := by omega
      rw [hp] at h0; cases h0
theorem PvC.pre (h : PvC piv P0 P1 γ L w) {i : Nat} (hi : i < piv) : PvC piv P0 P1 γ (setL L i) w :=
  ⟨fun e => by
    rw [setL_ne (by omega)] at e
    exact ⟨(h.a e).1, fun j hj => by rw [setL_ne (by omega)]; exact (h.a e).2 j hj⟩, fun e => by rw [setL_ne (by omega)] at e; exact h.b e⟩
theorem PvC.post (h : PvC piv P0 P1 γ L w) (h5 : L piv = true) {i : Nat} (hi : piv ≠ i) (hw : P1 γ w') : PvC piv P0 P1 γ (setL L i) w' :=
  ⟨(fun e => by rw [setL_ne hi, h5] at e; cases e), fun _ => hw⟩
theorem PvC.pivot {γ' : Γ} (hw : P1 γ' w') : PvC piv P0 P1 γ' (setL L piv) w' := ⟨(fun e => by rw [setL_at] at e; cases e), fun _ => hw⟩
end
/-! ### numbers that are drawn while nothing but the choices is there -/
def DqC (B : Nat) (a : Option Addr) (len cap K : Nat) (w0 : World) (fu : Nat) (w : World) : Prop := ∃ k, k + fu ≤ K ∧ Has B a len cap k w0 w
theorem DqC.step {B : Nat} {a : Option Addr} {len cap K fu : Nat} {w0 w : World} (h : DqC B a len cap K w0 (fu + 1) w) : DqC B a len cap K w0 fu w := by
  obtain ⟨k, hk, h1⟩ := h; exact ⟨k, by omega, h1⟩
theorem DqC.below {B : Nat} {a : Option Addr} {len cap K fu : Nat} {w0 w w' : World} (h : DqC B a len cap K w0 (fu + 1) w) (hb : Below w.heap.size w w') : DqC B a len cap K w0 fu w' := by
  obtain ⟨k, hk, h1⟩ := h; exact ⟨k, by omega, h1.below hb⟩
theorem Inv.ofHas {a : Option Addr} {len cap k : Nat} {w wz : World} (h : Has w.heap.size a len cap k w wz) : Inv w.heap.size w (GenP w.heap.size w.heap.size a len cap k) wz :=
  ⟨fun j => j = w.heap.size, ⟨fun j => Iff.rfl, h.1, h.1.2, Nat.le_refl _⟩, fun j hj => by rw [hj]; exact Nat.le_refl _, h.2, h.2.size⟩
end Go.Proofs.Ytkhngfadhfomoaa

