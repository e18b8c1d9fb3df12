/-
  A region of any order that reads, makes a struct's literal and appends it to a row of the call's own ('out = append(out, T{..})'): the state by what has come up. No program is named.
-/
import Derived.Test.YtkfhjpgapmfiaaaSrApp
import Derived.Test.YtkfhjpgapmfiaaaLoose
namespace Go.Proofs.Ytkfhjpgapmfiaaa
open Go.ChangeShapes Go.WideShapes Go.ChangeAt Go.RowKit
set_option linter.unusedVariables false

/-- Where the literal lies, and the new slice. -/
structure Ga where
  g : Nat
  A : Option Addr
  c : Nat
/-- The state: wS is where the call began, base what is its own; lit and app are the places of the literal and of the append. -/
structure ApC (wS : World) (base : Nat) (t : TypeId) (s n : Nat) (v0 : Value) (xs news : List Value) (lit app : Nat) (γ : Ga) (L : Nat → Bool) (w : World) : Prop where
  bel : Below base wS w
  own : L app = false → w.ownsRow base t s v0 n xs
  new : L lit = true → L app = false → Whole w γ.g t news.toArray
  fin : L app = true → w.ownsRow base t s (.slice γ.A (n + 1) γ.c) (n + 1) (xs ++ news)
section
variable {wS w : World} {base : Nat} {t : TypeId} {s n : Nat} {v0 : Value} {xs news : List Value} {lit app : Nat} {γ : Ga} {L : Nat → Bool}
theorem ApC.start (hb : Below base wS w) (ho : w.ownsRow base t s v0 n xs) (γ : Ga) : ApC wS base t s n v0 xs news lit app γ (fun _ => false) w :=
  ⟨hb, fun _ => ho, (fun h => by cases h), (fun h => by cases h)⟩
theorem ApC.quiet (h : ApC wS base t s n v0 xs news lit app γ L w) {i : Nat} (h1 : lit ≠ i) (h2 : app ≠ i) : ApC wS base t s n v0 xs news lit app γ (setL L i) w :=
  ⟨h.bel, by rw [setL_ne h2]; exact h.own, by rw [setL_ne h1, setL_ne h2]; exact h.new, by rw [setL_ne h2]; exact h.fin⟩
theorem ApC.lit_ (h : ApC wS base t s n v0 xs news lit app γ L w) (hn : app ≠ lit) (hB : base ≤ w.heap.size) : ApC wS base t s n v0 xs news lit app ⟨w.heap.size, γ.A, γ.c⟩ (setL L lit) (w.alloc (.cells news.toArray t)) :=
  ⟨h.bel.alloc hB _, (by rw [setL_ne hn]; exact fun e => (h.own e).alloc _), fun _ _ => Whole.fresh w t _, (by rw [setL_ne hn]; exact fun e => (h.fin e).alloc _)⟩
theorem Whole.cells_ {g : Nat} (h : Whole w g t news.toArray) : ∀ j u, news[j]? = some u → w.cell? ((⟨g, 0, none⟩ : Addr).add j) = some u := by
  intro j u hj
  rw [Addr.add_lit, Nat.zero_add, h.read]
  simpa using hj
theorem ApC.app_ {P : Program} {T ty : TypeId} {size bytes : Nat} {z : Value} (h : ApC wS base t size n v0 xs news lit app γ L w) (hn : lit ≠ app) (hl : L lit = true) (ha : L app = false) (hB : base ≤ wS.heap.size)
    (h1 : P.underlying T = some (.slice t)) (hinf : (P.info? t).map (fun i => (i.zero, i.size, i.bytes)) = some (some z, size, bytes)) (hzc : z.cells.size = size) (hsz : 0 < size) (hnl : news.length = size) (hone : ∀ u ∈ news, u.oneCell' = true) (hnn : n ≤ 100000) (hby : bytes ≤ 1000) :
    ∃ A' c' w', (Builtin.append_ #[T, T] ty #[v0, .slice (some ⟨γ.g, 0, none⟩) 1 1]).run P w = .ok (.slice A' (n + 1) c') w' ∧ ApC wS base t size n v0 xs news lit app ⟨γ.g, A', c'⟩ (setL L app) w' := by
  have hw := h.new hl ha
  have ho := h.own ha
  have hbw : base ≤ w.heap.size := Nat.le_trans hB h.bel.size
  obtain ⟨v', w', hrun, k1, k2, _⟩ := run_append_one (P := P) (w := w) T ty h1 hinf hzc hsz ho ⟨γ.g, 0, none⟩ hnl hw.cells_ hone hnn hby hbw
  obtain ⟨A', c', rfl⟩ := ow_shape k1
  refine ⟨A', c', w', hrun, below_grew h.bel hB k2 (fun k e => (World.ownsRow.lt ho k e).1), (fun e => by rw [setL_at] at e; cases e), (fun _ e => by rw [setL_at] at e; cases e), fun _ => k1⟩
end
end Go.Proofs.Ytkfhjpgapmfiaaa

