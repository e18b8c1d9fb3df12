/-
  Layer 13: the program's reference beside what else a statement keeps (choices, another reference): one word for its calls. awake.
-/
import Derived.Test.YtkfhjpgapmfiaaaPsCharge
import Derived.Test.YtkfhjpgapmfiaaaPsJoin
import Derived.Test.YtkfhjpgapmfiaaaPsCopy
import Derived.Test.YtkfhjpgapmfiaaaLenGen
import Derived.Deep.LoopGhost
namespace Go.Proofs.Ytkfhjpgapmfiaaa
open Go.ChangeShapes Go.WideShapes Go.ChangeAt Go.RowKit
set_option linter.unusedVariables false

/-- The reference in state s, and what is kept beside it (X, by the reference's blocks T). -/
def SO (X : (Nat → Prop) → World → Prop) (R : Nat) (s : Sf) (w : World) : Prop := ∃ T, PsO T R s w ∧ X T w
/-- What is kept outlasts the reference's calls. -/
def Kx (X : (Nat → Prop) → World → Prop) : Prop := ∀ T T' w w', (∀ k, T k → k < w.heap.size) → X T w → Chg T w w' → (∀ k, T' k → T k ∨ w.heap.size ≤ k) → X T' w'
section
variable {X : (Nat → Prop) → World → Prop} {R : Nat} {s t : Sf} {w w' : World} {x : Value} {f : FuncId} {args : Array Value}
theorem SO.call (hX : Kx X) (h : SO X R s w) (hc : ∀ T, PsO T R s w → Calls Try.prog f args w (PsAns T R t x w)) : Calls Try.prog f args w fun e w' => e = .returned x ∧ SO X R t w' := by
  obtain ⟨T, h1, h2⟩ := h
  refine (hc T h1).mono ?_
  rintro e w' ⟨e1, ⟨T', k1, k2⟩, k3⟩
  exact ⟨e1, T', k1, hX T T' w w' h1.lt h2 k3 k2⟩
theorem SO.callE {Q : Sf → Prop} (hX : Kx X) (h : SO X R s w) (hc : ∀ T, PsO T R s w → Calls Try.prog f args w fun e w' => ∃ t, Q t ∧ PsAns T R t x w e w') : Calls Try.prog f args w fun e w' => e = .returned x ∧ ∃ t, Q t ∧ SO X R t w' := by
  obtain ⟨T, h1, h2⟩ := h
  refine (hc T h1).mono ?_
  rintro e w' ⟨t, hq, e1, ⟨T', k1, k2⟩, k3⟩
  exact ⟨e1, t, hq, T', k1, hX T T' w w' h1.lt h2 k3 k2⟩
theorem SO.below (hX : Kx X) (h : SO X R s w) (hb : Below w.heap.size w w') : SO X R s w' := by
  obtain ⟨T, h1, h2⟩ := h
  exact ⟨T, h1.below hb, hX T T w w' h1.lt h2 (Chg.of_below hb) (fun k hk => .inl hk)⟩
theorem SO.calm (hX : Kx X) (h : SO X R s w) (hc : ∀ T, PsO T R s w → Calls Try.prog f args w (Calm x w)) : Calls Try.prog f args w fun e w' => e = .returned x ∧ SO X R s w' := by
  have h' := h
  obtain ⟨T, h1, h2⟩ := h
  refine (hc T h1).mono ?_
  rintro e w' ⟨e1, hb⟩
  exact ⟨e1, h'.below hX hb⟩
theorem SO.ok (h : SO X R s w) : SfOk s := by obtain ⟨T, h1, _⟩ := h; exact h1.ok
theorem SO.join (hX : Kx X) (h : SO X R s w) {f : Int} (hf : -1000000 ≤ f ∧ f ≤ 1000000) (x : Int) : Calls Try.prog 18 #[.pointer (some ⟨R, 0, none⟩), .int .i64 f, .int .i64 x] w fun e w' => e = .returned (.int .i64 (jnE s f x)) ∧ SO X R (jnT s f x) w' :=
  h.call hX fun T hp => psjoin_any hp hf x
theorem SO.leave (hX : Kx X) (h : SO X R s w) {f : Int} (hf : -1000000 ≤ f ∧ f ≤ 1000000) : Calls Try.prog 19 #[.pointer (some ⟨R, 0, none⟩), .int .i64 f] w fun e w' => e = .returned (.int .i64 (lvE s f)) ∧ ∃ t, LvT s f t ∧ SO X R t w' :=
  h.callE hX fun T hp => psleave_any hp hf
theorem SO.setw (hX : Kx X) (h : SO X R s w) {f : Int} (hf : -1000000 ≤ f ∧ f ≤ 1000000) (x : Int) : Calls Try.prog 29 #[.pointer (some ⟨R, 0, none⟩), .int .i64 f, .int .i64 x] w fun e w' => e = .returned (.int .i64 (swE s f x)) ∧ SO X R (swT s f x) w' :=
  h.call hX fun T hp => pssetw_any hp hf x
theorem SO.charge (hX : Kx X) (h : SO X R s w) {f : Int} (hf : -1000000 ≤ f ∧ f ≤ 1000000) (l : Int) (haw : s.away ≤ 1000000000000000000) : Calls Try.prog 22 #[.pointer (some ⟨R, 0, none⟩), .int .i64 f, .int .i64 l] w fun e w' => e = .returned (.int .i64 (chE s f l)) ∧ ∃ t, ChT s f l t ∧ SO X R t w' :=
  h.callE hX fun T hp => pscharge_any hp hf l haw
theorem SO.select (hX : Kx X) (h : SO X R s w) {f g : Int} (ha : SelA s f g) : Calls Try.prog 20 #[.pointer (some ⟨R, 0, none⟩)] w fun e w' => e = .returned (.tuple #[.int .i64 f, .int .i64 g]) ∧ SO X R s w' :=
  h.calm hX fun T hp => psselect_any hp ha
theorem SO.time (h : SO X R s w) : Calls Try.prog 25 #[.pointer (some ⟨R, 0, none⟩)] w fun e w' => e = .returned (.int .i64 s.now) ∧ w = w' := by
  obtain ⟨T, h1, _⟩ := h; exact pstime_any h1
theorem SO.away (h : SO X R s w) : Calls Try.prog 33 #[.pointer (some ⟨R, 0, none⟩)] w fun e w' => e = .returned (.int .i64 s.away) ∧ w = w' := by
  obtain ⟨T, h1, _⟩ := h; exact psaway_any h1
/-- The tags in a row of the call's own. -/
def TgAns (s : Sf) (w : World) (e : Ending) (w' : World) : Prop := ∃ A c, e = .returned (.slice A (tgl s 32).length c) ∧ SrAt csT 3 w' w.heap.size w'.heap.size A (tgl s 32) ∧ Below w.heap.size w w'
theorem SO.tags (h : SO X R s w) : Calls Try.prog 24 #[.pointer (some ⟨R, 0, none⟩)] w (TgAns s w) := by
  obtain ⟨T, h1, _⟩ := h; exact pstags_any h1
end
/-- Selected flows are numbers of flows. -/
theorem SelA.bd {s : Sf} {f g : Int} (h : SelA s f g) : -1000000 ≤ f ∧ f ≤ 1000000 := by
  rcases h with ⟨_, rfl, _⟩ | ⟨n, hn, rfl, _⟩
  · omega
  · have := hn.1; omega
/-! ### what is kept -/
/-- The choices; nothing else. -/
def XC (B : Nat) (a : Option Addr) (len cap q : Nat) (w0 : World) (T : Nat → Prop) (w : World) : Prop := Has B a len cap q w0 w ∧ ∀ k, T k → B < k
theorem XC.kx {B : Nat} {a : Option Addr} {len cap q : Nat} {w0 : World} : Kx (XC B a len cap q w0) := by
  intro T T' w w' hT hx hc ht
  refine ⟨hx.1.trod (S := T) hx.2 hc, fun k hk => ?_⟩
  rcases ht k hk with h1 | h1
  · exact hx.2 k h1
  · have := hx.1.1.lt; omega
theorem SO.has {B : Nat} {a : Option Addr} {len cap q : Nat} {w0 : World} {R : Nat} {s : Sf} {w : World} (h : SO (XC B a len cap q w0) R s w) : Has B a len cap q w0 w := by obtain ⟨T, _, h2, _⟩ := h; exact h2
theorem SO.drawn {B : Nat} {a : Option Addr} {len cap q q' : Nat} {w0 : World} {R : Nat} {s : Sf} {w w' : World} (h : SO (XC B a len cap q w0) R s w) (hg : Gen B a len cap q' w') (ho : Only B w w') : SO (XC B a len cap q' w0) R s w' := by
  obtain ⟨T, h1, h2, h3⟩ := h
  exact ⟨T, h1.only ho (fun e => by have := h3 B e; omega), ⟨hg, h2.2.trans (ho.below (by have := h2.1.lt; omega))⟩, h3⟩
/-- Nothing but what is new. -/
def XA (w0 : World) (T : Nat → Prop) (w : World) : Prop := Below w0.heap.size w0 w ∧ ∀ k, T k → w0.heap.size ≤ k
theorem XA.kx {w0 : World} : Kx (XA w0) := by
  intro T T' w w' hT hx hc ht
  refine ⟨hx.1.trans (hc.below hx.1.size hx.2), fun k hk => ?_⟩
  rcases ht k hk with h1 | h1
  · exact hx.2 k h1
  · have := hx.1.size; omega
theorem SO.bel {w0 : World} {R : Nat} {s : Sf} {w : World} (h : SO (XA w0) R s w) : Below w0.heap.size w0 w := by obtain ⟨T, _, h2, _⟩ := h; exact h2
theorem SO.newA {a : Int} {w : World} {e : Ending} {w' : World} (h : PsNew a w e w') : ∃ R, e = .returned (.tuple #[.pointer (some ⟨R, 0, none⟩), .int .i64 0]) ∧ SO (XA w) R (Sf.new a) w' := by
  obtain ⟨T, R, e1, h2, h3, h4⟩ := h
  exact ⟨R, e1, T, h2, h4, h3⟩
theorem SO.newC {B : Nat} {a : Option Addr} {len cap q : Nat} {w0 : World} {at_ : Int} {w : World} {e : Ending} {w' : World} (hh : Has B a len cap q w0 w) (h : PsNew at_ w e w') : ∃ R, e = .returned (.tuple #[.pointer (some ⟨R, 0, none⟩), .int .i64 0]) ∧ SO (XC B a len cap q w0) R (Sf.new at_) w' := by
  obtain ⟨T, R, e1, h2, h3, h4⟩ := h
  exact ⟨R, e1, T, h2, hh.below h4, fun k hk => by have := h3 k hk; have := hh.1.lt; omega⟩
/-! ### awake -/
def awS : List Int := [0, 72072000, 72072000, 72072000, 144144000, 144144000, 144144000]
def awT : List Int := [0, 0, 36036000, 72072000, 72072000, 108108000, 144144000]
def awF : List Nat := [0, 1, 1, 0, 1, 1]
/-- awake's reference behind k charges. -/
structure Aw (k : Nat) (s : Sf) : Prop where
  on : ∀ g, s.on g = true ↔ g = 0 ∨ g = 1
  w0 : s.wt 0 = 1
  w1 : s.wt 1 = 2
  s0 : s.st 0 = awS.getD k 0
  s1 : s.st 1 = awT.getD k 0
  at_ : s.at_ = 1099511627776
  away : s.away = 0
  now : s.now ≤ 144144000
theorem aw_sel {k : Nat} {s : Sf} (h : Aw k s) (hk : k < 6) : s.Sel (awF.getD k 0) := by
  have key : awF.getD k 0 < 32 ∧ (awF.getD k 0 = 0 ∨ awF.getD k 0 = 1) ∧ (awF.getD k 0 = 0 → awS.getD k 0 ≤ awT.getD k 0) ∧ (awF.getD k 0 = 1 → awT.getD k 0 < awS.getD k 0) := by
    have : ∀ k : Fin 6, awF.getD k.1 0 < 32 ∧ (awF.getD k.1 0 = 0 ∨ awF.getD k.1 0 = 1) ∧ (awF.getD k.1 0 = 0 → awS.getD k.1 0 ≤ awT.getD k.1 0) ∧ (awF.getD k.1 0 = 1 → awT.getD k.1 0 < awS.getD k.1 0) := by decide
    exact this ⟨k, hk⟩
  obtain ⟨k1, k2, k3, k4⟩ := key
  refine ⟨k1, (h.on _).2 k2, fun g hg ho => ?_⟩
  have hs0 := h.s0
  have hs1 := h.s1
  rcases (h.on g).1 ho with rfl | rfl <;> rcases k2 with e | e <;> rw [e]
  · exact ⟨Int.le_refl _, fun _ => Nat.le_refl _⟩
  · have := k4 e; exact ⟨by omega, fun _ => by omega⟩
  · have := k3 e; exact ⟨by omega, fun _ => by omega⟩
  · exact ⟨Int.le_refl _, fun _ => Nat.le_refl _⟩
theorem aw_next {k : Nat} {s t : Sf} (h : Aw k s) (hk : k < 6) : chE s (awF.getD k 0 : Nat) 100 = 0 ∧ (ChT s (awF.getD k 0 : Nat) 100 t → Aw (k + 1) t) := by
  have hsel := aw_sel h hk
  have key : (awF.getD k 0 = 0 ∧ awS.getD (k + 1) 0 = awS.getD k 0 + 72072000 ∧ awT.getD (k + 1) 0 = awT.getD k 0) ∨ (awF.getD k 0 = 1 ∧ awS.getD (k + 1) 0 = awS.getD k 0 ∧ awT.getD (k + 1) 0 = awT.getD k 0 + 36036000) := by
    have : ∀ k : Fin 6, (awF.getD k.1 0 = 0 ∧ awS.getD (k.1 + 1) 0 = awS.getD k.1 0 + 72072000 ∧ awT.getD (k.1 + 1) 0 = awT.getD k.1 0) ∨ (awF.getD k.1 0 = 1 ∧ awS.getD (k.1 + 1) 0 = awS.getD k.1 0 ∧ awT.getD (k.1 + 1) 0 = awT.getD k.1 0 + 36036000) := by decide
    exact this ⟨k, hk⟩
  have hb : 0 ≤ awS.getD k 0 ∧ awS.getD k 0 ≤ 144144000 ∧ 0 ≤ awT.getD k 0 ∧ awT.getD k 0 ≤ 144144000 := by
    have : ∀ k : Fin 6, 0 ≤ awS.getD k.1 0 ∧ awS.getD k.1 0 ≤ 144144000 ∧ 0 ≤ awT.getD k.1 0 ∧ awT.getD k.1 0 ≤ 144144000 := by decide
    exact this ⟨k, hk⟩
  have hl : leB 100 = true := by decide
  have hs0 := h.s0
  have hs1 := h.s1
  have hnw := h.now
  have hat := h.at_
  have haw := h.away
  rcases key with ⟨e, e1, e2⟩ | ⟨e, e1, e2⟩
  · rw [e] at hsel ⊢
    have hu : (100 : Int) * unC (s.wt 0) = 72072000 := by rw [h.w0]; decide
    obtain ⟨c1, c2⟩ := ch_0 (n := 0) (l := 100) hsel.1 hsel.2.1 hl (by rw [hu]; omega)
    rw [hu] at c2
    refine ⟨c1, fun ht => ?_⟩
    obtain ⟨g1, g2, g3, m, b, ⟨⟨q, q1, q2, q3⟩, q4⟩, hbe, hk⟩ := (c2 t).1 ht
    rcases hk with ⟨k1, _⟩ | ⟨k1, k2, k3, k4, k5⟩
    · exfalso; omega
    · have a0 := k2 0 ((h.on 0).2 (.inl rfl))
      have a1 := k2 1 ((h.on 1).2 (.inr rfl))
      rw [fset_at] at a0
      rw [fset_ne _ _ (by omega)] at a1
      exact ⟨fun g => by rw [g2]; exact h.on g, by rw [g3]; exact h.w0, by rw [g3]; exact h.w1, by rw [a0]; omega, by rw [a1]; omega, by rw [g1]; exact hat, by rw [k5]; exact haw, by rw [k4]; omega⟩
  · rw [e] at hsel ⊢
    have hu : (100 : Int) * unC (s.wt 1) = 36036000 := by rw [h.w1]; decide
    obtain ⟨c1, c2⟩ := ch_0 (n := 1) (l := 100) hsel.1 hsel.2.1 hl (by rw [hu]; omega)
    rw [hu] at c2
    refine ⟨c1, fun ht => ?_⟩
    obtain ⟨g1, g2, g3, m, b, ⟨⟨q, q1, q2, q3⟩, q4⟩, hbe, hk⟩ := (c2 t).1 ht
    rcases hk with ⟨k1, _⟩ | ⟨k1, k2, k3, k4, k5⟩
    · exfalso; omega
    · have a0 := k2 0 ((h.on 0).2 (.inl rfl))
      have a1 := k2 1 ((h.on 1).2 (.inr rfl))
      rw [fset_ne _ _ (by omega)] at a0
      rw [fset_at] at a1
      exact ⟨fun g => by rw [g2]; exact h.on g, by rw [g3]; exact h.w0, by rw [g3]; exact h.w1, by rw [a0]; omega, by rw [a1]; omega, by rw [g1]; exact hat, by rw [k5]; exact haw, by rw [k4]; omega⟩
theorem aw_joined : ∃ s, jnE (Sf.new 1099511627776) (0 : Nat) 1 = 0 ∧ jnE (jnT (Sf.new 1099511627776) (0 : Nat) 1) (1 : Nat) 2 = 0 ∧ jnT (jnT (Sf.new 1099511627776) (0 : Nat) 1) (1 : Nat) 2 = s ∧ Aw 0 s := by
  have x1 : wtB 1 = true := by decide
  have x2 : wtB 2 = true := by decide
  obtain ⟨a1, a2⟩ := jn_0 (s := Sf.new 1099511627776) (n := 0) (x := 1) (by omega) x1 rfl
  obtain ⟨b1, b2⟩ := jn_0 (s := (Sf.new 1099511627776).join 0 1) (n := 1) (x := 2) (by omega) x2 (by simp only [Sf.join]; rw [fset_ne _ _ (by omega)]; rfl)
  refine ⟨_, a1, by rw [a2]; exact b1, rfl, ?_⟩
  rw [a2, b2]
  refine ⟨fun g => ?_, ?_, ?_, ?_, ?_, rfl, rfl, ?_⟩
  · simp only [Sf.join, Sf.new, fset]
    by_cases h1 : g = 1 <;> by_cases h0 : g = 0 <;> simp [h0, h1]
  · rfl
  · rfl
  · rfl
  · rfl
  · show (0 : Int) ≤ _; omega
end Go.Proofs.Ytkfhjpgapmfiaaa

