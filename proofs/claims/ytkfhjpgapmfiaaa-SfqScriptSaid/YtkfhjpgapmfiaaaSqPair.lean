/-
  Layer 13: the choices, the program's reference and the reference implementation side by side, with what they leave alone; the calls of each.
-/
import Derived.Test.YtkfhjpgapmfiaaaRfCh
import Derived.Test.YtkfhjpgapmfiaaaRfJoin
import Derived.Test.YtkfhjpgapmfiaaaPsHelp
import Derived.Test.YtkfhjpgapmfiaaaPsTm
namespace Go.Proofs.Ytkfhjpgapmfiaaa
open Go.ChangeShapes Go.WideShapes Go.ChangeAt Go.RowKit
set_option linter.unusedVariables false

/-- The program's reference R in state s, the other one S in state t, the choices; nothing old has turned since w0 but blocks of T0, the block S and the choices'. -/
def AX (B : Nat) (a : Option Addr) (len cap : Nat) (wI : World) (T0 Q0 : Nat → Prop) (R S : Nat) (w0 : World) (q : Nat) (s t : Sf) (w : World) : Prop :=
  ∃ T Q, Has B a len cap q wI w ∧ PsO T R s w ∧ RsO Q S t w ∧ (∀ k, T k → B < k ∧ ¬ Q k) ∧ (∀ k, Q k → B < k) ∧ (∀ k, T k → T0 k ∨ w0.heap.size ≤ k) ∧ (∀ k, Q k → Q0 k ∨ w0.heap.size ≤ k) ∧
    Chg (fun k => T0 k ∨ k = S ∨ k = B) w0 w
section
variable {B : Nat} {a : Option Addr} {len cap : Nat} {wI : World} {T0 Q0 : Nat → Prop} {R S : Nat} {w0 : World} {q : Nat} {s t : Sf} {w w' : World} {x : Value} {f : FuncId} {args : Array Value}
theorem AX.start (h1 : Has B a len cap q wI w) (h2 : PsO T0 R s w) (h3 : RsO Q0 S t w) (h4 : ∀ k, T0 k → B < k ∧ ¬ Q0 k) (h5 : ∀ k, Q0 k → B < k) : AX B a len cap wI T0 Q0 R S w q s t w :=
  ⟨T0, Q0, h1, h2, h3, h4, h5, fun k hk => .inl hk, fun k hk => .inl hk, Chg.refl _ _⟩
theorem AX.ok (h : AX B a len cap wI T0 Q0 R S w0 q s t w) : SfOk s := by obtain ⟨T, Q, _, h2, _⟩ := h; exact h2.ok
theorem AX.ps_ (h : AX B a len cap wI T0 Q0 R S w0 q s t w) {T' T : Nat → Prop} {s' : Sf} : True := trivial
theorem AX.stepP {T Q : Nat → Prop} {s' : Sf} (h1 : Has B a len cap q wI w) (h2 : PsO T R s w) (h3 : RsO Q S t w) (h4 : ∀ k, T k → B < k ∧ ¬ Q k) (h5 : ∀ k, Q k → B < k) (h6 : ∀ k, T k → T0 k ∨ w0.heap.size ≤ k) (h7 : ∀ k, Q k → Q0 k ∨ w0.heap.size ≤ k)
    (h8 : Chg (fun k => T0 k ∨ k = S ∨ k = B) w0 w) {T' : Nat → Prop} (k1 : PsO T' R s' w') (k2 : ∀ k, T' k → T k ∨ w.heap.size ≤ k) (k3 : Chg T w w') : AX B a len cap wI T0 Q0 R S w0 q s' t w' := by
  have hz := h8.size
  have hB := h1.1.lt
  refine ⟨T', Q, h1.trod (S := T) (fun i hi => (h4 i hi).1) k3, k1, h3.chg k3 (fun k hk e => (h4 k e).2 hk), fun k hk => ?_, h5, fun k hk => ?_, h7, h8.join k3 fun k hk => (h6 k hk).imp .inl id⟩
  · rcases k2 k hk with e | e
    · exact h4 k e
    · exact ⟨by omega, fun e2 => by have := h3.lt k e2; omega⟩
  · rcases k2 k hk with e | e
    · exact h6 k e
    · exact .inr (by omega)
theorem AX.stepR {T Q : Nat → Prop} {t' : Sf} (h1 : Has B a len cap q wI w) (h2 : PsO T R s w) (h3 : RsO Q S t w) (h4 : ∀ k, T k → B < k ∧ ¬ Q k) (h5 : ∀ k, Q k → B < k) (h6 : ∀ k, T k → T0 k ∨ w0.heap.size ≤ k) (h7 : ∀ k, Q k → Q0 k ∨ w0.heap.size ≤ k)
    (h8 : Chg (fun k => T0 k ∨ k = S ∨ k = B) w0 w) {Q' : Nat → Prop} (k1 : RsO Q' S t' w') (k2 : ∀ k, Q' k → Q k ∨ w.heap.size ≤ k) (k3 : Chg (fun k => k = S) w w') : AX B a len cap wI T0 Q0 R S w0 q s t' w' := by
  have hz := h8.size
  have hB := h1.1.lt
  have hS := h5 S h3.mem
  refine ⟨T, Q', h1.trod (S := fun k => k = S) (fun i hi => by rw [hi]; exact hS) k3, h2.chg k3 (fun k hk e => (h4 k hk).2 (e ▸ h3.mem)), k1, fun k hk => ⟨(h4 k hk).1, fun e => ?_⟩, fun k hk => ?_, h6, fun k hk => ?_, h8.join k3 fun k hk => .inl (.inr (.inl hk))⟩
  · rcases k2 k e with e1 | e1
    · exact (h4 k hk).2 e1
    · have := h2.lt k hk; omega
  · rcases k2 k hk with e1 | e1
    · exact h5 k e1
    · omega
  · rcases k2 k hk with e1 | e1
    · exact h7 k e1
    · exact .inr (by omega)
theorem AX.stepD (h : AX B a len cap wI T0 Q0 R S w0 q s t w) {q' : Nat} (hg : Gen B a len cap q' w') (ho : Only B w w') : AX B a len cap wI T0 Q0 R S w0 q' s t w' := by
  obtain ⟨T, Q, h1, h2, h3, h4, h5, h6, h7, h8⟩ := h
  exact ⟨T, Q, ⟨hg, h1.2.trans (ho.below (by have := h1.1.lt; omega))⟩, h2.only ho (fun e => by have := (h4 B e).1; omega), h3.only ho (fun e => by have := h5 B e; omega), h4, h5, h6, h7, h8.trans (Chg.of_only ho (.inr (.inr rfl)))⟩
theorem AX.below (h : AX B a len cap wI T0 Q0 R S w0 q s t w) (hb : Below w.heap.size w w') : AX B a len cap wI T0 Q0 R S w0 q s t w' := by
  obtain ⟨T, Q, h1, h2, h3, h4, h5, h6, h7, h8⟩ := h
  exact ⟨T, Q, h1.below hb, h2.below hb, h3.below hb, h4, h5, h6, h7, h8.trans (Chg.of_below hb)⟩
theorem AX.ps {s' : Sf} (h : AX B a len cap wI T0 Q0 R S w0 q s t w) (hc : ∀ T, PsO T R s w → Calls Try.prog f args w (PsAns T R s' x w)) : Calls Try.prog f args w fun e w' => e = .returned x ∧ AX B a len cap wI T0 Q0 R S w0 q s' t w' := by
  obtain ⟨T, Q, h1, h2, h3, h4, h5, h6, h7, h8⟩ := h
  refine (hc T h2).mono ?_
  rintro e w' ⟨e1, ⟨T', k1, k2⟩, k3⟩
  exact ⟨e1, AX.stepP h1 h2 h3 h4 h5 h6 h7 h8 k1 k2 k3⟩
theorem AX.psE {P : Sf → Prop} (h : AX B a len cap wI T0 Q0 R S w0 q s t w) (hc : ∀ T, PsO T R s w → Calls Try.prog f args w fun e w' => ∃ s', P s' ∧ PsAns T R s' x w e w') : Calls Try.prog f args w fun e w' => e = .returned x ∧ ∃ s', P s' ∧ AX B a len cap wI T0 Q0 R S w0 q s' t w' := by
  obtain ⟨T, Q, h1, h2, h3, h4, h5, h6, h7, h8⟩ := h
  refine (hc T h2).mono ?_
  rintro e w' ⟨s', hp, e1, ⟨T', k1, k2⟩, k3⟩
  exact ⟨e1, s', hp, AX.stepP h1 h2 h3 h4 h5 h6 h7 h8 k1 k2 k3⟩
theorem AX.rs {t' : Sf} (h : AX B a len cap wI T0 Q0 R S w0 q s t w) (hc : ∀ Q, RsO Q S t w → Calls Try.prog f args w (RsAns Q S t' x w)) : Calls Try.prog f args w fun e w' => e = .returned x ∧ AX B a len cap wI T0 Q0 R S w0 q s t' w' := by
  obtain ⟨T, Q, h1, h2, h3, h4, h5, h6, h7, h8⟩ := h
  refine (hc Q h3).mono ?_
  rintro e w' ⟨e1, ⟨Q', k1, k2⟩, k3⟩
  exact ⟨e1, AX.stepR h1 h2 h3 h4 h5 h6 h7 h8 k1 k2 k3⟩
theorem AX.calmP (h : AX B a len cap wI T0 Q0 R S w0 q s t w) (hc : ∀ T, PsO T R s w → Calls Try.prog f args w fun e w' => e = .returned x ∧ Below w.heap.size w w') : Calls Try.prog f args w fun e w' => e = .returned x ∧ AX B a len cap wI T0 Q0 R S w0 q s t w' := by
  have h' := h
  obtain ⟨T, Q, h1, h2, h3, h4, h5, h6, h7, h8⟩ := h
  exact (hc T h2).mono fun e w' k => ⟨k.1, h'.below k.2⟩
theorem AX.calmR (h : AX B a len cap wI T0 Q0 R S w0 q s t w) (hc : ∀ Q, RsO Q S t w → Calls Try.prog f args w fun e w' => e = .returned x ∧ Below w.heap.size w w') : Calls Try.prog f args w fun e w' => e = .returned x ∧ AX B a len cap wI T0 Q0 R S w0 q s t w' := by
  have h' := h
  obtain ⟨T, Q, h1, h2, h3, h4, h5, h6, h7, h8⟩ := h
  exact (hc Q h3).mono fun e w' k => ⟨k.1, h'.below k.2⟩
def NxA (B : Nat) (a : Option Addr) (len cap : Nat) (wI : World) (T0 Q0 : Nat → Prop) (R S : Nat) (w0 : World) (q : Nat) (s t : Sf) (lo hi : Int) (e : Ending) (w' : World) : Prop := ∃ x : Int, lo ≤ x ∧ x < hi ∧ e = .returned (.int .i64 x) ∧ AX B a len cap wI T0 Q0 R S w0 (q + 1) s t w'
theorem AX.has (h : AX B a len cap wI T0 Q0 R S w0 q s t w) : Has B a len cap q wI w := by obtain ⟨T, Q, h1, _⟩ := h; exact h1
theorem AX.next (h : AX B a len cap wI T0 Q0 R S w0 q s t w) {n : Int} (n0 : 1 ≤ n) (n1 : n ≤ 1000000000) (hq : q ≤ 1000000000) :
    Calls Try.prog 9 #[.pointer (some ⟨B, 0, none⟩), .int .i64 n] w (NxA B a len cap wI T0 Q0 R S w0 q s t 0 n) := by
  refine (next_any B a len cap q n w n0 n1 hq h.has.1).mono ?_
  rintro e w' ⟨x, x0, x1, e1, hg, ho⟩
  exact ⟨x, x0, x1, e1, h.stepD hg ho⟩
theorem AX.length (h : AX B a len cap wI T0 Q0 R S w0 q s t w) (hq : q ≤ 1000000000) :
    Calls Try.prog 21 #[.pointer (some ⟨B, 0, none⟩)] w (NxA B a len cap wI T0 Q0 R S w0 q s t 1 4097) := by
  refine (length_any B a len cap q w h.has.1 hq).mono ?_
  rintro e w' ⟨x, x0, x1, e1, hg, ho⟩
  exact ⟨x, x0, by omega, e1, h.stepD hg ho⟩
theorem AX.weight (h : AX B a len cap wI T0 Q0 R S w0 q s t w) (hq : q ≤ 1000000000) :
    Calls Try.prog 17 #[.pointer (some ⟨B, 0, none⟩)] w (NxA B a len cap wI T0 Q0 R S w0 q s t 1 17) := by
  refine (weight_any B a len cap q wI w h.has hq).mono ?_
  rintro e w' ⟨x, x0, x1, e1, hg, ho⟩
  exact ⟨x, x0, by omega, e1, h.stepD hg.1 ho⟩
end
/-! ### how far what has been subtracted goes -/
theorem jn_away (s : Sf) (f x : Int) : (jnT s f x).away = s.away := by unfold jnT; split <;> rfl
theorem sw_away (s : Sf) (f x : Int) : (swT s f x).away = s.away := by unfold swT; split <;> rfl
theorem lv_away {s t : Sf} {f : Int} (h : LvT s f t) : t.away = s.away := by
  unfold LvT at h
  split at h
  · exact h.2.2.2.2.1
  · rw [h]
theorem ch_away {s t : Sf} (hs : SfOk s) {f l : Int} (h : ChT s f l t) : t.away ≤ s.away + 1099511627776 := by
  cases hh : s.here f
  · rw [(((ch_6 (l := l) hh).2 t).1 h)]; omega
  · obtain ⟨n, rfl, hn, ho⟩ := here_nat hh
    cases hle : leB l
    · rw [(((ch_1 hn ho hle).2 t).1 h)]; omega
    · by_cases hx : s.st n + l * unC (s.wt n) ≤ 1099511627776
      · exact (hs.charged ho (co_bd hle (wt_of (hs.wt n ho))).1 hx (((ch_0 hn ho hle hx).2 t).1 h)).2
      · rw [(((ch_2 hn ho hle hx).2 t).1 h)]; omega
end Go.Proofs.Ytkfhjpgapmfiaaa

