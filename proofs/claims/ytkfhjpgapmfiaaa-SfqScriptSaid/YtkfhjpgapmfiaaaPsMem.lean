/-
  Layer 13: the program's reference behind its pointer: its struct and its two maps; what a call of it leaves. No call is walked here.
-/
import Derived.Test.YtkfhjpgapmfiaaaMpMem
import Derived.Test.YtkfhjpgapmfiaaaTgMem
namespace Go.Proofs.Ytkfhjpgapmfiaaa
open Go.ChangeShapes Go.WideShapes Go.ChangeAt Go.RowKit
set_option linter.unusedVariables false

/-- What the map of the active flows holds. -/
def actF (s : Sf) : Int → Option Value := fun k => if s.here k = true then some (aggT (s.tag k.toNat)) else none
theorem act_no {s : Sf} {k : Int} (h : s.here k = false) : actF s k = none := by unfold actF; rw [h]; rfl
theorem act_yes {s : Sf} {n : Nat} (h : n < 32) (ho : s.on n = true) : actF s n = some (aggT (s.tag n)) := by unfold actF; rw [here_of h ho, Int.toNat_natCast]; rfl
theorem here_off {s : Sf} {k : Int} (h : ¬ (0 ≤ k ∧ k < 32)) : s.here k = false := by
  cases e : s.here k with
  | false => rfl
  | true => obtain ⟨n, rfl, h1, _⟩ := here_nat e; exact absurd ⟨by omega, by omega⟩ h
/-- What the map of the remembered flows holds. -/
def RemF (s : Sf) (G : Int → Option Value) : Prop := ∀ n : Nat, n < 32 → (G n).getD (.int .i64 0) = .int .i64 (s.om n)
/-- The active flows, and one more tag at n. -/
theorem act_ext {s t : Sf} {F : Int → Option Value} (h : ∀ n : Nat, n < 32 → F n = actF t n) (h2 : ∀ k : Int, ¬ (0 ≤ k ∧ k < 32) → F k = none) : F = actF t := by
  funext k
  by_cases hk : 0 ≤ k ∧ k < 32
  · obtain ⟨n, rfl⟩ := Int.eq_ofNat_of_zero_le hk.1
    exact h n (by omega)
  · rw [h2 k hk, act_no (here_off hk)]
theorem act_same {s t : Sf} {n : Nat} (h : n < 32) (ho : t.on n = s.on n) (ht : t.tag n = s.tag n) : actF t n = actF s n := by
  cases hs : s.on n with
  | true => rw [act_yes h hs, act_yes h (by rw [ho, hs]), ht]
  | false => rw [act_no (by rw [here_is h, ho, hs]), act_no (by rw [here_is h, hs])]
theorem act_put {s t : Sf} {n : Nat} (hn : n < 32) (ho : t.on n = true) (hoth : ∀ g, g ≠ n → t.on g = s.on g ∧ t.tag g = s.tag g) : iset (actF s) n (some (aggT (t.tag n))) = actF t := by
  refine act_ext (s := s) (fun g hg => ?_) (fun k hk => ?_)
  · by_cases e : g = n
    · subst e; rw [iset_at, act_yes hg ho]
    · rw [iset_ne _ _ (by omega)]; exact (act_same hg (hoth g e).1 (hoth g e).2).symm
  · rw [iset_ne _ _ (by omega)]; exact act_no (here_off hk)
theorem act_del {s t : Sf} {n : Nat} (hn : n < 32) (ho : t.on n = false) (hoth : ∀ g, g ≠ n → t.on g = s.on g ∧ t.tag g = s.tag g) : iset (actF s) n none = actF t := by
  refine act_ext (s := s) (fun g hg => ?_) (fun k hk => ?_)
  · by_cases e : g = n
    · subst e; rw [iset_at, act_no (by rw [here_is hg, ho])]
    · rw [iset_ne _ _ (by omega)]; exact (act_same hg (hoth g e).1 (hoth g e).2).symm
  · rw [iset_ne _ _ (by omega)]; exact act_no (here_off hk)
theorem act_join {s : Sf} {n : Nat} (hn : n < 32) (x : Int) : iset (actF s) n (some (aggT ⟨n, x, max s.now (s.om n)⟩)) = actF (s.join n x) := by
  have e : (s.join n x).tag n = ⟨n, x, max s.now (s.om n)⟩ := by simp only [Sf.join, Sf.tag]; rw [fset_at, fset_at]
  rw [← e]
  refine act_put hn (by simp only [Sf.join]; rw [fset_at]) (fun g hg => ?_)
  simp only [Sf.join, Sf.tag]; rw [fset_ne _ _ hg, fset_ne _ _ hg, fset_ne _ _ hg]; exact ⟨rfl, rfl⟩
theorem act_setw {s : Sf} {n : Nat} (hn : n < 32) (ho : s.on n = true) (x : Int) : iset (actF s) n (some (aggT ⟨n, x, s.st n⟩)) = actF (s.setw n x) := by
  have e : (s.setw n x).tag n = ⟨n, x, s.st n⟩ := by simp only [Sf.setw, Sf.tag]; rw [fset_at]
  rw [← e]
  refine act_put hn ho (fun g hg => ?_)
  simp only [Sf.setw, Sf.tag]; rw [fset_ne _ _ hg]; exact ⟨trivial, rfl⟩
theorem rem_join {s : Sf} {G : Int → Option Value} (h : RemF s G) {n : Nat} (x : Int) : RemF (s.join n x) (iset G n none) := by
  intro g hg
  simp only [Sf.join]
  by_cases e : g = n
  · subst e; rw [iset_at, fset_at]; rfl
  · rw [iset_ne _ _ (by omega), fset_ne _ _ e]; exact h g hg
theorem rem_put {s t : Sf} {G : Int → Option Value} (h : RemF s G) {n : Nat} {x : Int} (ht : t.om = fset s.om n x) : RemF t (iset G n (some (.int .i64 x))) := by
  intro g hg
  rw [ht]
  by_cases e : g = n
  · subst e; rw [iset_at, fset_at]; rfl
  · rw [iset_ne _ _ (by omega), fset_ne _ _ e]; exact h g hg
/-- Any flow is idle, or one is active. -/
theorem act_idle {s : Sf} : (∀ k, actF s k = none) ↔ s.Idle := by
  constructor
  · intro h g hg
    cases ho : s.on g with
    | false => rfl
    | true => have := h g; rw [act_yes hg ho] at this; cases this
  · intro h k
    refine act_no ?_
    cases e : s.here k with
    | false => rfl
    | true => obtain ⟨n, rfl, h1, h2⟩ := here_nat e; rw [h n h1] at h2; cases h2
/-- The struct in block R; its maps in blocks a and o. -/
structure PsW (w : World) (R a o : Nat) (s : Sf) : Prop where
  blk : Whole w R 61 #[.int .i64 s.at_, .map (some a), .map (some o), .int .i64 s.now, .int .i64 s.away]
  act : MapI w a (actF s)
  rem : ∃ G, MapI w o G ∧ RemF s G
  ne : a ≠ o
section
variable {w w' : World} {R a o : Nat} {s t : Sf} {S T : Nat → Prop}
theorem PsW.cells (h : PsW w R a o s) : w.cell? ⟨R, 0, none⟩ = some (.int .i64 s.at_) ∧ w.cell? ⟨R, 1, none⟩ = some (.map (some a)) ∧ w.cell? ⟨R, 2, none⟩ = some (.map (some o)) ∧ w.cell? ⟨R, 3, none⟩ = some (.int .i64 s.now) ∧ w.cell? ⟨R, 4, none⟩ = some (.int .i64 s.away) ∧ ∀ i, w.frozen? ⟨R, i, none⟩ = false := by
  have := h.blk
  exact ⟨by rw [this.read]; rfl, by rw [this.read]; rfl, by rw [this.read]; rfl, by rw [this.read]; rfl, by rw [this.read]; rfl, this.free⟩
theorem PsW.aR (h : PsW w R a o s) : a ≠ R := h.act.apart h.blk
theorem PsW.oR (h : PsW w R a o s) : o ≠ R := by obtain ⟨G, h1, _⟩ := h.rem; exact h1.apart h.blk
theorem PsW.lts (h : PsW w R a o s) : R < w.heap.size ∧ a < w.heap.size ∧ o < w.heap.size := ⟨h.blk.size_lt, h.act.lt, by obtain ⟨G, h1, _⟩ := h.rem; exact h1.lt⟩
theorem PsW.keep (h : PsW w R a o s) (hk : ∀ b, b = R ∨ b = a ∨ b = o → w'.heap[b]? = w.heap[b]?) : PsW w' R a o s :=
  ⟨h.blk.carry (hk R (.inl rfl)), h.act.keep (hk a (.inr (.inl rfl))), by obtain ⟨G, h1, h2⟩ := h.rem; exact ⟨G, h1.keep (hk o (.inr (.inr rfl))), h2⟩, h.ne⟩
theorem PsW.later (h : PsW w R a o s) (hb : Below w.heap.size w w') : PsW w' R a o s := by
  obtain ⟨h1, h2, h3⟩ := h.lts
  exact h.keep fun b hb2 => hb.block b (by rcases hb2 with rfl | rfl | rfl <;> assumption)
end
/-- The reference in state s: its blocks are of T. -/
def PsO (T : Nat → Prop) (R : Nat) (s : Sf) (w : World) : Prop := SfOk s ∧ (∀ k, T k → k < w.heap.size) ∧ T R ∧ ∃ a o, T a ∧ T o ∧ PsW w R a o s
section
variable {w w' : World} {R : Nat} {s t : Sf} {S T : Nat → Prop}
theorem PsO.keep (h : PsO T R s w) (hs : w.heap.size ≤ w'.heap.size) (hk : ∀ k, T k → w'.heap[k]? = w.heap[k]?) : PsO T R s w' := by
  obtain ⟨h0, h1, h2, a, o, h3, h4, h5⟩ := h
  exact ⟨h0, fun k hk2 => Nat.lt_of_lt_of_le (h1 k hk2) hs, h2, a, o, h3, h4, h5.keep fun b hb => hk b (by rcases hb with rfl | rfl | rfl <;> assumption)⟩
theorem PsO.lt (h : PsO T R s w) : ∀ k, T k → k < w.heap.size := h.2.1
theorem PsO.mem (h : PsO T R s w) : T R := h.2.2.1
theorem PsO.ok (h : PsO T R s w) : SfOk s := h.1
theorem PsO.below (h : PsO T R s w) (hb : Below w.heap.size w w') : PsO T R s w' := h.keep hb.size fun k hk => hb.block k (h.lt k hk)
theorem PsO.chg (h : PsO T R s w) (hb : Chg S w w') (hd : ∀ k, T k → ¬ S k) : PsO T R s w' := h.keep hb.size fun k hk => hb.block k (h.lt k hk) (hd k hk)
theorem PsO.only {B : Nat} (h : PsO T R s w) (hb : Only B w w') (hd : ¬ T B) : PsO T R s w' := h.keep hb.size fun k hk => hb.block k (h.lt k hk) (fun e => hd (e ▸ hk))
end
/-- What a call that answers x leaves: the state t; no old block but those of T has turned. -/
def PsAns (T : Nat → Prop) (R : Nat) (t : Sf) (x : Value) (w : World) (e : Ending) (w' : World) : Prop :=
  e = .returned x ∧ (∃ T', PsO T' R t w' ∧ ∀ k, T' k → T k ∨ w.heap.size ≤ k) ∧ Chg T w w'
section
variable {w w' : World} {R a o : Nat} {s t : Sf} {S T : Nat → Prop} {x : Value} {e : Ending}
theorem PsAns.same (h : PsO T R s w) (h1 : e = .returned x) (hb : Below w.heap.size w w') : PsAns T R s x w e w' :=
  ⟨h1, ⟨T, h.below hb, fun k hk => .inl hk⟩, Chg.of_below hb⟩
/-- The struct in R, the maps in blocks of T or new ones. -/
theorem PsAns.mk (he : e = .returned x) (hs : SfOk s) (h : PsW w' R a o s) (hR : T R) (ha : T a ∨ w.heap.size ≤ a) (ho : T o ∨ w.heap.size ≤ o) (hc : Chg T w w') : PsAns T R s x w e w' := by
  obtain ⟨l1, l2, l3⟩ := h.lts
  exact ⟨he, ⟨fun k => k < w'.heap.size ∧ (T k ∨ w.heap.size ≤ k), ⟨hs, fun k hk => hk.1, ⟨l1, .inl hR⟩, a, o, ⟨l2, ha⟩, ⟨l3, ho⟩, h⟩, fun k hk => hk.2⟩, hc⟩
end
/-! ### the maps' operations at this seat -/
section
variable {w : World} {a o : Nat} {s : Sf} {G : Int → Option Value}
theorem act_look_no (h : MapI w a (actF s)) {k : Int} (hk : -1000000 ≤ k ∧ k ≤ 1000000) (hf : s.here k = false) : (Instr.lookup 58 (.map (some a)) (.int .i64 k) true).run Try.prog w = .ok (.tuple #[.agg #[.int .i64 0, .int .i64 0, .int .i64 0], .bool false]) w := by
  have := h.look (P := Try.prog) (T := 58) (K := 3) (E := 52) (z := .agg #[.int .i64 0, .int .i64 0, .int .i64 0]) Try.underlying58 Try.underlying3 rfl hk true
  rw [act_no hf] at this
  exact this
theorem act_look (h : MapI w a (actF s)) {n : Nat} (hn : n < 32) (ho : s.on n = true) : (Instr.lookup 58 (.map (some a)) (.int .i64 n) true).run Try.prog w = .ok (.tuple #[.agg #[.int .i64 n, .int .i64 (s.wt n), .int .i64 (s.st n)], .bool true]) w := by
  have := h.look (P := Try.prog) (T := 58) (K := 3) (E := 52) (z := .agg #[.int .i64 0, .int .i64 0, .int .i64 0]) Try.underlying58 Try.underlying3 rfl (k := n) (by omega) true
  rw [act_yes hn ho] at this
  exact this
theorem rem_look (h : MapI w o G) {k : Int} (hk : -1000000 ≤ k ∧ k ≤ 1000000) : (Instr.lookup 59 (.map (some o)) (.int .i64 k) false).run Try.prog w = .ok ((G k).getD (.int .i64 0)) w :=
  h.look (P := Try.prog) (T := 59) (K := 3) (E := 2) (z := .int .i64 0) Try.underlying59 Try.underlying3 rfl hk false
end
end Go.Proofs.Ytkfhjpgapmfiaaa

