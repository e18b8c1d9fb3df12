/-
  Layer 13: the program's reference: its maps and its struct written, each operation with the state that it leaves. No call is walked here.
-/
import Derived.Test.YtkfhjpgapmfiaaaPsRead
namespace Go.Proofs.Ytkfhjpgapmfiaaa
open Go.ChangeShapes Go.WideShapes Go.ChangeAt Go.RowKit
set_option linter.unusedVariables false

/-- One tag is valid just where its numbers are. -/
theorem va_one {f x y : Int} (hy : 0 ≤ y ∧ y ≤ 1099511627776) : vaB [(⟨f, x, y⟩ : Tg)] = (decide (0 ≤ f) && decide (f < 32) && wtB x) := by
  by_cases h : (0 ≤ f ∧ f < 32) ∧ wtB x = true
  · have e : (decide (0 ≤ f) && decide (f < 32) && wtB x) = true := by rw [h.2]; simp; exact h.1
    rw [e]
    refine va_true (va_of_lt fun i hi => ?_)
    have hi0 : i = 0 := by simp at hi; omega
    subst hi0
    intro _
    exact ⟨h.1, fun h0 => by omega, wt_yes h.2, hy⟩
  · have e : (decide (0 ≤ f) && decide (f < 32) && wtB x) = false := by
      cases hx : wtB x with
      | false => simp
      | true =>
        have : ¬ (0 ≤ f ∧ f < 32) := fun h1 => h ⟨h1, hx⟩
        simp; omega
    rw [e]
    refine va_false (i := 0) fun h1 => h ?_
    have := h1 (by simp)
    exact ⟨this.1, wt_of this.2.2.1⟩
theorem grown_blk {w w' : World} {b R : Nat} {t : TypeId} {cs : Array Value} (h : Whole w R t cs) (hg : w.grownBy w' (some b)) (hne : b ≠ R) : Whole w' R t cs := h.carry (hg.block R h.size_lt (fun e => hne (by simpa using e.symm)))
theorem MapI.grown {w w' : World} {b c : Nat} {F : Int → Option Value} (h : MapI w c F) (hg : w.grownBy w' (some b)) (hne : b ≠ c) : MapI w' c F := h.keep (hg.block c h.lt (fun e => hne (by simpa using e.symm)))
section
variable {w : World} {R a o : Nat} {s t : Sf}
/-- A store into the map of the active flows. -/
theorem PsW.actPut (h : PsW w R a o s) {n : Nat} (hn : n < 32) {v : Value} (ht : iset (actF s) n (some v) = actF t) (e : t.at_ = s.at_ ∧ t.now = s.now ∧ t.away = s.away ∧ t.om = s.om) :
    ∃ w', (Instr.mapUpdate 58 (.map (some a)) (.int .i64 n) v).run Try.prog w = .ok () w' ∧ PsW w' R a o t ∧ w.grownBy w' (some a) ∧ w'.heap.size = w.heap.size := by
  obtain ⟨w', h1, h2, h3, h4⟩ := h.act.store (P := Try.prog) (T := 58) (K := 3) (E := 52) Try.underlying58 Try.underlying3 (k := n) (by omega) v
  rw [ht] at h2
  obtain ⟨e1, e2, e3, e4⟩ := e
  refine ⟨w', h1, ⟨by rw [e1, e2, e3]; exact grown_blk h.blk h3 h.aR, h2, ?_, h.ne⟩, h3, h4⟩
  obtain ⟨G, g1, g2⟩ := h.rem
  exact ⟨G, g1.grown h3 h.ne, fun n hn => by rw [e4]; exact g2 n hn⟩
/-- A flow deleted from the map of the active flows. -/
theorem PsW.actDel (h : PsW w R a o s) {n : Nat} (hn : n < 32) (ht : iset (actF s) n none = actF t) (e : t.at_ = s.at_ ∧ t.now = s.now ∧ t.away = s.away ∧ t.om = s.om) (ty : TypeId) :
    ∃ w', (Builtin.delete_ #[58, 3] ty #[.map (some a), .int .i64 n]).run Try.prog w = .ok (.tuple #[]) w' ∧ PsW w' R a o t ∧ w.grownBy w' (some a) ∧ w'.heap.size = w.heap.size := by
  obtain ⟨w', h1, h2, h3, h4⟩ := h.act.drop (P := Try.prog) (T := 58) (K := 3) (E := 52) Try.underlying58 Try.underlying3 (k := n) (by omega) ty
  rw [ht] at h2
  obtain ⟨e1, e2, e3, e4⟩ := e
  refine ⟨w', h1, ⟨by rw [e1, e2, e3]; exact grown_blk h.blk h3 h.aR, h2, ?_, h.ne⟩, h3, h4⟩
  obtain ⟨G, g1, g2⟩ := h.rem
  exact ⟨G, g1.grown h3 h.ne, fun n hn => by rw [e4]; exact g2 n hn⟩
/-- The active flows are the same. -/
theorem act_eq (e : t.on = s.on ∧ t.wt = s.wt ∧ t.st = s.st) : actF t = actF s := by
  obtain ⟨e1, e2, e3⟩ := e
  funext k; unfold actF Sf.here Sf.tag; rw [e1, e2, e3]
/-- A store into the map of the remembered flows. -/
theorem PsW.remPut (h : PsW w R a o s) {n : Nat} (hn : n < 32) {x : Int} (ht : t.om = fset s.om n x) (e : t.at_ = s.at_ ∧ t.now = s.now ∧ t.away = s.away) (e2 : t.on = s.on ∧ t.wt = s.wt ∧ t.st = s.st) :
    ∃ w', (Instr.mapUpdate 59 (.map (some o)) (.int .i64 n) (.int .i64 x)).run Try.prog w = .ok () w' ∧ PsW w' R a o t ∧ w.grownBy w' (some o) ∧ w'.heap.size = w.heap.size := by
  obtain ⟨G, g1, g2⟩ := h.rem
  obtain ⟨w', h1, h2, h3, h4⟩ := g1.store (P := Try.prog) (T := 59) (K := 3) (E := 2) Try.underlying59 Try.underlying3 (k := n) (by omega) (.int .i64 x)
  obtain ⟨k1, k2, k3⟩ := e
  refine ⟨w', h1, ⟨by rw [k1, k2, k3]; exact grown_blk h.blk h3 h.oR, by rw [act_eq e2]; exact h.act.grown h3 h.ne.symm, ⟨_, h2, rem_put g2 ht⟩, h.ne⟩, h3, h4⟩
/-- A flow deleted from the map of the remembered flows. -/
theorem PsW.remDel (h : PsW w R a o s) {n : Nat} (hn : n < 32) (ht : t.om = fset s.om n 0) (e : t.at_ = s.at_ ∧ t.now = s.now ∧ t.away = s.away) (e2 : t.on = s.on ∧ t.wt = s.wt ∧ t.st = s.st) (ty : TypeId) :
    ∃ w', (Builtin.delete_ #[59, 3] ty #[.map (some o), .int .i64 n]).run Try.prog w = .ok (.tuple #[]) w' ∧ PsW w' R a o t ∧ w.grownBy w' (some o) ∧ w'.heap.size = w.heap.size := by
  obtain ⟨G, g1, g2⟩ := h.rem
  obtain ⟨w', h1, h2, h3, h4⟩ := g1.drop (P := Try.prog) (T := 59) (K := 3) (E := 2) Try.underlying59 Try.underlying3 (k := n) (by omega) ty
  obtain ⟨k1, k2, k3⟩ := e
  refine ⟨w', h1, ⟨by rw [k1, k2, k3]; exact grown_blk h.blk h3 h.oR, by rw [act_eq e2]; exact h.act.grown h3 h.ne.symm, ⟨_, h2, fun g hg => ?_⟩, h.ne⟩, h3, h4⟩
  rw [ht]
  by_cases e : g = n
  · subst e; rw [iset_at, fset_at]; rfl
  · rw [iset_ne _ _ (by omega), fset_ne _ _ e]; exact g2 g hg
/-- The virtual time and the sum stored; the maps stay. -/
theorem PsW.cellPut (h : PsW w R a o s) (k : Nat) (u : Value) (hb : Whole (w.setCell ⟨R, k, none⟩ u) R 61 #[.int .i64 t.at_, .map (some a), .map (some o), .int .i64 t.now, .int .i64 t.away]) (e : t.on = s.on ∧ t.wt = s.wt ∧ t.st = s.st ∧ t.om = s.om) : PsW (w.setCell ⟨R, k, none⟩ u) R a o t := by
  obtain ⟨e1, e2, e3, e4⟩ := e
  refine ⟨hb, by rw [act_eq ⟨e1, e2, e3⟩]; exact h.act.keep (Below.heap_setCell _ _ _ _ (by have := h.aR; simpa using this)), ?_, h.ne⟩
  obtain ⟨G, g1, g2⟩ := h.rem
  exact ⟨G, g1.keep (Below.heap_setCell _ _ _ _ (by have := h.oR; simpa using this)), fun n hn => by rw [e4]; exact g2 n hn⟩
theorem PsW.nowPut (h : PsW w R a o s) (x : Int) : PsW (w.setCell ⟨R, 3, none⟩ (.int .i64 x)) R a o { s with now := x } := h.cellPut 3 _ (h.blk.put 3 (.int .i64 x)) ⟨rfl, rfl, rfl, rfl⟩
theorem PsW.awayPut (h : PsW w R a o s) (x : Int) : PsW (w.setCell ⟨R, 4, none⟩ (.int .i64 x)) R a o { s with away := x } := h.cellPut 4 _ (h.blk.put 4 (.int .i64 x)) ⟨rfl, rfl, rfl, rfl⟩
theorem PsW.drew (h : PsW w R a o s) : PsW w.drew R a o s := h.keep fun _ _ => rfl
end
theorem Chg.grownIn {S : Nat → Prop} {a b c : World} {k : Nat} (h : Chg S a b) (hg : b.grownBy c (some k)) (hk : S k ∨ a.heap.size ≤ k) : Chg S a c := h.grown hg fun j e => by simp at e; subst e; exact hk
end Go.Proofs.Ytkfhjpgapmfiaaa

