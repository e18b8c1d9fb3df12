/-
  Layer 5: the ring behind its pointer: memory, lists of numbers, contracts of cell, Len, Cap, At. Every input.
-/
import Derived.Test.YtijdfkdfojiffaaChg
import Derived.Test.YtijdfkdfojiffaaFlat
import Derived.Deep.QuietTactic
import Derived.BigQuiet
import Derived.Deep.RegionWith
import Derived.Deep.RegionHeld3
import Derived.LoopTactic
namespace Go.Proofs.Ytijdfkdfojiffaa
open Go.ChangeShapes Go.WideShapes Go.ChangeAt Go.RowKit
set_option linter.unusedVariables false

/-- The list with x before it. -/
def consN (x : Int) (L : Nat → Int) : Nat → Int := fun j => if j = 0 then x else L (j - 1)
/-- The list without number i. -/
def rmvN (L : Nat → Int) (i : Nat) : Nat → Int := fun j => if j < i then L j else L (j + 1)
/-- The ring behind pointer H: its cells X in block g, n numbers from place f on. -/
structure RingW (w : World) (H g cap f n : Nat) (X : Nat → Int) : Prop where
  blk : w.heap[H]? = some (.cells #[.slice (some ⟨g, 0, none⟩) cap cap, .int .i64 f, .int .i64 n] 71 (0, 0))
  row : Row w g 3 cap X
  ne : H ≠ g
  len : 1 ≤ cap ∧ cap ≤ 4096 ∧ f < cap ∧ n ≤ cap
def rgfoot (H g : Nat) : Nat → Prop := fun k => k = H ∨ k = g
section
variable {w w' : World} {H g cap f n : Nat} {X : Nat → Int}
theorem RingW.keep (h : RingW w H g cap f n X) (hk : ∀ k, rgfoot H g k → w'.heap[k]? = w.heap[k]?) : RingW w' H g cap f n X :=
  ⟨(hk H (.inl rfl)).trans h.blk, by obtain ⟨cs, h1, r⟩ := h.row; exact ⟨cs, h1.carry (hk g (.inr rfl)), r⟩, h.ne, h.len⟩
theorem RingW.lt (h : RingW w H g cap f n X) : ∀ k, rgfoot H g k → k < w.heap.size := by
  rintro k (rfl | rfl)
  · exact lt_of_block h.blk
  · exact h.row.lt
theorem RingW.below (h : RingW w H g cap f n X) (hb : Below w.heap.size w w') : RingW w' H g cap f n X := h.keep fun k hk => hb.block k (h.lt k hk)
theorem RingW.drewN (h : RingW w H g cap f n X) (q : Nat) : RingW (w.drewN q) H g cap f n X := h.below (Below_drewN (Below.refl _ _) q)
theorem RingW.drew (h : RingW w H g cap f n X) : RingW w.drew H g cap f n X := h.below (Below.refl _ _).drew
theorem RingW.cells (h : RingW w H g cap f n X) : w.cell? ⟨H, 0, none⟩ = some (.slice (some ⟨g, 0, none⟩) cap cap) ∧ w.cell? ⟨H, 1, none⟩ = some (.int .i64 f) ∧ w.cell? ⟨H, 2, none⟩ = some (.int .i64 n) ∧ w.frozen? ⟨H, 1, none⟩ = false ∧ w.frozen? ⟨H, 2, none⟩ = false := by
  have := h.blk
  exact ⟨by simp [World.cell?, this], by simp [World.cell?, this], by simp [World.cell?, this], by simp [World.frozen?, this], by simp [World.frozen?, this]⟩
theorem RingW.setFirst (h : RingW w H g cap f n X) {f' : Nat} (hf : f' < cap) : RingW (w.setCell ⟨H, 1, none⟩ (.int .i64 f')) H g cap f' n X := by
  refine ⟨?_, h.row.far h.ne.symm _ _, h.ne, by have := h.len; omega⟩
  rw [heap_setCell_same w H 1 _ _ _ h.blk]; rfl
theorem RingW.setCount (h : RingW w H g cap f n X) {n' : Nat} (hn : n' ≤ cap) : RingW (w.setCell ⟨H, 2, none⟩ (.int .i64 n')) H g cap f n' X := by
  refine ⟨?_, h.row.far h.ne.symm _ _, h.ne, by have := h.len; omega⟩
  rw [heap_setCell_same w H 2 _ _ _ h.blk]; rfl
theorem RingW.setAt (h : RingW w H g cap f n X) {p : Nat} (hp : p < cap) (x : Int) : RingW (w.setCell ⟨g, p, none⟩ (.int .i64 x)) H g cap f n (upd X p x) :=
  ⟨(Below.heap_setCell w ⟨g, p, none⟩ _ H h.ne).trans h.blk, h.row.set_ hp x, h.ne, h.len⟩
end
/-- The numbers in a ring's cells. -/
def Holds (X : Nat → Int) (cap f n : Nat) (L : Nat → Int) : Prop := ∀ i, i < n → X ((f + i) % cap) = L i
theorem place_ne {cap f i j : Nat} (hf : f < cap) (hi : i < cap) (hj : j < cap) (h : i ≠ j) : (f + i) % cap ≠ (f + j) % cap := by
  intro e
  rcases Nat.lt_or_ge (f + i) cap with h1 | h1 <;> rcases Nat.lt_or_ge (f + j) cap with h2 | h2
  · rw [Nat.mod_eq_of_lt h1, Nat.mod_eq_of_lt h2] at e; omega
  · rw [Nat.mod_eq_of_lt h1, Nat.mod_eq_sub_mod h2, Nat.mod_eq_of_lt (by omega)] at e; omega
  · rw [Nat.mod_eq_of_lt h2, Nat.mod_eq_sub_mod h1, Nat.mod_eq_of_lt (by omega)] at e; omega
  · rw [Nat.mod_eq_sub_mod h1, Nat.mod_eq_sub_mod h2, Nat.mod_eq_of_lt (by omega), Nat.mod_eq_of_lt (by omega)] at e; omega
theorem Holds.push {X L : Nat → Int} {cap f n p : Nat} (h : Holds X cap f n L) (hf : f < cap) (hn : n < cap) (hp : (f + n) % cap = p) (x : Int) : Holds (upd X p x) cap f (n + 1) (upd L n x) := by
  intro i hi
  subst hp
  rcases (by omega : i < n ∨ i = n) with h1 | rfl
  · rw [upd_ne (place_ne hf (by omega) hn (by omega)), upd_ne (by omega)]; exact h i h1
  · rw [upd_at, upd_at]
theorem Holds.front {X L : Nat → Int} {cap f n p : Nat} (h : Holds X cap f n L) (hf : f < cap) (hn : n < cap) (hp : (f + (cap - 1)) % cap = p) (x : Int) : Holds (upd X p x) cap p (n + 1) (consN x L) := by
  intro i hi
  have hpl : p < cap := by rw [← hp]; exact Nat.mod_lt _ (by omega)
  have key : ∀ j, j < cap → (p + (j + 1)) % cap = (f + j) % cap := fun j _ => by
    rw [← hp, Nat.mod_add_mod, show f + (cap - 1) + (j + 1) = f + j + cap by omega, Nat.add_mod_right]
  unfold consN
  by_cases h0 : i = 0
  · subst h0; rw [if_pos rfl, Nat.add_zero, Nat.mod_eq_of_lt hpl, upd_at]
  · obtain ⟨j, rfl⟩ : ∃ j, i = j + 1 := ⟨i - 1, by omega⟩
    rw [if_neg h0, Nat.add_sub_cancel, key j (by omega), upd_ne (fun e => ?_)]
    · exact h j (by omega)
    · rw [← hp] at e; exact place_ne hf (by omega) (by omega) (by omega) e
theorem Holds.pop {X L : Nat → Int} {cap f n p : Nat} (h : Holds X cap f (n + 1) L) (hp : (f + 1) % cap = p) : Holds X cap p n (rmvN L 0) := by
  intro i hi
  unfold rmvN
  rw [if_neg (by omega), ← hp, Nat.mod_add_mod, show f + 1 + i = f + (i + 1) by omega]
  exact h (i + 1) (by omega)
theorem Holds.fewer {X L : Nat → Int} {cap f n m : Nat} (h : Holds X cap f n L) (hm : m ≤ n) : Holds X cap f m L := fun i hi => h i (by omega)
theorem Holds.same {X L L' : Nat → Int} {cap f n : Nat} (h : Holds X cap f n L) (he : ∀ i, i < n → L i = L' i) : Holds X cap f n L' := fun i hi => (h i hi).trans (he i hi)

/-- The ring behind pointer H, of capacity cap, holds the n numbers L; its blocks H and g lie from C on. -/
def RingO (C H g cap n : Nat) (L : Nat → Int) (w : World) : Prop := ∃ f X, RingW w H g cap f n X ∧ Holds X cap f n L ∧ C ≤ H ∧ C ≤ g
/-- What a call that answers x leaves. -/
def RgAns (C H g cap n : Nat) (L : Nat → Int) (x : Value) (w : World) (e : Ending) (w' : World) : Prop :=
  e = .returned x ∧ RingO C H g cap n L w' ∧ Chg (rgfoot H g) w w'
section
variable {w w' : World} {C H g cap n : Nat} {L L' : Nat → Int}
theorem RingO.below (h : RingO C H g cap n L w) (hb : Below w.heap.size w w') : RingO C H g cap n L w' := by
  obtain ⟨f, X, h1, r⟩ := h; exact ⟨f, X, h1.below hb, r⟩
theorem RingO.chg {S : Nat → Prop} (h : RingO C H g cap n L w) (hk : Chg S w w') (h1 : ¬ S H) (h2 : ¬ S g) : RingO C H g cap n L w' := by
  obtain ⟨f, X, h3, r⟩ := h
  exact ⟨f, X, h3.keep (fun k hk2 => hk.block k (h3.lt k hk2) (by rcases hk2 with rfl | rfl <;> assumption)), r⟩
theorem RingO.only {B : Nat} (h : RingO C H g cap n L w) (hBC : B < C) (ho : Only B w w') : RingO C H g cap n L w' := by
  have : C ≤ H ∧ C ≤ g := by obtain ⟨_, _, _, _, r⟩ := h; exact r
  exact h.chg (Chg.of_only (S := fun k => k = B) ho rfl) (fun e => by have e : H = B := e; omega) (fun e => by have e : g = B := e; omega)
theorem RingO.lo (h : RingO C H g cap n L w) : ∀ k, rgfoot H g k → C ≤ k ∧ k < w.heap.size := by
  obtain ⟨_, _, h1, _, h2, h3⟩ := h
  intro k hk
  exact ⟨by rcases hk with rfl | rfl <;> assumption, h1.lt k hk⟩
theorem RingO.size (h : RingO C H g cap n L w) : n ≤ cap ∧ cap ≤ 4096 ∧ 1 ≤ cap := by obtain ⟨_, _, h1, _⟩ := h; have := h1.len; omega
theorem RingO.same (h : RingO C H g cap n L w) (he : ∀ i, i < n → L i = L' i) : RingO C H g cap n L' w := by
  obtain ⟨f, X, h1, h2, r⟩ := h; exact ⟨f, X, h1, h2.same he, r⟩
theorem RgAns.stay {x : Value} (h : RingO C H g cap n L w) (hb : Below w.heap.size w w') : RgAns C H g cap n L x w (.returned x) w' := ⟨rfl, h.below hb, Chg.of_below hb⟩
end

theorem cell_any {w : World} {H g cap f n : Nat} {X : Nat → Int} (h : RingW w H g cap f n X) (i : Int) (j p : Nat) (hi : i = j) (hj : j ≤ 4096) (hp : (f + j) % cap = p) :
    Calls Try.prog 43 #[.pointer (some ⟨H, 0, none⟩), .int .i64 i] w fun e w' => e = .returned (.int .i64 p) ∧ ∃ q, w' = w.drewN q := by
  subst hi
  obtain ⟨c0, c1, _⟩ := h.cells
  have hl := h.len
  have hz : ¬ (cap : Int) = 0 := by omega
  have HP := Lib.hid hp
  clear h hp
  go_enter Try.func43, Try.ntmps43
  go_wp2
  go_quiet (fail)
  go_wp2
  go_ret
  exact ⟨ret_int (by rw [← HP.out]; norm_cast), _, rfl⟩
theorem rlen_any {w : World} {C H g cap n : Nat} {L : Nat → Int} (h : RingO C H g cap n L w) :
    Calls Try.prog 35 #[.pointer (some ⟨H, 0, none⟩)] w fun e w' => e = .returned (.int .i64 n) ∧ w = w' := by
  obtain ⟨f, X, h, _⟩ := h
  obtain ⟨_, _, c2, _⟩ := h.cells
  clear h
  go_enter Try.func35, Try.ntmps35
  go_wp2
  go_ret
  exact ⟨rfl, rfl⟩
theorem rat_yes {w : World} {H g cap f n : Nat} {X : Nat → Int} (h : RingW w H g cap f n X) (i : Int) (j p : Nat) (hi : i = j) (hj : j < n) (hp : (f + j) % cap = p) :
    Calls Try.prog 42 #[.pointer (some ⟨H, 0, none⟩), .int .i64 i] w fun e w' => e = .returned (.tuple #[.int .i64 (X p), .bool true]) ∧ ∃ q, w' = w.drewN q := by
  subst hi
  obtain ⟨c0, c1, c2, _⟩ := h.cells
  have hl := h.len
  have hpl : p < cap := by rw [← hp]; exact Nat.mod_lt _ (by omega)
  have hpl' : (p : Int) < cap := by omega
  have cp := h.row.cell hpl
  have HC := Lib.hid (fun q => cell_any (h.drewN q) j j p rfl (by omega) hp)
  have hjn : ¬ (n : Int) ≤ j := by omega
  clear h hp
  go_enter Try.func42, Try.ntmps42
  go_wp2_with fail
  go_quiet ((go_at_call 43; exact Calls.quiet_of (HC.out _)))
  go_wp2
  go_ret2
  exact ⟨rfl, _, rfl⟩
theorem rat_no {w : World} {H g cap f n : Nat} {X : Nat → Int} (h : RingW w H g cap f n X) (i : Int) (hi : i < 0 ∨ (n : Int) ≤ i) :
    Calls Try.prog 42 #[.pointer (some ⟨H, 0, none⟩), .int .i64 i] w fun e w' => e = .returned (.tuple #[.int .i64 0, .bool false]) ∧ w = w' := by
  obtain ⟨c0, c1, c2, _⟩ := h.cells
  clear h
  rcases (by omega : i < 0 ∨ (¬ i < 0 ∧ (n : Int) ≤ i)) with h1 | ⟨h1, h2⟩
  all_goals
    go_enter Try.func42, Try.ntmps42
    go_wp2
    go_ret2
    exact ⟨rfl, rfl⟩
end Go.Proofs.Ytijdfkdfojiffaa

