/-
  Layer 4: the reference's heap as an object; contracts of its NewHeap, at, Push, Update, Key. Every input.
-/
import Derived.Test.YtlnbjmmbjhglnaaHpNew
namespace Go.Proofs.Ytlnbjmmbjhglnaa
open Go.ChangeShapes Go.WideShapes Go.ChangeAt Go.RowKit
set_option linter.unusedVariables false

/-- The reference's heap behind pointer R: entries E in slice v. -/
structure RefW (w : World) (C R : Nat) (v : Value) (cap n : Nat) (E : Nat → Int × Int) : Prop where
  blk : w.heap[R]? = some (.cells #[.int .i64 cap, v] 37 (0, 0))
  ents : Ents w C v n E
  lo : C ≤ R
  ne : v.ownBlock ≠ some R
  len : n ≤ cap ∧ cap ≤ 4096
def rfoot (R : Nat) (v : Value) : Nat → Prop := fun k => k = R ∨ v.ownBlock = some k
section
variable {w w' : World} {C R cap n : Nat} {v : Value} {E F : Nat → Int × Int}
theorem RefW.keep (h : RefW w C R v cap n E) (hk : ∀ k, rfoot R v k → w'.heap[k]? = w.heap[k]?) : RefW w' C R v cap n E :=
  ⟨(hk R (.inl rfl)).trans h.blk, h.ents.keep (fun k e => hk k (.inr e)), h.lo, h.ne, h.len⟩
theorem RefW.lt (h : RefW w C R v cap n E) : ∀ k, rfoot R v k → C ≤ k ∧ k < w.heap.size := by
  rintro k (rfl | e)
  · exact ⟨h.lo, lt_of_block h.blk⟩
  · exact h.ents.lt k e
theorem RefW.below (h : RefW w C R v cap n E) (hb : Below w.heap.size w w') : RefW w' C R v cap n E := h.keep fun k hk => hb.block k (h.lt k hk).2
theorem RefW.alloc (h : RefW w C R v cap n E) (o : Obj) : RefW (w.alloc o) C R v cap n E := h.below ((Below.refl _ _).alloc (Nat.le_refl _) o)
theorem RefW.cells (h : RefW w C R v cap n E) : w.cell? ⟨R, 0, none⟩ = some (.int .i64 cap) ∧ w.cell? ⟨R, 1, none⟩ = some v ∧ w.frozen? ⟨R, 1, none⟩ = false := by
  have := h.blk
  exact ⟨by simp [World.cell?, this], by simp [World.cell?, this], by simp [World.frozen?, this]⟩
theorem RefW.grownAt {w2 : World} {o : Obj} (h : RefW w C R v cap n E) (hg : (w.alloc o).grownBy w2 v.ownBlock) : w2.cell? ⟨R, 1, none⟩ = some v ∧ w2.frozen? ⟨R, 1, none⟩ = false := by
  have hR := (h.lt R (.inl rfl)).2
  have hA : (w.alloc o).heap.size = w.heap.size + 1 := by simp
  have b : w2.heap[R]? = _ := ((hg.block R (by omega) (fun e => h.ne e.symm)).trans (Below.heap_alloc w o R hR)).trans h.blk
  exact ⟨by simp [World.cell?, b], by simp [World.frozen?, b]⟩
theorem RefW.pushed {w2 : World} {v' : Value} {o : Obj} (h : RefW w C R v cap n E) (hn : n < cap) (he : Ents w2 C v' (n + 1) F) (hg : (w.alloc o).grownBy w2 v.ownBlock)
    (hb : v'.ownBlock = v.ownBlock ∨ ∃ g, v'.ownBlock = some g ∧ (w.alloc o).heap.size ≤ g) :
    RefW (w2.setCell ⟨R, 1, none⟩ v') C R v' cap (n + 1) F ∧ Chg (rfoot R v) w (w2.setCell ⟨R, 1, none⟩ v') ∧ ∀ k, rfoot R v' k → rfoot R v k ∨ w.heap.size ≤ k := by
  have hR := (h.lt R (.inl rfl)).2
  have hA : (w.alloc o).heap.size = w.heap.size + 1 := by simp
  have hbR : v'.ownBlock ≠ some R := by
    rcases hb with e | ⟨g, e, h1⟩
    · rw [e]; exact h.ne
    · rw [e]; intro e2; have : g = R := by simpa using e2
      omega
  have hk1 : Chg (rfoot R v) w w2 := ((Chg.refl _ w).alloc o).grown hg (fun k e => .inl (.inr e))
  have b : w2.heap[R]? = _ := ((hg.block R (by omega) (fun e => h.ne e.symm)).trans (Below.heap_alloc w o R hR)).trans h.blk
  refine ⟨⟨?_, he.keep (fun k e => Below.heap_setCell w2 ⟨R, 1, none⟩ _ k (fun e' => hbR (by rw [e, e']))), h.lo, hbR, by have := h.len; omega⟩, hk1.setCell (.inl rfl) _ _, ?_⟩
  · have := heap_setCell_same w2 R 1 _ _ v' b
    rw [this]; rfl
  · rintro k (e | e)
    · exact .inl (.inl e)
    · rcases hb with e1 | ⟨g, e1, h1⟩
      · exact .inl (.inr (by rw [← e1]; exact e))
      · right; rw [e1] at e; have : g = k := by simpa using e
        omega
theorem RefW.keyAt {g c : Nat} (h : RefW w C R (.slice (some ⟨g, 0, none⟩) n c) cap n E) {i : Nat} (hi : i < n) (x : Int) :
    RefW (w.setCell ⟨g, i * 2 + 1, none⟩ (.int .i64 x)) C R (.slice (some ⟨g, 0, none⟩) n c) cap n (up1 E i ((E i).1, x)) ∧ Chg (rfoot R (.slice (some ⟨g, 0, none⟩) n c)) w (w.setCell ⟨g, i * 2 + 1, none⟩ (.int .i64 x)) := by
  have hgR : R ≠ g := fun e => h.ne (by rw [e]; rfl)
  exact ⟨⟨(Below.heap_setCell w ⟨g, i * 2 + 1, none⟩ _ R hgR).trans h.blk, h.ents.key hi x, h.lo, h.ne, h.len⟩, (Chg.refl _ _).setCell (.inr rfl) _ _⟩
end
/-- The reference's heap of capacity cap holds the n entries M; its blocks are those of S. -/
def RefO (C R : Nat) (S : Nat → Prop) (cap n : Nat) (M : Int → Option Int) (w : World) : Prop :=
  ∃ (v : Value) (E : Nat → Int × Int), RefW w C R v cap n E ∧ Dist E n ∧ Cont E n M ∧ (∀ k, rfoot R v k → S k) ∧ (∀ k, S k → C ≤ k ∧ k < w.heap.size)
theorem RefO.done {C R cap n' : Nat} {S : Nat → Prop} {v v' : Value} {M' : Int → Option Int} {E' : Nat → Int × Int} {w w' : World} (hS : ∀ k, rfoot R v k → S k)
    (h' : RefW w' C R v' cap n' E') (hd' : Dist E' n') (hc' : Cont E' n' M') (hk : Chg (rfoot R v) w w') (hf : ∀ k, rfoot R v' k → rfoot R v k ∨ w.heap.size ≤ k) :
    RefO C R (rfoot R v') cap n' M' w' ∧ Trod S (rfoot R v') w w' :=
  ⟨⟨v', E', h', hd', hc', fun k hk => hk, h'.lt⟩, hk.wider (fun k _ => hS k), fun k hk => (hf k hk).elim (fun h => .inl (hS k h)) .inr⟩
theorem RefO.same {C R cap n : Nat} {S : Nat → Prop} {M : Int → Option Int} {w w' : World} (h : RefO C R S cap n M w) (hb : Below w.heap.size w w') : RefO C R S cap n M w' ∧ Trod S S w w' := by
  obtain ⟨v, E, h1, h2, h3, h5, h6⟩ := h
  exact ⟨⟨v, E, h1.below hb, h2, h3, h5, fun k hk => by have := h6 k hk; have := hb.size; omega⟩, Chg.of_below hb, fun k hk => .inl hk⟩
def RfAns (C R : Nat) (S : Nat → Prop) (cap n : Nat) (M : Int → Option Int) (x : Value) (w : World) (e : Ending) (w' : World) : Prop :=
  ∃ S', e = .returned x ∧ RefO C R S' cap n M w' ∧ Trod S S' w w'
theorem RfAns.push_stay {C R cap n : Nat} {S : Nat → Prop} {M : Int → Option Int} {id key r : Int} {w w' : World} (h : RefO C R S cap n M w) (hb : Below w.heap.size w w') (he : pushErr cap n M id = r) (hr : r ≠ 0) :
    RfAns C R S cap (pushN cap n M id) (pushM cap n M id key) (.int .i64 (pushErr cap n M id)) w (.returned (.int .i64 r)) w' := by
  unfold pushN pushM; rw [he, if_neg hr, if_neg hr]
  exact ⟨S, rfl, h.same hb⟩

def NewRef (cap : Nat) (w : World) (e : Ending) (w' : World) : Prop :=
  ∃ (R : Nat) (S : Nat → Prop), e = .returned (.tuple #[.pointer (some ⟨R, 0, none⟩), .int .i64 0]) ∧ RefO w.heap.size R S cap 0 noM w' ∧ Below w.heap.size w w'
theorem rnew_ok (cap : Nat) (w : World) (h1 : 1 ≤ cap) (h2 : cap ≤ 4096) : Calls Try.prog 10 #[.int .i64 cap] w (NewRef cap w) := by
  have i1 : ¬ (cap : Int) < 1 := by omega
  have i2 : ¬ 4096 < (cap : Int) := by omega
  have HF := Lib.hid (fun (o : Obj) (ho : o = .cells #[.int .i64 cap, .slice none 0 0] 37) => (show NewRef cap w (.returned (.tuple #[.pointer (some ⟨w.heap.size, 0, none⟩), .int .i64 0])) (w.alloc o) from by
    subst ho
    refine ⟨w.heap.size, rfoot w.heap.size (.slice none 0 0), rfl, ⟨.slice none 0 0, fun _ => (0, 0), ?_, fun a b h => by omega, cont_nil _, fun k hk => hk, ?_⟩, (Below.refl _ _).alloc (Nat.le_refl _) _⟩
    · exact ⟨(MapKept.heap_alloc w _).1, Ents.nil _ _ _, Nat.le_refl _, (by intro h; cases h), by omega⟩
    · rintro k (rfl | h)
      · exact ⟨Nat.le_refl _, by simp⟩
      · cases h))
  go_enter Try.func10, Try.ntmps10
  go_wp2
  go_ret2
  exact HF.out _ rfl

set_option maxHeartbeats 1000000 in
theorem at_yes {w : World} {C R cap n : Nat} {v : Value} {E : Nat → Int × Int} (h : RefW w C R v cap n E) (hd : Dist E n) {j : Nat} (hj : j < n) {id : Int} (he : (E j).1 = id) :
    Calls Try.prog 40 #[.pointer (some ⟨R, 0, none⟩), .int .i64 id] w fun e w' => e = .returned (.int .i64 j) ∧ w = w' := by
  obtain ⟨_, c1, _⟩ := h.cells
  obtain ⟨g, c, rfl, _, _, _⟩ := h.ents.some_ (by omega)
  have hn4 : n ≤ 4096 := by have := h.len; omega
  have HC := Lib.hid (fun k hk => (h.ents.cell (i := k) hk).1)
  have HD := Lib.hid hd
  have HE := Lib.hid he
  clear h hd he
  go_enter Try.func40, Try.ntmps40
  go_wp2
  go_loop [5] (fun i => ∃ k : Nat, k ≤ j ∧ i = .int .i64 k) (fun i => n - (intOf i).toNat)
  case atStart => exact ⟨0, Nat.zero_le _, rfl⟩
  case round =>
    obtain ⟨k, hk, rfl⟩ := hrel
    have hkn : (k : Int) < n := by omega
    have c2 := HC.out k (by omega)
    by_cases hjk : k = j
    · subst hjk
      rw [HE.out] at c2
      have ht : (id == id) = true := by simp
      go_wp2
      go_ret
      exact ⟨rfl, rfl⟩
    · have ht : ((E k).1 == id) = false := beq_eq_false_iff_ne.2 (fun e => hjk (HD.out k j (by omega) hj (e.trans HE.out.symm)))
      go_wp2
      go_round
      case rel => exact ⟨k + 1, by omega, by go_num⟩
      case measure => simp [intOf]; omega
set_option maxHeartbeats 1000000 in
theorem at_no {w : World} {C R cap n : Nat} {v : Value} {E : Nat → Int × Int} (h : RefW w C R v cap n E) {id : Int} (he : ∀ j, j < n → (E j).1 ≠ id) :
    Calls Try.prog 40 #[.pointer (some ⟨R, 0, none⟩), .int .i64 id] w fun e w' => e = .returned (.int .i64 (-1)) ∧ w = w' := by
  obtain ⟨_, c1, _⟩ := h.cells
  have hn4 : n ≤ 4096 := by have := h.len; omega
  have HW := Lib.hid h
  have HE := Lib.hid he
  obtain ⟨A, c, rfl⟩ := h.ents.shape
  clear h he
  go_enter Try.func40, Try.ntmps40
  go_wp2
  go_loop [5] (fun i => ∃ k : Nat, k ≤ n ∧ i = .int .i64 k) (fun i => n - (intOf i).toNat)
  case atStart => exact ⟨0, Nat.zero_le _, rfl⟩
  case round =>
    obtain ⟨k, hk, rfl⟩ := hrel
    by_cases hlt : k < n
    · have hkn : (k : Int) < n := by omega
      obtain ⟨g, c', e, _, _, _⟩ := HW.out.ents.some_ (by omega)
      obtain ⟨rfl, rfl⟩ : A = some ⟨g, 0, none⟩ ∧ c = c' := by simpa using e
      have c2 := (HW.out.ents.cell (i := k) hlt).1
      have ht : ((E k).1 == id) = false := beq_eq_false_iff_ne.2 (HE.out k hlt)
      clear e
      go_wp2
      go_round
      case rel => exact ⟨k + 1, by omega, by go_num⟩
      case measure => simp [intOf]; omega
    · obtain rfl : k = n := by omega
      go_wp2
      go_ret
      exact ⟨rfl, rfl⟩
theorem Cont.none_at {E : Nat → Int × Int} {n : Nat} {M : Int → Option Int} (h : Cont E n M) {id : Int} (hm : M id = none) : ∀ j, j < n → (E j).1 ≠ id := fun j hj e => by
  have := h.at_ hj; rw [e, hm] at this; cases this
end Go.Proofs.Ytlnbjmmbjhglnaa
