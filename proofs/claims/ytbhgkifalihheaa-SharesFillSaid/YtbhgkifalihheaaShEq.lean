/-
  Helpers of the statements: Equal on two lists of the same numbers (package airsharehelp), Weight and Parts of the generator.
-/
import Derived.Test.YtbhgkifalihheaaShVal
import Derived.Test.YtbhgkifalihheaaGenI
import Derived.Deep.QuietTactic
import Derived.BigQuiet
import Derived.Test.YtbhgkifalihheaaMulC
namespace Go.Proofs.Ytbhgkifalihheaa
open Go.ChangeShapes Go.WideShapes Go.ChangeAt Go.RowKit
set_option linter.unusedVariables false

set_option maxHeartbeats 1000000 in
theorem equal64_any (A B : Option Addr) (n c d : Nat) (X : Nat → Int) (L1 B1 L2 B2 : Nat) (w : World) (hn : n ≤ 9223372036854775807) (ha : Nums w L1 B1 A n X) (hb : Nums w L2 B2 B n X) :
    Calls Try.prog 24 #[.slice A n c, .slice B n d] w fun e w' => e = .returned (.bool true) ∧ Below w.heap.size w w' := by
  go_enter Try.func24, Try.ntmps24
  go_wp2
  go_loopw [5] (fun i wr => ∃ k : Nat, k ≤ n ∧ i = .int .i64 k ∧ ∃ q, wr = w.drewN q) (fun i _ => n - (intOf i).toNat)
  case atStart => exact ⟨0, Nat.zero_le _, rfl, 0, rfl⟩
  case round =>
    obtain ⟨k, hk, rfl, q, rfl⟩ := hrel
    by_cases hlt : k < n
    · obtain ⟨b, off, rfl, _, _, c1⟩ := Nums.at_ ha hlt
      obtain ⟨b', off', rfl, _, _, c2⟩ := Nums.at_ hb hlt
      have d1 : (X k != X k) = false := by simp
      clear ha hb
      go_wp2
      go_quiet (fail)
      go_wp2
      go_roundw
      case rel => exact ⟨k + 1, by omega, by go_num, _, rfl⟩
      case measure => simp [intOf]; omega
    · obtain rfl : n = k := by omega
      clear ha hb
      go_wp2
      go_ret
      exact ⟨rfl, Below_drewN (Below.refl _ _) q⟩
set_option maxHeartbeats 1000000 in
theorem equalInt_any (A B : Option Addr) (n c d : Nat) (X : Nat → Int) (L1 B1 L2 B2 : Nat) (w : World) (hn : n ≤ 9223372036854775807) (ha : Nums w L1 B1 A n X) (hb : Nums w L2 B2 B n X) :
    Calls Try.prog 27 #[.slice A n c, .slice B n d] w fun e w' => e = .returned (.bool true) ∧ Below w.heap.size w w' := by
  go_enter Try.func27, Try.ntmps27
  go_wp2
  go_loopw [5] (fun i wr => ∃ k : Nat, k ≤ n ∧ i = .int .i64 k ∧ ∃ q, wr = w.drewN q) (fun i _ => n - (intOf i).toNat)
  case atStart => exact ⟨0, Nat.zero_le _, rfl, 0, rfl⟩
  case round =>
    obtain ⟨k, hk, rfl, q, rfl⟩ := hrel
    by_cases hlt : k < n
    · obtain ⟨b, off, rfl, _, _, c1⟩ := Nums.at_ ha hlt
      obtain ⟨b', off', rfl, _, _, c2⟩ := Nums.at_ hb hlt
      have d1 : (X k != X k) = false := by simp
      clear ha hb
      go_wp2
      go_quiet (fail)
      go_wp2
      go_roundw
      case rel => exact ⟨k + 1, by omega, by go_num, _, rfl⟩
      case measure => simp [intOf]; omega
    · obtain rfl : n = k := by omega
      clear ha hb
      go_wp2
      go_ret
      exact ⟨rfl, Below_drewN (Below.refl _ _) q⟩

/-- What Weight answers: a weight; one more number has been taken. -/
def GaveW (B : Nat) (a : Option Addr) (len cap k : Nat) (w0 w : World) (e : Ending) (w' : World) : Prop :=
  ∃ x : Int, 1 ≤ x ∧ x ≤ 16 ∧ e = .returned (.int .i64 x) ∧ Has B a len cap (k + 1) w0 w' ∧ Only B w w'
def list9 : Array Value := #[Value.int IntKind.i64 1, Value.int IntKind.i64 2, Value.int IntKind.i64 1, Value.int IntKind.i64 3, Value.int IntKind.i64 4, Value.int IntKind.i64 16, Value.int IntKind.i64 7, Value.int IntKind.i64 1, Value.int IntKind.i64 5]
theorem words9 (w : World) (n : Nat) (hn : n ≤ 8) : ∃ x : Int, 1 ≤ x ∧ x ≤ 16 ∧ (w.alloc (.cells list9 3)).cell? ⟨w.heap.size, n, none⟩ = some (.int .i64 x) := by
  obtain ⟨x, h0, h1, h2⟩ := pick_int (k := .i64) (lo := 1) (hi := 16) (cs := list9) (by decide) (n := n) (by show n < 9; omega)
  exact ⟨x, h0, h1, cell_new h2⟩
theorem has_weight (B : Nat) (a : Option Addr) (len cap k : Nat) (w0 w : World) (h : Has B a len cap k w0 w) (hk : k ≤ 1000000000) :
    Calls Try.prog 16 #[.pointer (some ⟨B, 0, none⟩)] w (GaveW B a len cap k w0 w) := by
  have hW := words9 w
  have hne : w.heap.size ≠ B := by have := h.1.lt; omega
  have hO := Only.alloc B w (.cells list9 3)
  have hg0 := h.alloc (.cells list9 3)
  unfold list9 at hO hg0 hW
  have HW := Lib.hid hW
  clear h hW
  go_enter Try.func16, Try.ntmps16
  go_wp2_with fail
  refine (has_next B a len cap k 9 w0 _ hg0 (by decide) (by decide) hk).mono ?_
  rintro e w' ⟨r, r0, r1, rfl, hg', ho⟩
  obtain ⟨n, rfl⟩ := Int.eq_ofNat_of_zero_le r0
  obtain ⟨x, x0, x1, hx⟩ := HW.out n (by omega)
  have hx' := ho.keep hne hx
  have hO' := hO.trans ho
  clear ho hg0 hx hO
  have hn : n ≤ 8 := by omega
  go_wp2
  go_ret
  exact ⟨_, x0, x1, rfl, hg', hO'⟩

/-! ### Parts -/
theorem Only.low {B C : Nat} {a b c : World} (h : Only B a b) (k : Below C b c) (hC : a.heap.size ≤ C) : Only B a c :=
  ⟨k.os.trans h.os, k.tape.trans h.tape, k.output.trans h.output, Nat.le_trans h.size k.size, fun i hi hn => (k.block i (by omega)).trans (h.block i hi hn)⟩
theorem ownsRow_only {B : Nat} {w w' : World} {base : Nat} {e : TypeId} {size : Nat} {v : Value} {n : Nat} {xs : List Value} (h : w.ownsRow base e size v n xs) (ho : Only B w w') (hB : B < base) : w'.ownsRow base e size v n xs := by
  obtain ⟨h1, h2⟩ := h
  refine ⟨h1, ?_⟩
  rcases h2 with h2 | ⟨g, cap, cur, hv, hg, hh, r⟩
  · exact .inl h2
  · exact .inr ⟨g, cap, cur, hv, hg, (ho.block g (lt_of_block hh) (by omega)).trans hh, r⟩
/-- The cells of n pairs. -/
def flatP (I V : Nat → Int) : Nat → List Value
  | 0 => []
  | n + 1 => flatP I V n ++ [.int .i64 (I n), .int .i64 (V n)]
theorem flatP_len (I V : Nat → Int) (n : Nat) : (flatP I V n).length = n * 2 := by
  induction n with
  | zero => rfl
  | succ n ih => simp only [flatP, List.length_append, ih, List.length_cons, List.length_nil]; omega
theorem flatP_congr {I V I' V' : Nat → Int} {n : Nat} (h : ∀ i, i < n → I i = I' i ∧ V i = V' i) : flatP I V n = flatP I' V' n := by
  induction n with
  | zero => rfl
  | succ n ih => simp only [flatP]; rw [ih (fun i hi => h i (by omega)), (h n (by omega)).1, (h n (by omega)).2]
theorem flatP_at (I V : Nat → Int) (n j : Nat) (h : j < n * 2) : (flatP I V n)[j]? = some (prs I V j) := by
  induction n with
  | zero => omega
  | succ n ih =>
    simp only [flatP]
    rcases (by omega : j < n * 2 ∨ j = n * 2 ∨ j = n * 2 + 1) with h' | h' | h'
    · rw [List.getElem?_append_left (by rw [flatP_len]; exact h')]; exact ih h'
    · subst h'; rw [List.getElem?_append_right (by rw [flatP_len]; omega), flatP_len, Nat.sub_self, prs_even]; rfl
    · subst h'; rw [List.getElem?_append_right (by rw [flatP_len]; omega), flatP_len, prs_odd, show n * 2 + 1 - n * 2 = 1 by omega]; rfl
theorem Prs.of_own {w : World} {base : Nat} {t : TypeId} {A : Option Addr} {n c : Nat} {I V : Nat → Int} (h : w.ownsRow base t 2 (.slice A n c) n (flatP I V n)) : Prs w base w.heap.size A n I V := by
  intro j hj
  rcases h.2 with ⟨hv, hn⟩ | ⟨g, cap, cur, hv, hg, hh, hn, _, hc, htake⟩
  · omega
  · simp only [Value.slice.injEq] at hv
    obtain ⟨rfl, _, rfl⟩ := hv
    refine ⟨g, 0, rfl, hg, lt_of_block hh, ?_⟩
    rw [cell_of_row w g (0 + j) cur t (0, 0) hh, Nat.zero_add]
    have := flatP_at I V n j hj
    rw [← htake, List.getElem?_take, if_pos hj] at this
    simpa using this
/-- What Parts has gathered behind j rounds. -/
def PartsAt (B : Nat) (a : Option Addr) (len cap K : Nat) (w0 W : World) (j : Nat) (v : Value) (id : Int) (wr : World) : Prop :=
  ∃ (I V : Nat → Int) (q : Nat), q ≤ K + 4 * j ∧ Has B a len cap q w0 wr ∧ Only B W wr ∧ wr.ownsRow W.heap.size 39 2 v j (flatP I V j) ∧ id = before I j ∧ (∀ i, i < j → okPart I V i ∧ I i ≤ 3 * (i : Int) + 2)
/-- What Parts(n) answers. -/
def GaveP (B : Nat) (a : Option Addr) (len cap K n : Nat) (w0 W : World) (e : Ending) (w' : World) : Prop :=
  ∃ (m : Nat) (A : Option Addr) (c : Nat) (I V : Nat → Int) (q : Nat), m ≤ n ∧ q ≤ K + 1 + 4 * n ∧ e = .returned (.slice A m c) ∧ Prs w' W.heap.size w'.heap.size A m I V ∧
    w'.ownsRow W.heap.size 39 2 (.slice A m c) m (flatP I V m) ∧ (∀ i, i < m → okPart I V i ∧ I i ≤ 3 * (i : Int) + 2) ∧ Has B a len cap q w0 w' ∧ Only B W w'
theorem info_part : (Try.prog.info? 39).map (fun i => (i.zero, i.size, i.bytes)) = some (some (.agg #[.int .i64 0, .int .i64 0]), 2, 16) := by kernel_rfl
end Go.Proofs.Ytbhgkifalihheaa
