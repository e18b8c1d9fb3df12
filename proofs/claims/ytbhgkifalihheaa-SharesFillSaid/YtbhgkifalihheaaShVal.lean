/-
  Layer 3: what Valid answers (package shares), of the program and the reference. Every slice of parts.
-/
import Derived.Test.YtbhgkifalihheaaMem
import Derived.Deep.QuietTactic
import Derived.BigQuiet
namespace Go.Proofs.Ytbhgkifalihheaa
open Go.ChangeShapes Go.WideShapes Go.ChangeAt Go.RowKit
set_option linter.unusedVariables false

/-- Part i stands where it may: behind the part before it, with a weight from 1 to 2^31. -/
def okPart (I V : Nat → Int) (i : Nat) : Prop := 0 ≤ I i ∧ (0 < i → I (i - 1) < I i) ∧ 1 ≤ V i ∧ V i ≤ 2147483648
/-- Valid. -/
def VParts (n : Nat) (I V : Nat → Int) : Prop := n ≤ 64 ∧ ∀ i, i < n → okPart I V i
noncomputable instance instVParts (n : Nat) (I V : Nat → Int) : Decidable (VParts n I V) := Classical.propDecidable _
noncomputable def vparts (n : Nat) (I V : Nat → Int) : Bool := decide (VParts n I V)
theorem vparts_yes {n : Nat} {I V : Nat → Int} (h : VParts n I V) : vparts n I V = true := by unfold vparts; exact decide_eq_true h
theorem vparts_no {n : Nat} {I V : Nat → Int} (h : ¬ VParts n I V) : vparts n I V = false := by unfold vparts; exact decide_eq_false h
/-- The ID before part i, as the program keeps it. -/
def before (I : Nat → Int) (i : Nat) : Int := if i = 0 then -1 else I (i - 1)
theorem before_lt {I V : Nat → Int} {i : Nat} (h : okPart I V i) : before I i < I i := by
  obtain ⟨h1, h2, _⟩ := h
  unfold before; split
  · omega
  · exact h2 (by omega)
theorem okPart_mk {I V : Nat → Int} {i : Nat} (h : before I i < I i) (h0 : -1 ≤ before I i) (h1 : 1 ≤ V i) (h2 : V i ≤ 2147483648) : okPart I V i := by
  unfold before at h h0
  refine ⟨by split at h <;> omega, fun hi => ?_, h1, h2⟩
  rw [if_neg (by omega)] at h; exact h
theorem before_ge {I V : Nat → Int} {i : Nat} (h : ∀ k, k < i → okPart I V k) : -1 ≤ before I i := by
  unfold before; split
  · omega
  · have := (h (i - 1) (by omega)).1; omega

set_option maxHeartbeats 1000000 in
theorem valid_any (A : Option Addr) (n cap : Nat) (I V : Nat → Int) (w : World) (hn : n ≤ 9223372036854775807) (hi : Fits n I) (hv : Fits n V) (hp : Prs w 0 w.heap.size A n I V) :
    Calls Try.prog 22 #[.slice A n cap] w fun e w' => e = .returned (.bool (vparts n I V)) ∧ Below w.heap.size w w' := by
  by_cases h64 : n ≤ 64
  · go_enter Try.func22, Try.ntmps22
    go_wp2
    go_loopw [3, 11] (fun b i wr => ∃ k : Nat, k ≤ n ∧ i = .int .i64 k ∧ b = .int .i64 (before I k) ∧ (∀ j, j < k → okPart I V j) ∧ Below w.heap.size w wr) (fun _ i _ => n - (intOf i).toNat)
    case atStart => exact ⟨0, Nat.zero_le _, rfl, rfl, fun j hj => by omega, Below.refl _ _⟩
    case round =>
      obtain ⟨k, hk, rfl, rfl, hok, hB⟩ := hrel
      have hge := before_ge hok
      by_cases hlt : k < n
      · have hpr := Cells.below hp hB (Nat.le_refl _)
        obtain ⟨b, off, rfl, _, hb, c1, c2⟩ := Prs.at_ hpr hlt
        obtain ⟨i0, i1⟩ := hi k hlt
        obtain ⟨v0, v1⟩ := hv k hlt
        have hs := hB.size
        by_cases h1 : before I k < I k
        · have h1' : ¬ I k ≤ before I k := by omega
          by_cases h2 : 1 ≤ V k
          · have h2' : ¬ V k < 1 := by omega
            by_cases h3 : V k ≤ 2147483648
            · have h3' : ¬ 2147483648 < V k := by omega
              have hok' := okPart_mk h1 hge h2 h3
              have hbe : before I (k + 1) = I k := by unfold before; rw [if_neg (by omega)]; rfl
              have HB := Lib.hid hbe
              have HOK := Lib.hid hok
              clear hp hpr hi hv hok hbe
              go_wp2
              go_roundw
              case rel => exact ⟨k + 1, by omega, by go_num, by rw [HB.out], fun j hj => by
                rcases (by omega : j < k ∨ j = k) with h | rfl
                · exact HOK.out j h
                · exact hok', hB.alloc (by omega) _⟩
              case measure => simp [intOf]; omega
            · have h3' : 2147483648 < V k := by omega
              have HR : Hid (vparts n I V = false) := vparts_no (fun h => by have := (h.2 k hlt).2.2.2; omega)
              clear hp hpr hi hv hok
              go_wp2
              go_ret
              exact ⟨ret_bool HR.out.symm, hB.alloc (by omega) _⟩
          · have h2' : V k < 1 := by omega
            have HR : Hid (vparts n I V = false) := vparts_no (fun h => by have := (h.2 k hlt).2.2.1; omega)
            clear hp hpr hi hv hok
            go_wp2
            go_ret
            exact ⟨ret_bool HR.out.symm, hB.alloc (by omega) _⟩
        · have h1' : I k ≤ before I k := by omega
          have HR : Hid (vparts n I V = false) := vparts_no (fun h => by have := before_lt (h.2 k hlt); omega)
          clear hp hpr hi hv hok
          go_wp2
          go_ret
          exact ⟨ret_bool HR.out.symm, hB.alloc (by omega) _⟩
      · obtain rfl : k = n := by omega
        have HR : Hid (vparts k I V = true) := vparts_yes ⟨h64, hok⟩
        clear hp hi hv hok
        go_wp2
        go_ret
        exact ⟨ret_bool HR.out.symm, hB⟩
  · rw [vparts_no (fun h => h64 h.1)]
    have h64' : 64 < n := by omega
    clear h64
    go_enter Try.func22, Try.ntmps22
    go_wp2
    go_ret
    exact ⟨rfl, Below.refl _ _⟩

set_option maxHeartbeats 1000000 in
theorem refValid_any (A : Option Addr) (n cap : Nat) (I V : Nat → Int) (w : World) (hn : n ≤ 9223372036854775807) (hi : Fits n I) (hv : Fits n V) (hp : Prs w 0 w.heap.size A n I V) :
    Calls Try.prog 23 #[.slice A n cap] w fun e w' => e = .returned (.bool (vparts n I V)) ∧ Below w.heap.size w w' := by
  by_cases h64 : n ≤ 64
  · go_enter Try.func23, Try.ntmps23
    go_wp2
    go_loopw [3] (fun i wr => ∃ k : Nat, k ≤ n ∧ i = .int .i64 k ∧ (∀ j, j < k → okPart I V j) ∧ Below w.heap.size w wr) (fun i _ => n - (intOf i).toNat)
    case atStart => exact ⟨0, Nat.zero_le _, rfl, fun j hj => by omega, Below.refl _ _⟩
    case round =>
      obtain ⟨k, hk, rfl, hok, hB⟩ := hrel
      by_cases hlt : k < n
      · have hpr := Cells.below hp hB (Nat.le_refl _)
        obtain ⟨b, off, rfl, _, hb, c1, c2⟩ := Prs.at_ hpr hlt
        obtain ⟨i0, i1⟩ := hi k hlt
        obtain ⟨v0, v1⟩ := hv k hlt
        have hs := hB.size
        by_cases hneg : I k < 0
        · have HR : Hid (vparts n I V = false) := vparts_no (fun h => by have := (h.2 k hlt).1; omega)
          clear hp hpr hi hv hok
          go_wp2
          go_quiet (fail)
          go_wp2
          go_ret
          exact ⟨ret_bool HR.out.symm, Below_drewN hB _⟩
        · rcases (show k = 0 ∨ ∃ m, k = m + 1 from by cases k with | zero => exact .inl rfl | succ m => exact .inr ⟨m, rfl⟩) with hk0 | ⟨m, rfl⟩
          · have d1 : decide (I k < 0) = false := decide_eq_false hneg
            have d0 : decide ((0 : Int) < (k : Int)) = false := decide_eq_false (by omega)
            have d0' : decide (0 < k) = false := decide_eq_false (by omega)
            have HK := Lib.hid hk0
            clear hk0
            by_cases h2 : V k < 1
            · have HR : Hid (vparts n I V = false) := vparts_no (fun h => by have := (h.2 k hlt).2.2.1; omega)
              clear hp hpr hi hv hok
              go_wp2
              go_quiet (fail)
              go_wp2
              go_ret
              exact ⟨ret_bool HR.out.symm, Below_drewN hB _⟩
            · have d2 : decide (V k < 1) = false := decide_eq_false h2
              by_cases h3 : 2147483648 < V k
              · have HR : Hid (vparts n I V = false) := vparts_no (fun h => by have := (h.2 k hlt).2.2.2; omega)
                clear hp hpr hi hv hok
                go_wp2
                go_quiet (fail)
                go_wp2
                go_ret
                exact ⟨ret_bool HR.out.symm, Below_drewN hB _⟩
              · have d3 : decide (2147483648 < V k) = false := decide_eq_false h3
                have HNEW : Hid (okPart I V k) := ⟨by omega, fun h => by have := HK.out; omega, by omega, by omega⟩
                have HOK := Lib.hid hok
                clear hp hpr hi hv hok
                go_wp2
                go_quiet (fail)
                go_wp2
                go_roundw
                case rel => exact ⟨k + 1, by omega, by go_num, fun j hj => by
                  rcases (by omega : j < k ∨ j = k) with h | rfl
                  · exact HOK.out j h
                  · exact HNEW.out, Below_drewN hB _⟩
                case measure => simp [intOf]; omega
          · have hprm := Prs.at_ hpr (show m < n by omega)
            obtain ⟨b', off', e', _, _, c3, _⟩ := hprm
            obtain ⟨rfl, rfl⟩ : b = b' ∧ off = off' := by simpa using e'
            clear e'
            obtain ⟨j0, j1⟩ := hi m (by omega)
            have d1 : decide (I (m + 1) < 0) = false := decide_eq_false hneg
            have d0 : decide ((0 : Int) < (m : Int) + 1) = true := decide_eq_true (by omega)
            by_cases hle : I (m + 1) ≤ I m
            · have HR : Hid (vparts n I V = false) := vparts_no (fun h => by have := (h.2 (m + 1) hlt).2.1 (by omega); simp at this; omega)
              clear hp hpr hi hv hok
              go_wp2
              go_quiet (fail)
              go_wp2
              go_ret
              exact ⟨ret_bool HR.out.symm, Below_drewN hB _⟩
            · have hlo : I m < I (m + 1) := by omega
              have d4 : decide (I (m + 1) ≤ I m) = false := decide_eq_false hle
              by_cases h2 : V (m + 1) < 1
              · have HR : Hid (vparts n I V = false) := vparts_no (fun h => by have := (h.2 (m + 1) hlt).2.2.1; omega)
                clear hp hpr hi hv hok
                go_wp2
                go_quiet (fail)
                go_wp2
                go_ret
                exact ⟨ret_bool HR.out.symm, Below_drewN hB _⟩
              · have d2 : decide (V (m + 1) < 1) = false := decide_eq_false h2
                by_cases h3 : 2147483648 < V (m + 1)
                · have HR : Hid (vparts n I V = false) := vparts_no (fun h => by have := (h.2 (m + 1) hlt).2.2.2; omega)
                  clear hp hpr hi hv hok
                  go_wp2
                  go_quiet (fail)
                  go_wp2
                  go_ret
                  exact ⟨ret_bool HR.out.symm, Below_drewN hB _⟩
                · have d3 : decide (2147483648 < V (m + 1)) = false := decide_eq_false h3
                  have HNEW : Hid (okPart I V (m + 1)) := ⟨by omega, fun h => by first | omega | exact (by simpa using hlo), by omega, by omega⟩
                  have HOK := Lib.hid hok
                  clear hp hpr hi hv hok
                  go_wp2
                  go_quiet (fail)
                  go_wp2
                  go_roundw
                  case rel => exact ⟨m + 1 + 1, by omega, by go_num, fun j hj => by
                    rcases (by omega : j < m + 1 ∨ j = m + 1) with h | rfl
                    · exact HOK.out j h
                    · exact HNEW.out, Below_drewN hB _⟩
                  case measure => simp [intOf]; omega
      · obtain rfl : k = n := by omega
        have HR : Hid (vparts k I V = true) := vparts_yes ⟨h64, hok⟩
        clear hp hi hv hok
        go_wp2
        go_ret
        exact ⟨ret_bool HR.out.symm, hB⟩
  · rw [vparts_no (fun h => h64 h.1)]
    have h64' : 64 < n := by omega
    clear h64
    go_enter Try.func23, Try.ntmps23
    go_wp2
    go_ret
    exact ⟨rfl, Below.refl _ _⟩
end Go.Proofs.Ytbhgkifalihheaa
