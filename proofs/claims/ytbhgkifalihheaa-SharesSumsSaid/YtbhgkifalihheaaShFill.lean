/-
  Layer 3: contracts of validCaps, openParts and fillRound (package shares). Every input that Fill hands them.
-/
import Derived.Test.YtbhgkifalihheaaShParts
import Derived.Test.YtbhgkifalihheaaShSplit
import Derived.Test.YtbhgkifalihheaaShPlain2
import Derived.BigRegion
import Derived.WalkLawsBesides
namespace Go.Proofs.Ytbhgkifalihheaa
open Go.ChangeShapes Go.WideShapes Go.ChangeAt Go.RowKit
set_option linter.unusedVariables false

def VCaps (n : Nat) (C : Nat → Int) : Prop := ∀ i, i < n → 0 ≤ C i ∧ C i ≤ 2199023255552
noncomputable instance instVCaps (n : Nat) (C : Nat → Int) : Decidable (VCaps n C) := Classical.propDecidable _
noncomputable def vcaps (n : Nat) (C : Nat → Int) : Bool := decide (VCaps n C)
theorem vcaps_yes {n : Nat} {C : Nat → Int} (h : VCaps n C) : vcaps n C = true := by unfold vcaps; exact decide_eq_true h
theorem vcaps_no {n : Nat} {C : Nat → Int} (h : ¬ VCaps n C) : vcaps n C = false := by unfold vcaps; exact decide_eq_false h
set_option maxHeartbeats 1000000 in
theorem validCaps_any (A : Option Addr) (n cap : Nat) (C : Nat → Int) (w : World) (hn : n ≤ 9223372036854775807) (hc : Nums w 0 w.heap.size A n C) :
    Calls Try.prog 30 #[.slice A n cap] w fun e w' => e = .returned (.bool (vcaps n C)) ∧ w = w' := by
  go_enter Try.func30, Try.ntmps30
  go_wp2
  go_loop [7] (fun i => ∃ k : Nat, k ≤ n ∧ i = .int .i64 k ∧ (∀ j, j < k → 0 ≤ C j ∧ C j ≤ 2199023255552)) (fun i => n - (intOf i).toNat)
  case atStart => exact ⟨0, Nat.zero_le _, rfl, fun j hj => by omega⟩
  case round =>
    obtain ⟨k, hk, rfl, hok⟩ := hrel
    by_cases hlt : k < n
    · obtain ⟨b, off, rfl, _, hb, c1⟩ := Nums.at_ hc hlt
      have HOK := Lib.hid hok
      clear hc hok
      by_cases h1 : C k < 0
      · have HR : Hid (vcaps n C = false) := vcaps_no (fun h => by have := h k hlt; omega)
        go_wp2
        go_ret
        exact ⟨ret_bool HR.out.symm, rfl⟩
      · by_cases h2 : 2199023255552 < C k
        · have HR : Hid (vcaps n C = false) := vcaps_no (fun h => by have := h k hlt; omega)
          go_wp2
          go_ret
          exact ⟨ret_bool HR.out.symm, rfl⟩
        · have h3 : Hid (0 ≤ C k ∧ C k ≤ 2199023255552) := by constructor <;> omega
          go_wp2
          go_round
          case rel => exact ⟨k + 1, by omega, by go_num, fun j hj => by
            rcases (by omega : j < k ∨ j = k) with h | rfl
            · exact HOK.out j h
            · exact h3.out⟩
          case measure => simp [intOf]; omega
    · obtain rfl : n = k := by omega
      have HR : Hid (vcaps n C = true) := vcaps_yes hok
      clear hc hok
      go_wp2
      go_ret
      exact ⟨ret_bool HR.out.symm, rfl⟩

theorem Nums.of_own {w : World} {base : Nat} {t : TypeId} {A : Option Addr} {n c : Nat} {l : List Nat} (h : w.ownsRow base t 1 (.slice A n c) n (l.map fun p : Nat => .int .i64 (p : Int))) : Nums w base w.heap.size A n (fun k => ((l.getD k 0 : Nat) : Int)) := by
  intro j hj
  have hl : l.length = n := by have := h.1; simpa using this
  rcases h.2 with ⟨hv, hn⟩ | ⟨g, cap, cur, hv, hg, hh, hn, _, hc, htake⟩
  · omega
  · simp only [Value.slice.injEq] at hv
    obtain ⟨rfl, _, rfl⟩ := hv
    refine ⟨g, 0, rfl, hg, lt_of_block hh, ?_⟩
    rw [cell_of_row w g (0 + j) cur t (0, 0) hh, Nat.zero_add]
    have h1 : (l.map fun p : Nat => Value.int .i64 (p : Int))[j]? = some (.int .i64 ((l.getD j 0 : Nat) : Int)) := by
      rw [List.getElem?_map, List.getD_eq_getElem?_getD, List.getElem?_eq_getElem (by omega)]; rfl
    rw [← htake, List.getElem?_take, if_pos (by omega)] at h1
    simpa using h1
theorem cells1 (w : World) (x : Value) (t : TypeId) : ∀ j u, [x][j]? = some u → (w.alloc (.cells #[x] t)).cell? ((⟨w.heap.size, 0, none⟩ : Addr).add j) = some u := by
  intro j u hj
  have h : ((⟨w.heap.size, 0, none⟩ : Addr).add j) = ⟨w.heap.size, j, none⟩ := by unfold Addr.add; split <;> simp_all
  rw [h]
  exact cell_new (by simpa using hj)
theorem one1 {k : IntKind} (x : Int) : ∀ u ∈ [Value.int k x], u.oneCell' = true := by
  intro u hu; simp at hu; rcases hu with rfl; rfl
theorem own_block {w : World} {base : Nat} {e : TypeId} {size : Nat} {v : Value} {n : Nat} {xs : List Value} (h : w.ownsRow base e size v n xs) : ∀ k, v.ownBlock = some k → base ≤ k := by
  intro k hk
  rcases h.2 with ⟨hv, _⟩ | ⟨g, cap, cur, hv, hg, _⟩
  · subst hv; cases hk
  · subst hv; simp [Value.ownBlock] at hk; omega
theorem infoInt : (Try.prog.info? 3).map (fun i => (i.zero, i.size, i.bytes)) = some (some (.int .i64 0), 1, 8) := by kernel_rfl
theorem infoInt64 : (Try.prog.info? 2).map (fun i => (i.zero, i.size, i.bytes)) = some (some (.int .i64 0), 1, 8) := by kernel_rfl
def posVals (l : List Nat) : List Value := l.map fun p : Nat => .int .i64 (p : Int)
/-- What openParts answers. -/
def OpTo (G C : Nat → Int) (n : Nat) (w : World) (e : Ending) (w' : World) : Prop :=
  ∃ (A : Option Addr) (c : Nat), e = .returned (.slice A (opens G C n).length c) ∧ Nums w' w.heap.size w'.heap.size A (opens G C n).length (fun k => (opAt G C n k : Int)) ∧ Below w.heap.size w w'
set_option maxHeartbeats 1000000 in
theorem openParts_any (A D : Option Addr) (n c d : Nat) (G C : Nat → Int) (w : World) (hn : n ≤ 64) (ha : Nums w 0 w.heap.size A n G) (hd : Nums w 0 w.heap.size D n C) :
    Calls Try.prog 31 #[.slice A n c, .slice D n d] w (OpTo G C n w) := by
  obtain ⟨i0, hii, hz0, hz1, hz2⟩ := info_parts infoInt
  go_enter Try.func31, Try.ntmps31
  go_wp2
  go_loopw [5, 10] (fun v i wr => ∃ k : Nat, k ≤ n ∧ i = .int .i64 k ∧ wr.ownsRow w.heap.size 3 1 v (opens G C k).length (posVals (opens G C k)) ∧ Below w.heap.size w wr) (fun _ i _ => n - (intOf i).toNat)
  case atStart => exact ⟨0, Nat.zero_le _, rfl, World.ownsRow_nil _ _ _ _, Below.refl _ _⟩
  case round =>
    obtain ⟨k, hk, rfl, hown, hB⟩ := hrel
    by_cases hlt : k < n
    · obtain ⟨b, off, rfl, _, _, c1⟩ := Nums.at_ (Cells.below ha hB (Nat.le_refl _)) hlt
      obtain ⟨b', off', rfl, _, _, c2⟩ := Nums.at_ (Cells.below hd hB (Nat.le_refl _)) hlt
      have hl := opens_len G C k
      clear ha hd
      by_cases h1 : G k < C k
      · have HO : Hid (opens G C (k + 1) = opens G C k ++ [k]) := by show (if G k < C k then _ else _) = _; rw [if_pos h1]
        have hownA := hown.alloc (.cells #[.int .i64 (k : Int)] 3)
        go_wp2_with (at_builtin; refine wpList_append_own _ rfl (.tmp 21) (.tmp 23) 22 rfl w.heap.size 3 i0 (.int .i64 0) 1 8 Try.underlying22 hii hz0 hz1 hz2 rfl (by decide) _ (opens G C k).length (posVals (opens G C k)) rfl hownA ⟨wr.heap.size, 0, none⟩ 1 1 [.int .i64 (k : Int)] rfl rfl (cells1 _ _ _) (one1 _) (by unfold maxLen; omega) (by omega) (by simp; have := hB.size; omega) ?_; intro v' w9 hown' hgr _)
        have hB' := (hB.alloc hB.size (.cells #[.int .i64 (k : Int)] 3)).grown hgr (by simp; have := hB.size; omega) (own_block hownA)
        clear hgr hownA hown hB
        have hown2 : w9.ownsRow w.heap.size 3 1 v' (opens G C (k + 1)).length (posVals (opens G C (k + 1))) := by
          rw [HO.out]; unfold posVals; rw [List.map_append, List.length_append]; exact hown'
        clear hown'
        go_wp2
        go_roundw
        case rel => exact ⟨k + 1, by omega, by go_num, hown2, hB'⟩
        case measure => simp [intOf]; omega
      · have HO : Hid (opens G C (k + 1) = opens G C k) := by show (if G k < C k then _ else _) = _; rw [if_neg h1]
        go_wp2
        go_roundw
        case rel => exact ⟨k + 1, by omega, by go_num, by rw [HO.out]; exact hown, hB⟩
        case measure => simp [intOf]; omega
    · obtain rfl : n = k := by omega
      obtain ⟨A', c', rfl⟩ := own_shape hown
      clear ha hd
      go_wp2
      go_ret
      exact ⟨A', c', rfl, Nums.of_own hown, hB⟩
end Go.Proofs.Ytbhgkifalihheaa
