/-
  Layer 3: the walks of the statement about Split (package shares). Every input; no condition.
-/
import Derived.Test.YtbhgkifalihheaaShParts
import Derived.Test.YtbhgkifalihheaaShSplit
namespace Go.Proofs.Ytbhgkifalihheaa
open Go.ChangeShapes Go.WideShapes Go.ChangeAt Go.RowKit
set_option linter.unusedVariables false

def awI (i : Nat) : Int := if i = 0 then 0 else 1
def awV (i : Nat) : Int := if i = 0 then 1 else 2
def awX (i : Nat) : Int := if i = 0 then 4 else 6
theorem aw_valid : VParts 2 awI awV := by
  refine ⟨by omega, fun i hi => ?_⟩
  rcases (by omega : i = 0 ∨ i = 1) with rfl | rfl <;> exact ⟨by decide, by decide, by decide, by decide⟩
theorem aw_spl : ∀ i, i < 2 → spl 10 awV 2 i = awX i := by
  intro i hi
  rcases (by omega : i = 0 ∨ i = 1) with rfl | rfl <;> decide
theorem awake3_any (w : World) : Calls Try.prog 12 #[] w fun e w' => e = .returned (.bool true) ∧ Below w.heap.size w w' := by
  have hp : Prs (w.alloc (.cells #[.int .i64 0, .int .i64 1, .int .i64 1, .int .i64 2] 39)) 0 (w.alloc (.cells #[.int .i64 0, .int .i64 1, .int .i64 1, .int .i64 2] 39)).heap.size (some ⟨w.heap.size, 0, none⟩) 2 awI awV := by
    intro j hj
    refine ⟨_, 0, rfl, Nat.zero_le _, by simp, ?_⟩
    rw [Nat.zero_add]
    refine cell_new ?_
    rcases (by omega : j = 0 ∨ j = 1 ∨ j = 2 ∨ j = 3) with rfl | rfl | rfl | rfl <;> rfl
  have hf : Fits 2 awI := fun i hi => by unfold awI; split <;> omega
  have hf' : Fits 2 awV := fun i hi => by unfold awV; split <;> omega
  have HS := split_any 10 (some ⟨w.heap.size, 0, none⟩) 2 2 awI awV _ (by decide) (by decide) (by decide) hf hf' hp
  unfold SplitTo spLen spErr at HS
  rw [if_pos aw_valid, if_pos aw_valid, if_neg (by decide)] at HS
  have H := Lib.hid HS
  have hB0 : Below w.heap.size w (w.alloc (.cells #[.int .i64 0, .int .i64 1, .int .i64 1, .int .i64 2] 39)) := (Below.refl _ _).alloc (Nat.le_refl _) _
  clear HS hp hf hf'
  go_enter Try.func12, Try.ntmps12
  go_wp2_with fail
  (with_reducible refine H.out.mono ?_)
  rintro e w1 ⟨A, c, rfl, hn, hb⟩
  have hb1 := hB0.trans (hb.mono (by simp))
  have hn1 : Nums w1 0 w1.heap.size A 2 awX := (Cells.wider hn (Nat.zero_le _) (Nat.le_refl _)).same (fun j hj => by rw [aw_spl j hj])
  have hr : Row (w1.alloc (.cells #[.int .i64 4, .int .i64 6] 2)) w1.heap.size 2 2 awX := ⟨_, (MapKept.heap_alloc w1 _).1, rfl, fun i hi => by rcases (by omega : i = 0 ∨ i = 1) with rfl | rfl <;> rfl⟩
  have hn2 := Cells.alloc hn1 (Nat.le_refl _) (.cells #[.int .i64 4, .int .i64 6] 2)
  have hE := Lib.hid (equal64_any A (some ⟨w1.heap.size, 0, none⟩) 2 c 2 awX _ _ _ _ _ (by decide) hn2 hr.nums)
  have hb2 := hb1.alloc hb1.size (.cells #[.int .i64 4, .int .i64 6] 2)
  clear hn hb hn1 hr hn2 hb1
  go_wp2_with fail
  (with_reducible refine hE.out.mono ?_)
  rintro e w2 ⟨rfl, hb3⟩
  have hb4 := hb2.trans (hb3.mono hb2.size)
  clear hb2 hb3
  go_wp2
  go_ret
  exact ⟨rfl, hb4⟩

theorem spErr_bd (n : Nat) (I V : Nat → Int) : 0 ≤ spErr n I V ∧ spErr n I V ≤ 5 := by
  unfold spErr; split
  · split <;> omega
  · omega
theorem splits_any (x : Int) (A : Option Addr) (n cap : Nat) (I V : Nat → Int) (w : World) (x0 : -9223372036854775808 ≤ x) (x1 : x ≤ 9223372036854775807) (hn : n ≤ 9223372036854775807) (hi : Fits n I) (hv : Fits n V) (hp : Prs w 0 w.heap.size A n I V) :
    Calls Try.prog 9 #[.int .i64 x, .slice A n cap] w fun e w' => e = .returned (.bool true) ∧ Below w.heap.size w w' := by
  have h1 := Lib.hid (split_any x A n cap I V w x0 x1 hn hi hv hp)
  have h2 := Lib.hid (fun w' (hb : Below w.heap.size w w') => refSplit_any x A n cap I V w' x0 x1 hn hi hv (Cells.wider (Cells.below hp hb (Nat.le_refl _)) (Nat.le_refl _) hb.size))
  have h3 := Lib.hid (fun w' (hb : Below w.heap.size w w') => valid_any A n cap I V w' hn hi hv (Cells.wider (Cells.below hp hb (Nat.le_refl _)) (Nat.le_refl _) hb.size))
  have h4 := Lib.hid (fun w' (hb : Below w.heap.size w w') => refValid_any A n cap I V w' hn hi hv (Cells.wider (Cells.below hp hb (Nat.le_refl _)) (Nat.le_refl _) hb.size))
  have hl : spLen n I V ≤ 9223372036854775807 := by unfold spLen; split <;> omega
  unfold SplitTo at h1 h2
  obtain ⟨eb0, eb1⟩ := spErr_bd n I V
  clear hi hv hp
  generalize spLen n I V = L at *
  generalize spErr n I V = E at *
  generalize vparts n I V = vb at *
  generalize spl x V n = X at *
  go_enter Try.func9, Try.ntmps9
  go_wp2_with fail
  (with_reducible refine h1.out.mono ?_)
  rintro e w1 ⟨A1, c1, rfl, hn1, hb1⟩
  go_wp2_with fail
  (with_reducible refine (h2.out _ hb1).mono ?_)
  rintro e w2 ⟨A2, c2, rfl, hn2, hb2⟩
  have hb2' := hb1.trans (hb2.mono hb1.size)
  have hn1' := Cells.below hn1 hb2 (Nat.le_refl _)
  have hs12 := hb2.size
  clear hb1 hb2 hn1
  go_wp2_with fail
  (with_reducible refine (h3.out _ hb2').mono ?_)
  rintro e w3 ⟨rfl, hb3⟩
  have hb3' := hb2'.trans (hb3.mono hb2'.size)
  have hn13 := Cells.below hn1' hb3 hs12
  have hn23 := Cells.below hn2 hb3 (Nat.le_refl _)
  clear hb2' hn1' hn2
  go_wp2_with fail
  (with_reducible refine (h4.out _ hb3').mono ?_)
  rintro e w4 ⟨rfl, hb4⟩
  have hb4' := hb3'.trans (hb4.mono hb3'.size)
  have hE := Lib.hid (equal64_any A1 A2 L c1 c2 X _ _ _ _ w4 hl (Cells.below hn13 hb4 (by have := hb3.size; omega)) (Cells.below hn23 hb4 (by have := hb3.size; omega)))
  clear hb3 hb3' hb4 hn13 hn23
  go_wp2_with fail
  (with_reducible refine hE.out.mono ?_)
  rintro e w5 ⟨rfl, hb5⟩
  have hb5' := hb4'.trans (hb5.mono hb4'.size)
  clear hb4' hb5
  go_wp2
  go_ret
  exact ⟨rfl, hb5'⟩

/-- The choices, whatever has been taken of them. -/
def HasUp (B : Nat) (a : Option Addr) (len cap K : Nat) (w0 w : World) : Prop := ∃ q, q ≤ K ∧ Has B a len cap q w0 w
theorem walkSplit (a : Option Addr) (len cap : Nat) (x : Int) (P : Option Addr) (n pc : Nat) (I V : Nat → Int) (x0 : -9223372036854775808 ≤ x) (x1 : x ≤ 9223372036854775807) (w : World) (he : Elems w.heap.size a len w) (hn : n ≤ 9223372036854775807) (hi : Fits n I) (hv : Fits n V) (hp : Prs w 0 w.heap.size P n I V) :
    Calls Try.prog 3 #[.slice a len cap, .int .i64 x, .slice P n pc] w fun e w' => e = .returned (.bool true) ∧ Below w.heap.size w w' := by
  have hg := Has.new (cap := cap) he
  have HP := Lib.hid (fun w' (hb : Below w.heap.size w w') => splits_any x P n pc I V w' x0 x1 hn hi hv (Cells.wider (Cells.below hp hb (Nat.le_refl _)) (Nat.le_refl _) hb.size))
  clear he hi hv hp
  go_enter Try.func3, Try.ntmps3
  go_wp2_with (go_at_call 8; (with_reducible refine (new_any a len cap _).mono ?_); rintro e w' ⟨rfl, rfl⟩)
  go_loopw [8] (fun i wr => ∃ j q : Nat, j ≤ 4 ∧ i = .int .i64 j ∧ q ≤ 100 * j ∧ Has w.heap.size a len cap q w wr) (fun i _ => 4 - (intOf i).toNat)
  case atStart => exact ⟨0, 0, by omega, rfl, by omega, hg⟩
  case round =>
    obtain ⟨j, q, hj, rfl, hq, hgj⟩ := hrel
    clear hg
    by_cases hlt : j < 4
    · go_wp2_with fail
      refine (has_int64 w.heap.size a len cap q w _ hgj (by omega)).mono ?_
      rintro e w1 ⟨z, z0, z1, rfl, hg1, ho1⟩
      clear ho1 hgj
      go_wp2_with fail
      refine (has_parts w.heap.size a len cap (q + 3) 6 w _ (by omega) (by omega) hg1).mono ?_
      rintro e w2 ⟨m, A, c, I1, V1, q2, hm, hq2, rfl, hp2, _, hok2, hg2, ho2⟩
      have HS := Lib.hid (splits_any z A m c I1 V1 w2 z0 z1 (by omega) (fun i hi => by have := (hok2 i hi).1.1; have := (hok2 i hi).2; omega) (fun i hi => by have := (hok2 i hi).1.2.2; omega) (Cells.wider hp2 (Nat.zero_le _) (Nat.le_refl _)))
      clear ho2 hg1 hp2 hok2
      go_wp2_with fail
      (with_reducible refine HS.out.mono ?_)
      rintro e w3 ⟨rfl, hb3⟩
      have hg3 := hg2.below hb3
      clear hb3 hg2
      go_wp2_with fail
      refine (has_parts w.heap.size a len cap q2 4 w _ (by omega) (by omega) hg3).mono ?_
      rintro e w4 ⟨m', A', c', I2, V2, q4, hm', hq4, rfl, hp4, _, hok4, hg4, ho4⟩
      have HS' := Lib.hid (splits_any x A' m' c' I2 V2 w4 x0 x1 (by omega) (fun i hi => by have := (hok4 i hi).1.1; have := (hok4 i hi).2; omega) (fun i hi => by have := (hok4 i hi).1.2.2; omega) (Cells.wider hp4 (Nat.zero_le _) (Nat.le_refl _)))
      clear ho4 hg3 hp4 hok4
      go_wp2_with fail
      (with_reducible refine HS'.out.mono ?_)
      rintro e w5 ⟨rfl, hb5⟩
      have hg5 := hg4.below hb5
      clear hb5 hg4
      go_wp2
      go_roundw
      case rel => exact ⟨j + 1, q4, by omega, by go_num, by omega, hg5⟩
      case measure => simp [intOf]; omega
    · obtain rfl : j = 4 := by omega
      have hb := hgj.2
      by_cases hbig : 100 < n
      · go_wp2_with fail
        (with_reducible refine (awake3_any _).mono ?_)
        rintro e w1 ⟨rfl, hb1⟩
        have hb1' := hb.trans (hb1.mono hb.size)
        clear hb1 hb hgj
        go_wp2
        go_ret
        exact ⟨rfl, hb1'⟩
      · go_wp2_with fail
        (with_reducible refine (HP.out _ hb).mono ?_)
        rintro e w1 ⟨rfl, hb1⟩
        have hb1' := hb.trans (hb1.mono hb.size)
        clear hb1 hb hgj
        go_wp2_with fail
        (with_reducible refine (awake3_any _).mono ?_)
        rintro e w2 ⟨rfl, hb2⟩
        have hb2' := hb1'.trans (hb2.mono hb1'.size)
        clear hb2 hb1'
        go_wp2
        go_ret
        exact ⟨rfl, hb2'⟩
end Go.Proofs.Ytbhgkifalihheaa
