/-
  Layer 3: the walks of the statements about Apportion, the sums and envy (package shares). Every input; no condition.
-/
import Derived.Test.YtbhgkifalihheaaShLaws2
import Derived.Test.YtbhgkifalihheaaShApp2
namespace Go.Proofs.Ytbhgkifalihheaa
open Go.ChangeShapes Go.WideShapes Go.ChangeAt Go.RowKit
set_option linter.unusedVariables false

theorem apErr_bd (m : Int) (n : Nat) (I V : Nat → Int) : 0 ≤ apErr m n I V ∧ apErr m n I V ≤ 5 := by
  unfold apErr; split
  · split <;> omega
  · omega
theorem apportions_any (x : Int) (A : Option Addr) (n cap : Nat) (I V : Nat → Int) (w : World) (hn : n ≤ 9223372036854775807) (hi : Fits n I) (hv : Fits n V) (hp : Prs w 0 w.heap.size A n I V) :
    Calls Try.prog 15 #[.int .i64 x, .slice A n cap] w fun e w' => e = .returned (.bool true) ∧ Below w.heap.size w w' := by
  have h1 := Lib.hid (apportion_any x A n cap I V w hn hi hv hp)
  have h2 := Lib.hid (fun w' (hb : Below w.heap.size w w') => refApportion_any x A n cap I V w' hn hi hv (Cells.wider (Cells.below hp hb (Nat.le_refl _)) (Nat.le_refl _) hb.size))
  have hl : apLen x n I V ≤ 9223372036854775807 := by unfold apLen; split <;> omega
  unfold AppTo at h1 h2
  obtain ⟨eb0, eb1⟩ := apErr_bd x n I V
  clear hi hv hp
  generalize apLen x n I V = L at *
  generalize apErr x n I V = E at *
  generalize unitsAt V n x.toNat = X at *
  go_enter Try.func15, Try.ntmps15
  go_wp2_with fail
  (with_reducible refine h1.out.mono ?_)
  rintro e w1 ⟨A1, c1, rfl, hn1, hb1⟩
  go_wp2_with fail
  (with_reducible refine (h2.out _ hb1).mono ?_)
  rintro e w2 ⟨A2, c2, rfl, hn2, hb2⟩
  have hb2' := hb1.trans (hb2.mono hb1.size)
  have hE := Lib.hid (equalInt_any A1 A2 L c1 c2 X _ _ _ _ w2 hl (Cells.below hn1 hb2 (Nat.le_refl _)) hn2)
  clear hb1 hb2 hn1 hn2
  go_wp2_with fail
  (with_reducible refine hE.out.mono ?_)
  rintro e w5 ⟨rfl, hb5⟩
  have hb5' := hb2'.trans (hb5.mono hb2'.size)
  clear hb2' hb5
  go_wp2
  go_ret
  exact ⟨rfl, hb5'⟩
set_option maxHeartbeats 2000000 in
theorem walkApp (a : Option Addr) (len cap : Nat) (x : Int) (P : Option Addr) (n pc : Nat) (I V : Nat → Int) (w : World) (he : Elems w.heap.size a len w) (hn : n ≤ 9223372036854775807) (hi : Fits n I) (hv : Fits n V) (hp : Prs w 0 w.heap.size P n I V) :
    Calls Try.prog 5 #[.slice a len cap, .int .i64 x, .slice P n pc] w fun e w' => e = .returned (.bool true) ∧ Below w.heap.size w w' := by
  have hg := Has.new (cap := cap) he
  have HP := Lib.hid (fun w' (hb : Below w.heap.size w w') => apportions_any x P n pc I V w' hn hi hv (Cells.wider (Cells.below hp hb (Nat.le_refl _)) (Nat.le_refl _) hb.size))
  clear he hi hv hp
  go_enter Try.func5, Try.ntmps5
  go_wp2_with (go_at_call 8; (with_reducible refine (new_any a len cap _).mono ?_); rintro e w' ⟨rfl, rfl⟩)
  go_loopw [8] (fun i wr => ∃ j q : Nat, j ≤ 3 ∧ i = .int .i64 j ∧ q ≤ 100 * j ∧ Has w.heap.size a len cap q w wr) (fun i _ => 3 - (intOf i).toNat)
  case atStart => exact ⟨0, 0, by omega, rfl, by omega, hg⟩
  case round =>
    obtain ⟨j, q, hj, rfl, hq, hgj⟩ := hrel
    clear hg
    by_cases hlt : j < 3
    · go_wp2_with fail
      refine (has_next w.heap.size a len cap q 40 w _ hgj (by decide) (by decide) (by omega)).mono ?_
      rintro e w1 ⟨z, z0, z1, rfl, hg1, ho1⟩
      clear ho1 hgj
      go_wp2_with fail
      refine (has_parts w.heap.size a len cap (q + 1) 5 w _ (by omega) (by omega) hg1).mono ?_
      rintro e w2 ⟨m, A, c, I1, V1, q2, hm, hq2, rfl, hp2, _, hok2, hg2, ho2⟩
      have HS := Lib.hid (apportions_any (z - 1) A m c I1 V1 w2 (by omega) (fun i hi => by have := (hok2 i hi).1.1; have := (hok2 i hi).2; omega) (fun i hi => by have := (hok2 i hi).1.2.2; omega) (Cells.wider hp2 (Nat.zero_le _) (Nat.le_refl _)))
      clear ho2 hg1 hp2 hok2
      go_wp2_with fail
      (with_reducible refine HS.out.mono ?_)
      rintro e w3 ⟨rfl, hb3⟩
      have hg3 := hg2.below hb3
      clear hb3 hg2
      go_wp2
      go_roundw
      case rel => exact ⟨j + 1, q2, by omega, by go_num, by omega, hg3⟩
      case measure => simp [intOf]; omega
    · obtain rfl : j = 3 := by omega
      have hb := hgj.2
      by_cases hbig : 20 < n
      · go_wp2
        go_ret
        exact ⟨rfl, hb⟩
      · by_cases hbig2 : 200 < x
        · go_wp2
          go_ret
          exact ⟨rfl, hb⟩
        · go_wp2_with fail
          (with_reducible refine (HP.out _ hb).mono ?_)
          rintro e w1 ⟨rfl, hb1⟩
          have hg1 := hgj.below hb1
          clear hb1 hb hgj
          go_wp2_with fail
          refine (has_parts w.heap.size a len cap q 2 w _ (by omega) (by omega) hg1).mono ?_
          rintro e w2 ⟨m, A, c, I1, V1, q2, hm, hq2, rfl, hp2, _, hok2, hg2, ho2⟩
          have HS := Lib.hid (apportions_any 4097 A m c I1 V1 w2 (by omega) (fun i hi => by have := (hok2 i hi).1.1; have := (hok2 i hi).2; omega) (fun i hi => by have := (hok2 i hi).1.2.2; omega) (Cells.wider hp2 (Nat.zero_le _) (Nat.le_refl _)))
          clear ho2 hg1 hp2 hok2
          go_wp2_with fail
          (with_reducible refine HS.out.mono ?_)
          rintro e w3 ⟨rfl, hb3⟩
          have hb := (hg2.below hb3).2
          clear hb3 hg2
          go_wp2_with fail
          (with_reducible refine (awake3_any _).mono ?_)
          rintro e w4 ⟨rfl, hb4⟩
          have hb' := hb.trans (hb4.mono hb.size)
          clear hb hb4
          go_wp2
          go_ret
          exact ⟨rfl, hb'⟩
set_option maxHeartbeats 1000000 in
theorem sum_any (A : Option Addr) (n c : Nat) (X : Nat → Int) (L B : Nat) (w : World) (hn : n ≤ 9223372036854775807) (hs : ∀ k, k ≤ n → -9223372036854775808 ≤ sumTo X k ∧ sumTo X k ≤ 9223372036854775807) (ha : Nums w L B A n X) :
    Calls Try.prog 18 #[.slice A n c] w fun e w' => e = .returned (.int .i64 (sumTo X n)) ∧ w = w' := by
  have HS := Lib.hid hs
  clear hs
  go_enter Try.func18, Try.ntmps18
  go_wp2
  go_loop [3, 4] (fun t i => ∃ k : Nat, k ≤ n ∧ i = .int .i64 k ∧ t = .int .i64 (sumTo X k)) (fun _ i => n - (intOf i).toNat)
  case atStart => exact ⟨0, Nat.zero_le _, rfl, rfl⟩
  case round =>
    obtain ⟨k, hk, rfl, rfl⟩ := hrel
    by_cases hlt : k < n
    · obtain ⟨b, off, rfl, _, hb, c1⟩ := Nums.at_ ha hlt
      have h1 := HS.out (k + 1) (by omega)
      rw [sumTo_succ] at h1
      clear ha
      go_wp2
      go_round
      case rel => exact ⟨k + 1, by omega, by go_num, rfl⟩
      case measure => simp [intOf]; omega
    · obtain rfl : n = k := by omega
      clear ha
      go_wp2
      go_ret
      exact ⟨rfl, rfl⟩
/-- A valid list with one more part. -/
theorem push_part {B : Nat} {a : Option Addr} {len cap q m : Nat} {w0 W w1 w2 : World} {v v' : Value} {x : Int} {I V : Nat → Int} {o : Obj} (hB : B < W.heap.size) (hm : m ≤ 4) (hok : ∀ i, i < m → okPart I V i ∧ I i ≤ 3 * (i : Int) + 2) (x0 : 1 ≤ x) (x1 : x ≤ 16)
    (hg : Has B a len cap q w0 w1) (ho : Only B W w1) (hown : (w1.alloc o).ownsRow W.heap.size 39 2 v m (flatP I V m))
    (hown' : w2.ownsRow W.heap.size 39 2 v' (m + 1) (flatP I V m ++ [.int .i64 60, .int .i64 x])) (hgr : (w1.alloc o).grownBy w2 v.ownBlock) :
    Has B a len cap q w0 w2 ∧ Only B W w2 ∧ ∃ A c, v' = .slice A (m + 1) c ∧ Prs w2 W.heap.size w2.heap.size A (m + 1) (upd I m 60) (upd V m x) ∧ VParts (m + 1) (upd I m 60) (upd V m x) ∧ Fits (m + 1) (upd I m 60) ∧ Fits (m + 1) (upd V m x) := by
  have hb : Below W.heap.size w1 w2 := ((Below.refl _ _).alloc ho.size o).grown hgr (by simp; have := ho.size; omega) (own_block hown)
  have e : flatP (upd I m 60) (upd V m x) (m + 1) = flatP I V m ++ [.int .i64 60, .int .i64 x] := by
    simp only [flatP, upd_at]
    rw [flatP_congr (I' := I) (V' := V) (fun i hi => ⟨upd_ne (by omega), upd_ne (by omega)⟩)]
  obtain ⟨A, c, rfl⟩ := own_shape hown'
  rw [← e] at hown'
  refine ⟨⟨hg.1.kept (hb.mono (by omega)), hg.2.trans (hb.mono (by omega))⟩, ho.low hb (Nat.le_refl _), A, c, rfl, Prs.of_own hown', ⟨by omega, fun i hi => ?_⟩, fun i hi => ?_, fun i hi => ?_⟩
  · rcases (by omega : i = m ∨ i < m) with rfl | h
    · refine ⟨by rw [upd_at]; omega, fun h0 => ?_, by rw [upd_at]; omega, by rw [upd_at]; omega⟩
      rw [upd_at, upd_ne (by omega)]
      have := (hok (i - 1) (by omega)).2
      omega
    · obtain ⟨⟨p1, p2, p3, p4⟩, p5⟩ := hok i h
      exact ⟨by rw [upd_ne (by omega)]; exact p1, fun h0 => by rw [upd_ne (by omega), upd_ne (by omega)]; exact p2 h0, by rw [upd_ne (by omega)]; exact p3, by rw [upd_ne (by omega)]; exact p4⟩
  · rcases (by omega : i = m ∨ i < m) with rfl | h
    · rw [upd_at]; omega
    · rw [upd_ne (by omega)]; have := (hok i h).1.1; have := (hok i h).2; omega
  · rcases (by omega : i = m ∨ i < m) with rfl | h
    · rw [upd_at]; omega
    · rw [upd_ne (by omega)]; have := (hok i h).1.2.2; omega
end Go.Proofs.Ytbhgkifalihheaa
