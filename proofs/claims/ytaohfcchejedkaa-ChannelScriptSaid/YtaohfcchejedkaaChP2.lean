/-
  Layer 15: the program's Valid, New, Announce, Observe, History. Written by gen_chp2.py.
-/
import Derived.Test.YtaohfcchejedkaaChP1
import Derived.Test.YtaohfcchejedkaaStK
namespace Go.Proofs.Ytaohfcchejedkaa
open Go.ChangeShapes Go.WideShapes Go.ChangeAt Go.RowKit
set_option linter.unusedVariables false

theorem pvalidC_any (p : Pd) (w : World) : Calls Try.prog 10 #[aggPd p] w (Calm (.bool (pdB p)) w) := by
  obtain ⟨k, K, N⟩ := p
  have HB := Lib.hid ((Below.refl w.heap.size w).alloc (Nat.le_refl _) (.cells #[.int .i64 k, .int .i64 K, .int .i64 N] 24))
  have hno := pd_not (p := ⟨k, K, N⟩)
  have hyes := pd_of (p := ⟨k, K, N⟩)
  simp only at hno hyes
  have hc : ((k = 0 ∨ k = 2) ∧ ¬ N = 0 ∧ pdB ⟨k, K, N⟩ = false) ∨ ((k = 0 ∨ k = 2) ∧ N = 0 ∧ ¬ K = 0 ∧ pdB ⟨k, K, N⟩ = false) ∨ ((k = 0 ∨ k = 2) ∧ N = 0 ∧ K = 0 ∧ pdB ⟨k, K, N⟩ = true) ∨ ((¬ k = 0 ∧ ¬ k = 1 ∧ ¬ k = 2) ∧ pdB ⟨k, K, N⟩ = false) ∨
      (k = 1 ∧ K < 1 ∧ pdB ⟨k, K, N⟩ = false) ∨ (k = 1 ∧ 1 ≤ K ∧ N < K ∧ pdB ⟨k, K, N⟩ = false) ∨ (k = 1 ∧ 1 ≤ K ∧ K ≤ N ∧ 32 < N ∧ pdB ⟨k, K, N⟩ = false) ∨ (k = 1 ∧ 1 ≤ K ∧ K ≤ N ∧ N ≤ 32 ∧ pdB ⟨k, K, N⟩ = true) := by
    by_cases h1 : k = 0 ∨ k = 2
    · by_cases h2 : N = 0
      · by_cases h3 : K = 0
        · exact .inr (.inr (.inl ⟨h1, h2, h3, hyes (.inl ⟨h1, h3, h2⟩)⟩))
        · exact .inr (.inl ⟨h1, h2, h3, hno (by omega)⟩)
      · exact .inl ⟨h1, h2, hno (by omega)⟩
    by_cases h4 : k = 1
    · by_cases h5 : K < 1
      · exact .inr (.inr (.inr (.inr (.inl ⟨h4, h5, hno (by omega)⟩))))
      by_cases h6 : N < K
      · exact .inr (.inr (.inr (.inr (.inr (.inl ⟨h4, by omega, h6, hno (by omega)⟩)))))
      by_cases h7 : 32 < N
      · exact .inr (.inr (.inr (.inr (.inr (.inr (.inl ⟨h4, by omega, by omega, h7, hno (by omega)⟩))))))
      · exact .inr (.inr (.inr (.inr (.inr (.inr (.inr ⟨h4, by omega, by omega, by omega, hyes (.inr ⟨h4, by omega, by omega⟩)⟩))))))
    · exact .inr (.inr (.inr (.inl ⟨by omega, hno (by omega)⟩)))
  unfold Calm aggPd
  clear hno hyes
  rcases hc with ⟨h1, h2, e⟩ | ⟨h1, h2, h3, e⟩ | ⟨h1, h2, h3, e⟩ | ⟨⟨h1, h2, h3⟩, e⟩ | ⟨h1, h2, e⟩ | ⟨h1, h2, h3, e⟩ | ⟨h1, h2, h3, h4, e⟩ | ⟨h1, h2, h3, h4, e⟩
  case inr.inr.inr.inl =>
    rw [e]
    clear e
    go_enter Try.func10, Try.ntmps10
    go_wp2
    go_ret
    exact ⟨rfl, HB.out⟩
  all_goals
    rw [e]
    clear e
    try subst h2
    try subst h3
    first
    | (rcases h1 with rfl | rfl
       all_goals
        go_enter Try.func10, Try.ntmps10
        go_wp2
        go_ret
        first | exact ⟨rfl, HB.out⟩ | exact ⟨ret_bool (by simp <;> omega), HB.out⟩)
    | (subst h1
       go_enter Try.func10, Try.ntmps10
       go_wp2
       go_ret
       first | exact ⟨rfl, HB.out⟩ | exact ⟨ret_bool (by simp <;> omega), HB.out⟩)

/-! ### New -/
theorem chF_ini (b : Bool) : ∀ i, i < 39 → (#[.int .i64 1, .int .i64 1, .bool false, .bool false, .bool false, .bool false, .bool false, .bool false, .bool false, .bool false, .bool false, .bool false, .bool false, .bool false, .bool false, .bool false, .bool false, .bool false, .bool false, .bool false, .bool false, .bool false, .bool false, .bool false, .bool false, .bool false, .bool false, .bool false, .bool false, .bool false, .bool false, .bool false, .bool false, .bool false, .int .i64 0, .int .i64 0, .bool b, .bool false, .bool false] : Array Value)[i]? = some (chF (Ch.new ⟨if b = true then 2 else 0, 0, 0⟩) (fun x => decide (x < 0)) i) := by
  intro i hi
  cases b <;> exact match i, hi with
  | 0, _ => rfl
  | 1, _ => rfl
  | 2, _ => rfl
  | 3, _ => rfl
  | 4, _ => rfl
  | 5, _ => rfl
  | 6, _ => rfl
  | 7, _ => rfl
  | 8, _ => rfl
  | 9, _ => rfl
  | 10, _ => rfl
  | 11, _ => rfl
  | 12, _ => rfl
  | 13, _ => rfl
  | 14, _ => rfl
  | 15, _ => rfl
  | 16, _ => rfl
  | 17, _ => rfl
  | 18, _ => rfl
  | 19, _ => rfl
  | 20, _ => rfl
  | 21, _ => rfl
  | 22, _ => rfl
  | 23, _ => rfl
  | 24, _ => rfl
  | 25, _ => rfl
  | 26, _ => rfl
  | 27, _ => rfl
  | 28, _ => rfl
  | 29, _ => rfl
  | 30, _ => rfl
  | 31, _ => rfl
  | 32, _ => rfl
  | 33, _ => rfl
  | 34, _ => rfl
  | 35, _ => rfl
  | 36, _ => rfl
  | 37, _ => rfl
  | 38, _ => rfl
  | n + 39, h => absurd h (by omega)
theorem chF_more {p : Pd} {j i : Nat} (hj : j < 32) : updV (chF (Ch.new p) fun x => decide (x < j)) (2 + j) (.bool true) i = chF (Ch.new p) (fun x => decide (x < j + 1)) i := by
  unfold updV
  by_cases e : i = 2 + j
  · subst e
    rw [if_pos rfl, chF_st _ _ hj]; simp
  · rw [if_neg e]
    unfold chF
    repeat' split
    all_goals first | rfl | (congr 1; apply decide_eq_decide.2; omega)
theorem chF_full {p : Pd} {i : Nat} (hi : i < 39) : chF (Ch.new p) (fun x => decide (x < 32)) i = chF (Ch.new p) (fun _ => true) i := by
  unfold chF
  repeat' split
  all_goals first | rfl | (congr 1; apply decide_eq_true; omega)
theorem chF_ini2 {K N : Int} : ∀ i, i < 39 → (#[.int .i64 N, .int .i64 K, .bool false, .bool false, .bool false, .bool false, .bool false, .bool false, .bool false, .bool false, .bool false, .bool false, .bool false, .bool false, .bool false, .bool false, .bool false, .bool false, .bool false, .bool false, .bool false, .bool false, .bool false, .bool false, .bool false, .bool false, .bool false, .bool false, .bool false, .bool false, .bool false, .bool false, .bool false, .bool false, .int .i64 0, .int .i64 0, .bool false, .bool false, .bool false] : Array Value)[i]? = some (chF (Ch.new ⟨1, K, N⟩) (fun x => decide (x < 0)) i) := by
  intro i hi
  exact match i, hi with
  | 0, _ => rfl
  | 1, _ => rfl
  | 2, _ => rfl
  | 3, _ => rfl
  | 4, _ => rfl
  | 5, _ => rfl
  | 6, _ => rfl
  | 7, _ => rfl
  | 8, _ => rfl
  | 9, _ => rfl
  | 10, _ => rfl
  | 11, _ => rfl
  | 12, _ => rfl
  | 13, _ => rfl
  | 14, _ => rfl
  | 15, _ => rfl
  | 16, _ => rfl
  | 17, _ => rfl
  | 18, _ => rfl
  | 19, _ => rfl
  | 20, _ => rfl
  | 21, _ => rfl
  | 22, _ => rfl
  | 23, _ => rfl
  | 24, _ => rfl
  | 25, _ => rfl
  | 26, _ => rfl
  | 27, _ => rfl
  | 28, _ => rfl
  | 29, _ => rfl
  | 30, _ => rfl
  | 31, _ => rfl
  | 32, _ => rfl
  | 33, _ => rfl
  | 34, _ => rfl
  | 35, _ => rfl
  | 36, _ => rfl
  | 37, _ => rfl
  | 38, _ => rfl
  | n + 39, h => absurd h (by omega)
set_option maxRecDepth 100000 in
set_option maxHeartbeats 8000000 in
theorem pnew_any {p : Pd} (hp : pdB p = true) {base : Nat} : Acts 9 #[aggPd p] base Emp (fun R : Nat => .tuple #[.pointer (some ⟨R, 0, none⟩), .int .i64 0]) fun R => ChP R (Ch.new p) := by
  intro T w hT hb hs
  have HV := pvalidC_any p
  rw [hp] at HV
  have hok := ChOk.new hp
  have hcs := pd_cases hp
  obtain ⟨k, K, N⟩ := p
  unfold Calm aggPd at *
  simp only at HV hcs ⊢
  have HV := Lib.hid HV
  have HB := Lib.hid (fun (W : World) (h : Below (w.alloc (.cells #[.int .i64 k, .int .i64 K, .int .i64 N] 24)).heap.size (w.alloc (.cells #[.int .i64 k, .int .i64 K, .int .i64 N] 24)) W) =>
    And.intro ((Whole.fresh w 24 #[.int .i64 k, .int .i64 K, .int .i64 N]).later h) (((Below.refl w.heap.size w).alloc (Nat.le_refl _) _).trans (h.mono (by simp))))
  have HOK := Lib.hid hok
  clear hok hp
  go_enter Try.func9, Try.ntmps9
  go_wp2_with fail
  (with_reducible refine (HV.out _).mono ?_); rintro e w1 ⟨rfl, hb1⟩
  obtain ⟨hw, hbl⟩ := HB.out w1 hb1
  have HSZ := Lib.hid hbl.size
  have HF := Lib.hid (fun (W : World) (hB : Blk W w1.heap.size 54 39 (chF (Ch.new ⟨k, K, N⟩) fun _ => true)) (hb : Below w.heap.size w W) => show ∃ i : Nat, Ending.returned (.tuple #[.pointer (some ⟨w1.heap.size, 0, none⟩), .int .i64 0]) = .returned (.tuple #[.pointer (some ⟨i, 0, none⟩), .int .i64 0]) ∧ (∃ T', ChP i (Ch.new ⟨k, K, N⟩) T' W ∧ ∀ j, T' j → T j ∨ w.heap.size ≤ j) ∧ Chg T w W from
    ⟨w1.heap.size, rfl, ⟨fun j => j = w1.heap.size, ⟨fun j => Iff.rfl, HOK.out, _, hB, RingB.new⟩, fun j hj => .inr (by rw [hj]; exact HSZ.out)⟩, Chg.of_below hb⟩)
  have d0 := hw.read 0
  have d1 := hw.read 1
  have d2 := hw.read 2
  simp at d0 d1 d2
  have hws := hw.size_lt
  rcases hcs with ⟨hk, rfl, rfl⟩ | ⟨rfl, ⟨n1, n2⟩, k1, k2⟩
  · rcases hk with rfl | rfl
    · have HBK0 := Lib.hid ((⟨_, Whole.fresh w1 54 #[.int .i64 1, .int .i64 1, .bool false, .bool false, .bool false, .bool false, .bool false, .bool false, .bool false, .bool false, .bool false, .bool false, .bool false, .bool false, .bool false, .bool false, .bool false, .bool false, .bool false, .bool false, .bool false, .bool false, .bool false, .bool false, .bool false, .bool false, .bool false, .bool false, .bool false, .bool false, .bool false, .bool false, .bool false, .bool false, .int .i64 0, .int .i64 0, .bool false, .bool false, .bool false], rfl, chF_ini false⟩ : Blk _ w1.heap.size 54 39 _))
      have HBL0 := Lib.hid (hbl.alloc HSZ.out (.cells #[.int .i64 1, .int .i64 1, .bool false, .bool false, .bool false, .bool false, .bool false, .bool false, .bool false, .bool false, .bool false, .bool false, .bool false, .bool false, .bool false, .bool false, .bool false, .bool false, .bool false, .bool false, .bool false, .bool false, .bool false, .bool false, .bool false, .bool false, .bool false, .bool false, .bool false, .bool false, .bool false, .bool false, .bool false, .bool false, .int .i64 0, .int .i64 0, .bool false, .bool false, .bool false] 54))
      clear hw hbl hb1 HB HV d1 d2
      go_wp2_with fail
      go_loopw [5, 27] (fun s5 s27 wr => ∃ j : Nat, j ≤ 32 ∧ s27 = .int .i64 j ∧ Hid (Blk wr w1.heap.size 54 39 (chF (Ch.new ⟨0, 0, 0⟩) fun x => decide (x < j))) ∧ Hid (Below w.heap.size w wr)) (fun _ s27 _ => 32 - (intOf s27).toNat)
      case atStart => exact ⟨0, by omega, rfl, HBK0, HBL0⟩
      case round =>
        obtain ⟨j, hj, rfl, HBK, HBL⟩ := hrel
        by_cases hlt : j < 32
        · have hlt' : (j : Int) < 32 := by omega
          have hj0 : (0 : Int) ≤ j := by omega
          have c9 := HBK.out.cell (i := 2 + j) (by omega)
          rw [chF_st _ _ hlt] at c9
          have z9 := HBK.out.free (2 + j)
          have HBK2 := Lib.hid ((HBK.out.set_ (i := 2 + j) (by omega) (.bool true)).same (f' := chF (Ch.new ⟨0, 0, 0⟩) fun x => decide (x < j + 1)) (fun i hi => chF_more hlt))
          have HBL2 := Lib.hid (HBL.out.setCell (p := ⟨w1.heap.size, 2 + j, none⟩) HSZ.out (.bool true))
          clear HBK HBL
          go_wp2
          go_roundw
          case rel => exact ⟨j + 1, by omega, by go_num, HBK2, HBL2⟩
          case measure => simp [intOf]; omega
        · obtain rfl : j = 32 := by omega
          have HFIN := Lib.hid (HF.out wr (HBK.out.same (f' := chF (Ch.new ⟨0, 0, 0⟩) fun _ => true) (fun i hi => chF_full hi)) HBL.out)
          clear HBK HBL HF
          go_wp2
          go_ret2
          exact HFIN.out
    · have HBK0 := Lib.hid ((⟨_, Whole.fresh w1 54 #[.int .i64 1, .int .i64 1, .bool false, .bool false, .bool false, .bool false, .bool false, .bool false, .bool false, .bool false, .bool false, .bool false, .bool false, .bool false, .bool false, .bool false, .bool false, .bool false, .bool false, .bool false, .bool false, .bool false, .bool false, .bool false, .bool false, .bool false, .bool false, .bool false, .bool false, .bool false, .bool false, .bool false, .bool false, .bool false, .int .i64 0, .int .i64 0, .bool true, .bool false, .bool false], rfl, chF_ini true⟩ : Blk _ w1.heap.size 54 39 _))
      have HBL0 := Lib.hid (hbl.alloc HSZ.out (.cells #[.int .i64 1, .int .i64 1, .bool false, .bool false, .bool false, .bool false, .bool false, .bool false, .bool false, .bool false, .bool false, .bool false, .bool false, .bool false, .bool false, .bool false, .bool false, .bool false, .bool false, .bool false, .bool false, .bool false, .bool false, .bool false, .bool false, .bool false, .bool false, .bool false, .bool false, .bool false, .bool false, .bool false, .bool false, .bool false, .int .i64 0, .int .i64 0, .bool true, .bool false, .bool false] 54))
      clear hw hbl hb1 HB HV d1 d2
      go_wp2_with fail
      go_loopw [5, 27] (fun s5 s27 wr => ∃ j : Nat, j ≤ 32 ∧ s27 = .int .i64 j ∧ Hid (Blk wr w1.heap.size 54 39 (chF (Ch.new ⟨2, 0, 0⟩) fun x => decide (x < j))) ∧ Hid (Below w.heap.size w wr)) (fun _ s27 _ => 32 - (intOf s27).toNat)
      case atStart => exact ⟨0, by omega, rfl, HBK0, HBL0⟩
      case round =>
        obtain ⟨j, hj, rfl, HBK, HBL⟩ := hrel
        by_cases hlt : j < 32
        · have hlt' : (j : Int) < 32 := by omega
          have hj0 : (0 : Int) ≤ j := by omega
          have c9 := HBK.out.cell (i := 2 + j) (by omega)
          rw [chF_st _ _ hlt] at c9
          have z9 := HBK.out.free (2 + j)
          have HBK2 := Lib.hid ((HBK.out.set_ (i := 2 + j) (by omega) (.bool true)).same (f' := chF (Ch.new ⟨2, 0, 0⟩) fun x => decide (x < j + 1)) (fun i hi => chF_more hlt))
          have HBL2 := Lib.hid (HBL.out.setCell (p := ⟨w1.heap.size, 2 + j, none⟩) HSZ.out (.bool true))
          clear HBK HBL
          go_wp2
          go_roundw
          case rel => exact ⟨j + 1, by omega, by go_num, HBK2, HBL2⟩
          case measure => simp [intOf]; omega
        · obtain rfl : j = 32 := by omega
          have HFIN := Lib.hid (HF.out wr (HBK.out.same (f' := chF (Ch.new ⟨2, 0, 0⟩) fun _ => true) (fun i hi => chF_full hi)) HBL.out)
          clear HBK HBL HF
          go_wp2
          go_ret2
          exact HFIN.out
  · have HBK0 := Lib.hid (fun (W : World) (e : W.heap[w1.heap.size]? = _) => Blk.carry (w' := W) (⟨_, Whole.fresh w1 54 #[.int .i64 N, .int .i64 K, .bool false, .bool false, .bool false, .bool false, .bool false, .bool false, .bool false, .bool false, .bool false, .bool false, .bool false, .bool false, .bool false, .bool false, .bool false, .bool false, .bool false, .bool false, .bool false, .bool false, .bool false, .bool false, .bool false, .bool false, .bool false, .bool false, .bool false, .bool false, .bool false, .bool false, .bool false, .bool false, .int .i64 0, .int .i64 0, .bool false, .bool false, .bool false], rfl, chF_ini2⟩ : Blk _ w1.heap.size 54 39 _) e)
    have HBL0 := Lib.hid (hbl.alloc HSZ.out (.cells #[.int .i64 N, .int .i64 K, .bool false, .bool false, .bool false, .bool false, .bool false, .bool false, .bool false, .bool false, .bool false, .bool false, .bool false, .bool false, .bool false, .bool false, .bool false, .bool false, .bool false, .bool false, .bool false, .bool false, .bool false, .bool false, .bool false, .bool false, .bool false, .bool false, .bool false, .bool false, .bool false, .bool false, .bool false, .bool false, .int .i64 0, .int .i64 0, .bool false, .bool false, .bool false] 54)).drew
    have hne : ¬ w.heap.size = w1.heap.size := by omega
    clear hw hbl hb1 HB HV
    go_wp2_with fail
    go_region
    go_wp2_with fail
    go_loopw [5, 27] (fun s5 s27 wr => ∃ j : Nat, j ≤ 32 ∧ s27 = .int .i64 j ∧ Hid (Blk wr w1.heap.size 54 39 (chF (Ch.new ⟨1, K, N⟩) fun x => decide (x < j))) ∧ Hid (Below w.heap.size w wr)) (fun _ s27 _ => 32 - (intOf s27).toNat)
    case atStart => exact ⟨0, by omega, rfl, Lib.hid (HBK0.out _ rfl), HBL0⟩
    case round =>
      obtain ⟨j, hj, rfl, HBK, HBL⟩ := hrel
      by_cases hlt : j < 32
      · have hlt' : (j : Int) < 32 := by omega
        have hj0 : (0 : Int) ≤ j := by omega
        have c9 := HBK.out.cell (i := 2 + j) (by omega)
        rw [chF_st _ _ hlt] at c9
        have z9 := HBK.out.free (2 + j)
        have HBK2 := Lib.hid ((HBK.out.set_ (i := 2 + j) (by omega) (.bool true)).same (f' := chF (Ch.new ⟨1, K, N⟩) fun x => decide (x < j + 1)) (fun i hi => chF_more hlt))
        have HBL2 := Lib.hid (HBL.out.setCell (p := ⟨w1.heap.size, 2 + j, none⟩) HSZ.out (.bool true))
        clear HBK HBL
        go_wp2
        go_roundw
        case rel => exact ⟨j + 1, by omega, by go_num, HBK2, HBL2⟩
        case measure => simp [intOf]; omega
      · obtain rfl : j = 32 := by omega
        have HFIN := Lib.hid (HF.out wr (HBK.out.same (f' := chF (Ch.new ⟨1, K, N⟩) fun _ => true) (fun i hi => chF_full hi)) HBL.out)
        clear HBK HBL HF
        go_wp2
        go_ret2
        exact HFIN.out

theorem pnew_no {p : Pd} (hp : pdB p = false) (w : World) : Calls Try.prog 9 #[aggPd p] w (Calm (.tuple #[.pointer none, .int .i64 1]) w) := by
  have HV := pvalidC_any p
  rw [hp] at HV
  obtain ⟨k, K, N⟩ := p
  unfold Calm aggPd at *
  simp only at HV ⊢
  have HV := Lib.hid HV
  have HB := Lib.hid ((Below.refl w.heap.size w).alloc (Nat.le_refl _) (.cells #[.int .i64 k, .int .i64 K, .int .i64 N] 24))
  clear hp
  go_enter Try.func9, Try.ntmps9
  go_wp2_with fail
  (with_reducible refine (HV.out _).mono ?_); rintro e w1 ⟨rfl, hb1⟩
  have HF := Lib.hid (HB.out.trans (hb1.mono (by simp)))
  clear hb1
  go_wp2
  go_ret2
  exact ⟨rfl, HF.out⟩
end Go.Proofs.Ytaohfcchejedkaa

