/-
  Layer 3: the walk of the statement about envy (package shares). Every input; no condition.
-/
import Derived.Test.YtbhgkifalihheaaShLaws3
namespace Go.Proofs.Ytbhgkifalihheaa
open Go.ChangeShapes Go.WideShapes Go.ChangeAt Go.RowKit
set_option linter.unusedVariables false

set_option maxRecDepth 100000 in
set_option maxHeartbeats 4000000 in
theorem walkEnvy (a : Option Addr) (len cap : Nat) (w : World) (he : Elems w.heap.size a len w) :
    Calls Try.prog 7 #[.slice a len cap] w fun e w' => e = .returned (.bool true) ∧ Below w.heap.size w w' := by
  have hg := Has.new (cap := cap) he
  obtain ⟨i1, hii', hy0, hy1, hy2⟩ := info_parts info_part
  clear he
  go_enter Try.func7, Try.ntmps7
  go_wp2_with (go_at_call 8; (with_reducible refine (new_any a len cap _).mono ?_); rintro e w' ⟨rfl, rfl⟩)
  have hgl := hg.1.lt
  generalize w.alloc _ = w1 at *
  refine (has_parts w.heap.size a len cap 0 4 w _ (by omega) (by omega) hg).mono ?_
  rintro e w2 ⟨m, A, c, I1, V1, q2, hm, hq2, rfl, _, hown2, hok2, hg2, ho2⟩
  clear hg
  go_wp2_with fail
  refine (has_weight w.heap.size a len cap q2 w _ hg2 (by omega)).mono ?_
  rintro e w3 ⟨x, x0, x1, rfl, hg3, ho3⟩
  have hO3 := ho2.trans ho3
  have hown3 := ownsRow_only hown2 ho3 hgl
  have hs3 := hO3.size
  have HOK2 := Lib.hid hok2
  clear hg2 ho2 ho3 hown2 hok2
  have hownA := hown3.alloc (.cells #[.int .i64 60, .int .i64 x] 39)
  go_wp2_with (at_builtin; refine wpList_append_own _ rfl (.tmp 14) (.tmp 18) 23 rfl w1.heap.size 39 i1 (.agg #[.int .i64 0, .int .i64 0]) 2 16 Try.underlying23 hii' hy0 hy1 hy2 rfl (by decide) _ m (flatP I1 V1 m) rfl hownA ⟨w3.heap.size, 0, none⟩ 1 1 [.int .i64 60, .int .i64 x] rfl rfl (cells2 _ _ _ _) (one2 _ _) (by unfold maxLen; omega) (by omega) (by simp; omega) ?_; intro v8 w8 hown8 hg8 _)
  obtain ⟨hg9, hO9, A9, c9, rfl, hp9, hval9, hfi9, hfv9⟩ := push_part hgl hm HOK2.out x0 x1 hg3 hO3 hownA hown8 hg8
  clear hownA hown8 hg8 hg3 hO3 hown3
  generalize upd I1 m 60 = I at *
  generalize upd V1 m x = V at *
  generalize hM : m + 1 = M at *
  have HVAL := Lib.hid hval9
  have HFI := Lib.hid hfi9
  have HFV := Lib.hid hfv9
  have hM1 : 1 ≤ M ∧ M ≤ 5 := by omega
  clear hM hval9 hfi9 hfv9
  refine (has_next w.heap.size a len cap (q2 + 1) 60 w _ hg9 (by decide) (by decide) (by omega)).mono ?_
  rintro e w9 ⟨z, z0, z1, rfl, hg10, ho10⟩
  have hp10 := Cells.only hp9 ho10 (.inl (by omega)) (Nat.le_refl _)
  have hs8 := ho10.size
  have hA := apportion_any z A9 M c9 I V w9 (by omega) HFI.out HFV.out (Cells.wider hp10 (Nat.zero_le _) (by omega))
  have hap : ApOk z M I V := ⟨HVAL.out, by omega, by omega⟩
  unfold AppTo apLen apErr at hA
  rw [if_pos hap, if_pos hap, if_neg (by omega)] at hA
  have HA := Lib.hid hA
  have HU := Lib.hid (unitsAt_bd V M z.toNat)
  have HSUM := Lib.hid (show sumTo (unitsAt V M z.toNat) M = z by rw [unitsAt_sum (by omega)]; omega)
  have HENV := Lib.hid (unitsAt_envy (V := V) (n := M) (fun i hi => (HVAL.out.2 i hi).2.2.1) z.toNat)
  have hb10 := hg10.2
  clear hA hap hg9 hg10 ho10 hp9 hO9
  generalize hUU : unitsAt V M z.toNat = U at *
  have HZ := Lib.hid hUU
  clear hUU
  go_wp2_with fail
  (with_reducible refine HA.out.mono ?_)
  rintro e wA ⟨A2, c2, rfl, hn2, hbA⟩
  have hbB := hb10.trans (hbA.mono hb10.size)
  have hpA := Cells.below hp10 hbA hs8
  have hub := fun i => show 0 ≤ U i ∧ U i ≤ 60 by have := HU.out i; omega
  have HUB := Lib.hid hub
  clear hub hb10 hbA hp10 HA HU
  have hMM : ((M : Int) != (M : Int)) = false := by simp
  go_wp2_with fail
  go_loopw [8, 9] (fun t i wr => ∃ k : Nat, k ≤ M ∧ i = .int .i64 k ∧ t = .int .i64 (sumTo U k) ∧ Below wA.heap.size wA wr) (fun _ i _ => M - (intOf i).toNat)
  case atStart => exact ⟨0, Nat.zero_le _, rfl, rfl, Below.refl _ _⟩
  case round =>
    obtain ⟨wo, rfl⟩ : ∃ wo : World, wo = wr := ⟨_, rfl⟩
    obtain ⟨i, hi, rfl, rfl, hB⟩ := hrel
    by_cases hlt : i < M
    · have hsb := sumTo_mono (X := U) (k := i + 1) (n := M) (by omega) (fun j hj => (HUB.out j).1)
      have hsb0 := sumTo_ge (X := U) (n := i) (fun j hj => (HUB.out j).1)
      rw [HSUM.out, sumTo_succ] at hsb
      have hui := HUB.out i
      obtain ⟨b, off, rfl, _, _, c1⟩ := Nums.at_ (Cells.below hn2 hB (Nat.le_refl _)) hlt
      go_wp2
      go_loopw [10] (fun q wr => ∃ k : Nat, k ≤ M ∧ q = .int .i64 k ∧ Below wA.heap.size wA wr) (fun q _ => M - (intOf q).toNat)
      case atStart => exact ⟨0, Nat.zero_le _, rfl, hB⟩
      case round =>
        obtain ⟨k, hk, rfl, hBk⟩ := hrel
        clear hB c1
        by_cases hltk : k < M
        · obtain ⟨b', off', e', _, _, c1⟩ := Nums.at_ (Cells.below hn2 hBk (Nat.le_refl _)) hlt
          obtain ⟨rfl, rfl⟩ : b = b' ∧ off = off' := by simpa using e'
          obtain ⟨b', off', e'', _, _, c2'⟩ := Nums.at_ (Cells.below hn2 hBk (Nat.le_refl _)) hltk
          obtain ⟨rfl, rfl⟩ : b = b' ∧ off = off' := by simpa using e''
          have hpk := Cells.below hpA hBk (by have := hn2; omega)
          obtain ⟨g, og, rfl, _, _, c3, c4⟩ := Prs.at_ hpk hlt
          obtain ⟨g', og', e3, _, _, c5, c6⟩ := Prs.at_ hpk hltk
          obtain ⟨rfl, rfl⟩ : g = g' ∧ og = og' := by simpa using e3
          have huk := HUB.out k
          have v1 := (HVAL.out.2 i hlt).2.2
          have v2 := (HVAL.out.2 k hltk).2.2
          have d1 : decide (U i < 0) = false := decide_eq_false (by omega)
          have HE := Lib.hid (HENV.out i k hlt hltk)
          clear e' e'' e3 hpk c3 c5
          by_cases hpos : 0 < U i
          · have d3 : decide ((U k + 1) * V i < U i * V k) = false := decide_eq_false (by have := HE.out hpos; omega)
            have p1 := prod_fit huk.1 (by omega) v1.1 v1.2
            have p2 : IntKind.i64.wrap (U i * V k) = U i * V k := by
              have := prod_fit (u := U i - 1) (by omega) (by omega) v2.1 v2.2
              rwa [show U i - 1 + 1 = U i by omega] at this
            have s1 : IntKind.i64.wrap (U k + 1) = U k + 1 := IntWalk.i64_in _ (by omega)
            go_wp2
            go_quiet (fail)
            clear p1 p2 s1
            go_wp2
            go_roundw
            case rel => exact ⟨k + 1, by omega, by go_num, Below_drewN hBk _⟩
            case measure => simp [intOf]; omega
          · have d2 : decide (0 < U i) = false := decide_eq_false hpos
            go_wp2
            go_quiet (fail)
            go_wp2
            go_roundw
            case rel => exact ⟨k + 1, by omega, by go_num, Below_drewN hBk _⟩
            case measure => simp [intOf]; omega
        · obtain rfl : M = k := by omega
          go_wp2
          go_roundw
          case rel => exact ⟨i + 1, by omega, by go_num, rfl, hBk⟩
          case measure => simp [intOf]; omega
    · obtain rfl : M = i := by omega
      have hfin := hbB.trans (hB.mono hbB.size)
      have hsz : (sumTo U M == z) = true := beq_iff_eq.2 HSUM.out
      clear hB hn2 hpA
      go_wp2_with fail
      (with_reducible refine (awake3_any _).mono ?_)
      rintro e w4 ⟨rfl, hb4⟩
      have hb' := hfin.trans (hb4.mono hfin.size)
      clear hfin hb4
      go_wp2
      go_ret
      exact ⟨rfl, hb'⟩
end Go.Proofs.Ytbhgkifalihheaa
