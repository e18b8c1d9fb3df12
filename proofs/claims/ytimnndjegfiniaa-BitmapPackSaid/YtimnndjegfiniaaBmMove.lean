/-
  Layer 6: contracts of moved and Move, and of the reference's Move. Every word; no other condition.
-/
import Derived.Test.YtimnndjegfiniaaBmOps
import Derived.Deep.QuietTactic
import Derived.BigQuiet
import Derived.StillTailTactics
import Derived.LoopTactic
namespace Go.Proofs.Ytimnndjegfiniaa
open Go.ChangeShapes Go.WideShapes Go.ChangeAt Go.RowKit
set_option linter.unusedVariables false

theorem wp_region_tail {P : Program} {id : Nat} {Q : Exit → Act → World → Prop} {a : Act} {w : World} {l : List Oper} (n : Nat) (hm : P.follows .mixedOrders = true) (hB : Region.lexTailB .any l.toArray n = true)
    (h : wpStill P l.toArray w.drew (fun a' => wpList P l.toArray Q (l.drop n) a' w.drew) (l.take n) a) : (Code.region id l.toArray true).wp P Q a w := wp_region_still_tail n hm hB h
set_option maxRecDepth 100000 in
set_option maxHeartbeats 1000000 in
theorem moved_any (b x : Int) (k : Nat) (hb : isNum b = true) (hk : k ≤ 65536) (hx : Wd x) (w : World) :
    Calls Try.prog 37 #[.agg #[.int .i64 b, .int .u64 x], .int .i64 k] w fun e w' => e = .returned (.agg #[.int .i64 ((b + k) % 65536), .int .u64 (x / 2 ^ k)]) ∧ Below w.heap.size w w' := by
  obtain ⟨b0, b1⟩ := isNum_bd hb
  have HW := Lib.hid (fun w => wrapped_any (b + k) w)
  have hs : IntKind.i64.wrap (b + k) = b + k := IntWalk.i64_in _ (by omega)
  generalize (b + k) % 65536 = B at *
  rcases Nat.lt_or_ge 64 k with h | h
  · have hX := shr_min hx k
    obtain ⟨X, hX'⟩ : ∃ X, x / 2 ^ k = X := ⟨_, rfl⟩
    rw [hX'] at hX ⊢
    clear hX' hx hb
    go_enter Try.func37, Try.ntmps37
    go_wp2_with fail
    refine wp_region_tail 10 (by kernel_rfl) (by kernel_rfl) ?_
    simp only [List.take_succ_cons, List.take_zero, List.drop_succ_cons, List.drop_zero]
    repeat still_step
    still_call ((HW.out _).mono fun _ _ h => ⟨h.1, h.2.symm⟩)
    repeat still_step
    refine wpStill_nil ?_
    go_wp2
    exact bodyPost_ret (v := .agg #[.int .i64 B, .int .u64 X]) (by simp [results, Try.results37, go_sem]) rfl ⟨rfl, (((Below.refl _ _).alloc (Nat.le_refl _) _).alloc (by simp) _).drew⟩
  · obtain ⟨X, hX'⟩ : ∃ X, x / 2 ^ k = X := ⟨_, rfl⟩
    rw [hX']
    clear hx hb
    go_enter Try.func37, Try.ntmps37
    go_wp2_with fail
    refine wp_region_tail 10 (by kernel_rfl) (by kernel_rfl) ?_
    simp only [List.take_succ_cons, List.take_zero, List.drop_succ_cons, List.drop_zero]
    repeat still_step
    still_call ((HW.out _).mono fun _ _ h => ⟨h.1, h.2.symm⟩)
    repeat still_step
    refine wpStill_nil ?_
    go_wp2
    exact bodyPost_ret (v := .agg #[.int .i64 B, .int .u64 X]) (by simp [results, Try.results37, go_sem]) rfl ⟨rfl, (((Below.refl _ _).alloc (Nat.le_refl _) _).alloc (by simp) _).drew⟩
theorem shr_none (x : Int) : x / 2 ^ 0 = x := by simp
/-- What Move answers. -/
def MvAns (b x t : Int) (w : World) (e : Ending) (w' : World) : Prop := e = .returned (.tuple #[.agg #[.int .i64 (mvB b t), .int .u64 (mvX b x t)], .int .i64 (mvE b t)]) ∧ Below w.heap.size w w'
set_option maxHeartbeats 1000000 in
theorem move_any (b x t : Int) (hx : Wd x) (w : World) : Calls Try.prog 19 #[.agg #[.int .i64 b, .int .u64 x], .int .i64 t] w (MvAns b x t w) := by
  have HD := fun w => dist_any b t w
  unfold MvAns
  rcases h : both b t with _ | _
  · obtain ⟨e1, e2⟩ := ds_no h
    rw [e1, e2] at HD
    obtain ⟨e1, e2, e3⟩ := mv_bad (x := x) (mv_no (.inl h))
    rw [e1, e2, e3]
    have HD := Lib.hid HD
    clear e1 e2 e3 h
    go_enter Try.func19, Try.ntmps19
    go_wp2_with fail
    (with_reducible refine (HD.out _).mono ?_); rintro e w' ⟨rfl, rfl⟩
    go_wp2
    exact bodyPost_ret (v := .tuple #[.agg #[.int .i64 0, .int .u64 0], .int .i64 1]) (by simp [results, Try.results19, go_sem]) rfl ⟨rfl, ((Below.refl _ _).alloc (Nat.le_refl _) _).alloc (by simp) _⟩
  · obtain ⟨e1, e2⟩ := ds_yes h
    rw [e1, e2, dOf_is] at HD
    rcases Nat.lt_or_ge 32767 (dOf b t) with hd | hd
    · obtain ⟨e1, e2, e3⟩ := mv_bad (x := x) (mv_no (.inr hd))
      rw [e1, e2, e3]
      have HD := Lib.hid HD
      clear e1 e2 e3 h
      generalize dOf b t = k at *
      go_enter Try.func19, Try.ntmps19
      go_wp2_with fail
      (with_reducible refine (HD.out _).mono ?_); rintro e w' ⟨rfl, rfl⟩
      go_wp2
      exact bodyPost_ret (v := .tuple #[.agg #[.int .i64 0, .int .u64 0], .int .i64 1]) (by simp [results, Try.results19, go_sem]) rfl ⟨rfl, ((Below.refl _ _).alloc (Nat.le_refl _) _).alloc (by simp) _⟩
    · obtain ⟨e1, e2, e3⟩ := mv_ok (x := x) (mv_yes h hd)
      rw [e1, e2, e3]
      have HM := fun w => moved_any b x (dOf b t) (both_parts h).1 (by omega) hx w
      rw [mv_base h] at HM
      have HM := Lib.hid HM
      have HD := Lib.hid HD
      clear e1 e2 e3 h
      generalize dOf b t = k at *
      obtain ⟨X, hX'⟩ : ∃ X, x / 2 ^ k = X := ⟨_, rfl⟩
      rw [hX'] at HM ⊢
      clear hX' hx
      go_enter Try.func19, Try.ntmps19
      go_wp2_with fail
      (with_reducible refine (HD.out _).mono ?_); rintro e w' ⟨rfl, rfl⟩
      go_wp2_with fail
      (with_reducible refine (HM.out _).mono ?_); rintro e w1 ⟨rfl, hb1⟩
      have H1 := Two.start hb1
      obtain ⟨c0, c1, d0, d1, z0, z1, y0, y1⟩ := H1.cells
      have HF := Lib.hid ((H1.res 0 (.int .i64 t)).res 1 (.int .u64 X)).2.2
      clear hb1 H1
      go_wp2
      exact bodyPost_ret (v := .tuple #[.agg #[.int .i64 t, .int .u64 X], .int .i64 0]) (by simp [results, Try.results19, go_sem, d0, d1]) rfl ⟨rfl, HF.out⟩
set_option maxRecDepth 100000 in
set_option maxHeartbeats 2000000 in
theorem refMove_any (b x t : Int) (hx : Wd x) (w : World) : Calls Try.prog 36 #[.agg #[.int .i64 b, .int .u64 x], .int .i64 t] w (MvAns b x t w) := by
  have HD := fun w => refDist_any b t w
  unfold MvAns
  rcases h : both b t with _ | _
  · obtain ⟨e1, e2⟩ := ds_no h
    rw [e1, e2] at HD
    obtain ⟨e1, e2, e3⟩ := mv_bad (x := x) (mv_no (.inl h))
    rw [e1, e2, e3]
    have HD := Lib.hid HD
    clear e1 e2 e3 h
    go_enter Try.func36, Try.ntmps36
    go_wp2_with fail
    (with_reducible refine (HD.out _).mono ?_); rintro e w' ⟨rfl, rfl⟩
    go_wp2
    exact bodyPost_ret (v := .tuple #[.agg #[.int .i64 0, .int .u64 0], .int .i64 1]) (by simp [results, Try.results36, go_sem]) rfl ⟨rfl, ((Below.refl _ _).alloc (Nat.le_refl _) _).alloc (by simp) _⟩
  · obtain ⟨e1, e2⟩ := ds_yes h
    rw [e1, e2, dOf_is] at HD
    rcases Nat.lt_or_ge 32767 (dOf b t) with hd | hd
    · obtain ⟨e1, e2, e3⟩ := mv_bad (x := x) (mv_no (.inr hd))
      rw [e1, e2, e3]
      have HD := Lib.hid HD
      clear e1 e2 e3 h
      generalize dOf b t = k at *
      have hd' : (32768 : Int) ≤ (k : Int) := by omega
      clear hd
      go_enter Try.func36, Try.ntmps36
      go_wp2_with fail
      (with_reducible refine (HD.out _).mono ?_); rintro e w' ⟨rfl, rfl⟩
      go_wp2
      exact bodyPost_ret (v := .tuple #[.agg #[.int .i64 0, .int .u64 0], .int .i64 1]) (by simp [results, Try.results36, go_sem]) rfl ⟨rfl, ((Below.refl _ _).alloc (Nat.le_refl _) _).alloc (by simp) _⟩
    · obtain ⟨e1, e2, e3⟩ := mv_ok (x := x) (mv_yes h hd)
      rw [e1, e2, e3]
      clear e1 e2 e3 h
      generalize dOf b t = n at *
      obtain ⟨d, hdn⟩ : ∃ d : Int, (n : Int) = d := ⟨_, rfl⟩
      rw [hdn] at HD
      have hd' : d < 32768 := by omega
      have hdn := Lib.hid hdn
      have HD := Lib.hid HD
      clear hd
      have H0 := Lib.hid (Two.first w 32 #[.int .i64 b, .int .u64 x] #[.int .i64 0, .int .u64 0])
      have HX := Lib.hid hx
      clear hx
      go_enter Try.func36, Try.ntmps36
      go_wp2_with fail
      (with_reducible refine (HD.out _).mono ?_); rintro e w' ⟨rfl, rfl⟩
      go_wp2
      go_loopw [8] (fun s wr => ∃ k : Nat, k ≤ n ∧ s = .int .i64 k ∧ Hid (Two w wr 32 #[.int .i64 b, .int .u64 (x / 2 ^ k)] #[.int .i64 0, .int .u64 0])) (fun s _ => n - (intOf s).toNat)
      case atStart => exact ⟨0, Nat.zero_le _, rfl, (by rw [shr_none]; exact H0.out)⟩
      case round =>
        obtain ⟨k, hk, rfl, HT⟩ := hrel
        obtain ⟨c0, c1, d0, d1, z0, z1, y0, y1⟩ := HT.out.cells
        obtain ⟨X0, X1⟩ := shr_wd HX.out k
        have hn := Lib.hid (shr_next x k)
        have hdn' := hdn.out
        rcases (by omega : k = n ∨ (k < n ∧ x / 2 ^ k = 0) ∨ (k < n ∧ 0 < x / 2 ^ k)) with h | ⟨h, h1⟩ | ⟨h, h1⟩
        · subst h
          subst hdn'
          have HF := Lib.hid (((HT.out.arg 0 (.int .i64 t)).res 0 (.int .i64 t)).res 1 (.int .u64 (x / 2 ^ k))).2.2
          clear HT hn H0
          go_wp2
          exact bodyPost_ret (v := .tuple #[.agg #[.int .i64 t, .int .u64 (x / 2 ^ k)], .int .i64 0]) (by simp [results, Try.results36, go_sem, d0, d1]) rfl ⟨rfl, HF.out⟩
        · have hz : x / 2 ^ n = 0 := by
            obtain ⟨d, rfl⟩ : ∃ d, n = k + d := ⟨n - k, by omega⟩
            rw [← shr_add, h1]; simp
          have hz := Lib.hid hz
          have h' : (k : Int) < d := by omega
          clear hdn' hdn
          rw [h1] at c1 HT
          have HF := Lib.hid (((HT.out.arg 0 (.int .i64 t)).res 0 (.int .i64 t)).res 1 (.int .u64 0)).2.2
          clear HT hn H0 X0 X1 h1
          go_wp2
          exact bodyPost_ret (v := .tuple #[.agg #[.int .i64 t, .int .u64 0], .int .i64 0]) (by simp [results, Try.results36, go_sem, d0, d1]) rfl ⟨by rw [hz.out], HF.out⟩
        · have HT' := Lib.hid (HT.out.arg 1 (.int .u64 (x / 2 ^ (k + 1))))
          have h' : (k : Int) < d := by omega
          clear hdn' hdn
          generalize x / 2 ^ k = X at *
          rw [← hn.out] at HT'
          clear HT H0
          go_wp2
          go_roundw
          case rel => exact ⟨k + 1, by omega, by go_num, by rw [← hn.out]; exact HT'.out⟩
          case measure => simp [intOf]; omega
end Go.Proofs.Ytimnndjegfiniaa

