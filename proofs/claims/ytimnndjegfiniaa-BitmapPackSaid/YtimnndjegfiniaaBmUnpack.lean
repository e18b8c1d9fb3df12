/-
  Layer 6: contracts of Unpack and of the reference's Unpack. Every string; no condition.
-/
import Derived.Test.YtimnndjegfiniaaBmPkPlain
import Derived.Test.YtimnndjegfiniaaBmLaws
import Derived.BigRegion
import Derived.Deep.DrawnRows
namespace Go.Proofs.Ytimnndjegfiniaa
open Go.ChangeShapes Go.WideShapes Go.ChangeAt Go.RowKit
set_option linter.unusedVariables false
attribute [local go_sem ↓] Go.wp_at_zero Go.wp_at_succ

theorem Two.drew {w w1 : World} {t : TypeId} {a r : Array Value} (h : Two w w1 t a r) : Two w w1.drew t a r := ⟨h.1, h.2.1, h.2.2.drew⟩
theorem byI_two (s : ByteArray) (k : Nat) (g1 : 0 ≤ 2 + (k : Int)) (g2 : 2 + (k : Int) < s.size) : ((s[(2 + (k : Int)).toNat]'(by omega)).toNat : Int) = byI s (2 + k) := by
  have et : (2 + (k : Int)).toNat = 2 + k := by omega
  simp only [et]; exact byI_get s (2 + k) (by omega)
/-- What Unpack answers. -/
def UpAns (s : ByteArray) (w : World) (e : Ending) (w' : World) : Prop := e = .returned (.tuple #[.agg #[.int .i64 (upB s), .int .u64 (upX s)], .int .i64 (upE s)]) ∧ Below w.heap.size w w'
theorem index_is (s : ByteArray) (j : Nat) (h : j < s.size) (w : World) : (Instr.index 9 (.string s) (.int .i64 (j : Int))).run Try.prog w = .ok (.int .u8 (byI s j)) w := by
  rw [run_index_string w _ s .i64 (j : Int) Try.underlying9, dif_pos (by omega)]
  have := byI_get s j h
  simp only [Int.toNat_natCast, this]
theorem unpack_less (s : ByteArray) (h : s.size < 10) (w : World) : Calls Try.prog 17 #[.string s] w (UpAns s w) := by
  obtain ⟨e1, e2, e3⟩ := up_less h
  unfold UpAns
  rw [e1, e2, e3]
  have h' : (s.size : Int) < 10 := by omega
  clear e1 e2 e3 h
  go_enter Try.func17, Try.ntmps17
  go_wp2
  exact bodyPost_ret (v := .tuple #[.agg #[.int .i64 0, .int .u64 0], .int .i64 9]) (by simp [results, Try.results17, go_sem]) rfl ⟨rfl, (Below.refl _ _).alloc (Nat.le_refl _) _⟩
theorem unpack_more (s : ByteArray) (h : 10 < s.size) (w : World) : Calls Try.prog 17 #[.string s] w (UpAns s w) := by
  obtain ⟨e1, e2, e3⟩ := up_more h
  unfold UpAns
  rw [e1, e2, e3]
  have h' : (10 : Int) < s.size := by omega
  have h2 : ¬ (s.size : Int) < 10 := by omega
  clear e1 e2 e3 h
  go_enter Try.func17, Try.ntmps17
  go_wp2
  exact bodyPost_ret (v := .tuple #[.agg #[.int .i64 0, .int .u64 0], .int .i64 11]) (by simp [results, Try.results17, go_sem]) rfl ⟨rfl, (Below.refl _ _).alloc (Nat.le_refl _) _⟩
set_option maxHeartbeats 2000000 in
theorem unpack_ok (s : ByteArray) (h : s.size = 10) (w : World) : Calls Try.prog 17 #[.string s] w (UpAns s w) := by
  obtain ⟨e1, e2, e3⟩ := up_yes h
  unfold UpAns
  rw [e1, e2, e3]
  have h1 : ¬ (10 : Int) < s.size := by omega
  have h2 : ¬ (s.size : Int) < 10 := by omega
  have i0 := fun w => index_is s 0 (by omega) w
  have i1 := fun w => index_is s 1 (by omega) w
  obtain ⟨y0, y1⟩ := byI_bd s 0
  obtain ⟨z0, z1⟩ := byI_bd s 1
  have ho := base_or s
  have HI := Lib.hid (fun k hk w => index_is s k (by omega : k < s.size) w)
  have HS := Lib.hid h
  generalize byI s 0 = p at *
  generalize byI s 1 = q at *
  clear e1 e2 e3 h
  simp at i0 i1
  go_enter Try.func17, Try.ntmps17
  go_wp2
  go_region
  go_wp2_with fail
  have H0 := Lib.hid (Two.first w 32 #[.int .i64 0, .int .u64 0] #[.int .i64 (p * 256 + q), .int .u64 0]).drew
  go_loopw [5] (fun s5 wr => ∃ k S : Nat, k ≤ 8 ∧ s5 = .int .i64 S ∧ Hid (S = 8 * k) ∧ Hid (Two w wr 32 #[.int .i64 0, .int .u64 0] #[.int .i64 (p * 256 + q), .int .u64 (sumX s k)])) (fun s5 _ => 64 - (intOf s5).toNat)
  case atStart => exact ⟨0, 0, by omega, rfl, Lib.hid rfl, H0⟩
  case round =>
    obtain ⟨k, S, hk, rfl, hS, HT⟩ := hrel
    clear H0
    obtain ⟨c0, c1, d0, d1, z0, z1, x0, x1⟩ := HT.out.cells
    by_cases hlt : k < 8
    · have hS0 := hS.out
      have hlt' : (S : Int) < 64 := by omega
      have hS8 : (S : Int) / 8 = k := by omega
      have hw2 : IntKind.i64.wrap (2 + (k : Int)) = 2 + k := IntWalk.i64_in _ (by omega)
      have hwk : IntKind.i64.wrap (k : Int) = k := IntWalk.i64_in _ (by omega)
      have hsz := HS.out
      have g1 : (0 : Int) ≤ 2 + (k : Int) := by omega
      have g2 : 2 + (k : Int) < (s.size : Int) := by omega
      have g3 : 2 + k < s.size := by omega
      have hv2 := byI_get s (2 + k) g3
      have hv1 := byI_two s k g1 g2
      have hn := sumX_next s hlt
      have hw := sumX_wrap s hlt
      rw [← hS0] at hw hn
      obtain ⟨v0, v1⟩ := byI_bd s (2 + k)
      have HN := Lib.hid ((HT.out.res 1 (.int .u64 (sumX s (k + 1)))).drew)
      have hS' := Lib.hid (show S + 8 = 8 * (k + 1) by omega)
      generalize byI s (2 + k) = v at *
      generalize sumX s k = Y at *
      clear HT hS hS0 HS HI hsz
      go_wp2_with fail
      go_region
      all_goals
        go_wp2
        go_roundw
        case rel => exact ⟨k + 1, S + 8, by omega, by go_num, hS', HN⟩
        case measure => simp [intOf]; omega
    · obtain rfl : k = 8 := by omega
      have hS0 := hS.out
      have hge : ¬ (S : Int) < 64 := by omega
      have HF := Lib.hid ((HT.out.arg 0 (.int .i64 (p * 256 + q))).arg 1 (.int .u64 (sumX s 8))).2.2
      clear HT hS HI HS hS0 hlt
      go_wp2
      exact bodyPost_ret (v := .tuple #[.agg #[.int .i64 (p * 256 + q), .int .u64 (sumX s 8)], .int .i64 0]) (by simp [results, Try.results17, go_sem, c0, c1]) rfl ⟨rfl, HF.out⟩
theorem refUnpack_less (s : ByteArray) (h : s.size < 10) (w : World) : Calls Try.prog 18 #[.string s] w (UpAns s w) := by
  obtain ⟨e1, e2, e3⟩ := up_less h
  unfold UpAns
  rw [e1, e2, e3]
  have h' : (s.size : Int) < 10 := by omega
  clear e1 e2 e3 h
  go_enter Try.func18, Try.ntmps18
  go_wp2
  exact bodyPost_ret (v := .tuple #[.agg #[.int .i64 0, .int .u64 0], .int .i64 9]) (by simp [results, Try.results18, go_sem]) rfl ⟨rfl, (Below.refl _ _).alloc (Nat.le_refl _) _⟩
theorem refUnpack_more (s : ByteArray) (h : 10 < s.size) (w : World) : Calls Try.prog 18 #[.string s] w (UpAns s w) := by
  obtain ⟨e1, e2, e3⟩ := up_more h
  unfold UpAns
  rw [e1, e2, e3]
  have h' : (10 : Int) < s.size := by omega
  have h2 : ¬ (s.size : Int) < 10 := by omega
  clear e1 e2 e3 h
  go_enter Try.func18, Try.ntmps18
  go_wp2
  exact bodyPost_ret (v := .tuple #[.agg #[.int .i64 0, .int .u64 0], .int .i64 11]) (by simp [results, Try.results18, go_sem]) rfl ⟨rfl, (Below.refl _ _).alloc (Nat.le_refl _) _⟩
set_option maxHeartbeats 2000000 in
theorem refUnpack_ok (s : ByteArray) (h : s.size = 10) (w : World) : Calls Try.prog 18 #[.string s] w (UpAns s w) := by
  obtain ⟨e1, e2, e3⟩ := up_yes h
  unfold UpAns
  rw [e1, e2, e3, show byI s 0 * 256 + byI s 1 = 256 * byI s 0 + byI s 1 from by omega]
  have h1 : ¬ (10 : Int) < s.size := by omega
  have h2 : ¬ (s.size : Int) < 10 := by omega
  have i0 := fun w => index_is s 0 (by omega) w
  have i1 := fun w => index_is s 1 (by omega) w
  obtain ⟨y0, y1⟩ := byI_bd s 0
  obtain ⟨z0, z1⟩ := byI_bd s 1
  have HI := Lib.hid (fun k hk w => index_is s k (by omega : k < s.size) w)
  have HS := Lib.hid h
  generalize byI s 0 = p at *
  generalize byI s 1 = q at *
  clear e1 e2 e3 h
  simp at i0 i1
  go_enter Try.func18, Try.ntmps18
  go_wp2
  go_region
  go_wp2_with fail
  have H0 := Lib.hid (Two.first w 32 #[.int .i64 0, .int .u64 0] #[.int .i64 (256 * p + q), .int .u64 0]).drew
  go_loopw [5] (fun s5 wr => ∃ k : Nat, k ≤ 8 ∧ s5 = .int .i64 k ∧ Hid (Two w wr 32 #[.int .i64 0, .int .u64 0] #[.int .i64 (256 * p + q), .int .u64 (sumX s k)])) (fun s5 _ => 8 - (intOf s5).toNat)
  case atStart => exact ⟨0, by omega, rfl, H0⟩
  case round =>
    obtain ⟨k, hk, rfl, HT⟩ := hrel
    clear H0
    obtain ⟨c0, c1, d0, d1, z0, z1, x0, x1⟩ := HT.out.cells
    by_cases hlt : k < 8
    · have hlt' : (k : Int) < 8 := by omega
      have w1 : IntKind.i64.wrap (8 * (k : Int)) = 8 * k := IntWalk.i64_in _ (by omega)
      have w2 : IntKind.u64.wrap (8 * (k : Int)) = 8 * k := IntWalk.u64_in _ (by omega)
      have w3 : (8 * (k : Int)).toNat = 8 * k := by omega
      have w4 : 8 * (k : Int) ≤ 64 := by omega
      have w5 : 0 ≤ 8 * (k : Int) := by omega
      have hw2 : IntKind.i64.wrap (2 + (k : Int)) = 2 + k := IntWalk.i64_in _ (by omega)
      have hsz := HS.out
      have g1 : (0 : Int) ≤ 2 + (k : Int) := by omega
      have g2 : 2 + (k : Int) < (s.size : Int) := by omega
      have g3 : 2 + k < s.size := by omega
      have hv2 := byI_get s (2 + k) g3
      have hv1 := byI_two s k g1 g2
      have hn := sumX_next s hlt
      have hw := sumX_wrap s hlt
      obtain ⟨v0, v1⟩ := byI_bd s (2 + k)
      have HN := Lib.hid ((HT.out.res 1 (.int .u64 (sumX s (k + 1)))).drew)
      generalize byI s (2 + k) = v at *
      generalize sumX s k = Y at *
      clear HT HS HI hsz
      go_wp2_with fail
      go_region
      all_goals
        go_wp2
        go_roundw
        case rel => exact ⟨k + 1, by omega, by go_num, HN⟩
        case measure => simp [intOf]; omega
    · obtain rfl : k = 8 := by omega
      have HF := Lib.hid ((HT.out.arg 0 (.int .i64 (256 * p + q))).arg 1 (.int .u64 (sumX s 8))).2.2
      clear HT HI HS hlt
      go_wp2
      exact bodyPost_ret (v := .tuple #[.agg #[.int .i64 (256 * p + q), .int .u64 (sumX s 8)], .int .i64 0]) (by simp [results, Try.results18, go_sem, c0, c1]) rfl ⟨rfl, HF.out⟩
theorem unpack_any (s : ByteArray) (w : World) : Calls Try.prog 17 #[.string s] w (UpAns s w) := by
  rcases (by omega : s.size = 10 ∨ s.size < 10 ∨ 10 < s.size) with h | h | h
  · exact unpack_ok s h w
  · exact unpack_less s h w
  · exact unpack_more s h w
theorem refUnpack_any (s : ByteArray) (w : World) : Calls Try.prog 18 #[.string s] w (UpAns s w) := by
  rcases (by omega : s.size = 10 ∨ s.size < 10 ∨ 10 < s.size) with h | h | h
  · exact refUnpack_ok s h w
  · exact refUnpack_less s h w
  · exact refUnpack_more s h w
end Go.Proofs.Ytimnndjegfiniaa

