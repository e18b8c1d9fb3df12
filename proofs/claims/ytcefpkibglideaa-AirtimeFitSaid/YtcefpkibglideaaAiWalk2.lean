/-
  Layer 19: the walk of AirtimeFit. Written by gen_aiwalk.py.
-/
import Derived.Test.YtcefpkibglideaaAiHelp
import Derived.Test.YtcefpkibglideaaLenGen
namespace Go.Proofs.Ytcefpkibglideaa
open Go.ChangeShapes Go.WideShapes Go.ChangeAt Go.RowKit
set_option linter.unusedVariables false

def inL2 : List Int := [0, 1, 99, 100, 2100, 100000, 1099511627776, -1]
theorem inL2_bd {x : Int} (h : x ∈ inL2) : -9223372036854775808 ≤ x ∧ x ≤ 9223372036854775807 := by
  simp only [inL2, List.mem_cons, List.not_mem_nil, or_false] at h; omega
set_option maxRecDepth 100000 in
set_option maxHeartbeats 8000000 in
theorem walkFit19 (A : Option Addr) (len cap : Nat) (k o b : Int) (l2 : -9223372036854775808 ≤ b) (u2 : b ≤ 9223372036854775807) (w : World) (he : Elems w.heap.size A len w) :
    Calls Try.prog 4 #[.slice A len cap, .agg #[.int .i64 k, .int .i64 o], .int .i64 b] w (Calm (.bool true) w) := by
  have HT := Lib.hid (fun (x y : Int) (b : Int) (h : -9223372036854775808 ≤ b ∧ b ≤ 9223372036854775807) (w : World) => fits_any x y b h.1 h.2 w)
  have HAW := Lib.hid (fun w => awake19_any w)
  have HO := one_rt k o 24 w
  have hb0 : Below w.heap.size w (w.alloc (.cells #[.int .i64 k, .int .i64 o] 24)) := (Below.refl _ _).alloc (Nat.le_refl _) _
  have he2 : Elems (w.alloc (.cells #[.int .i64 k, .int .i64 o] 24)).heap.size A len (w.alloc (.cells #[.int .i64 k, .int .i64 o] 24)) := by
    have h := he.kept hb0
    refine ⟨h.1, fun i hi => ?_⟩
    obtain ⟨b, off, z, e1, e2, e3⟩ := h.2 i hi
    exact ⟨b, off, z, e1, by simp; omega, e3⟩
  have hg := Has.new (cap := cap) he2
  obtain ⟨wq, hwq⟩ : ∃ wq, w.alloc (.cells #[.int .i64 k, .int .i64 o] 24) = wq := ⟨_, rfl⟩
  rw [hwq] at HO hg
  have hsq : wq.heap.size = w.heap.size + 1 := by rw [← hwq]; simp
  have HO := Lib.hid HO
  have hg := Lib.hid hg
  have HSQ := Lib.hid hsq
  clear he he2 hb0 hsq
  unfold AiB Calm at *
  go_enter Try.func4, Try.ntmps4
  go_wp2_with fail
  (with_reducible refine (new_any A len cap _).mono ?_); rintro e w' ⟨rfl, rfl⟩
  go_wp2_with fail
  go_loopw [8] (fun i wr => ∃ j q : Nat, j ≤ 5 ∧ i = .int .i64 j ∧ q ≤ 7 * j ∧ Hid (Has wq.heap.size A len cap q wq wr)) (fun i _ => 5 - (intOf i).toNat)
  case atStart => exact ⟨0, 0, by omega, rfl, by omega, hg⟩
  case round =>
    obtain ⟨j, q, hj, rfl, hq, HJ⟩ := hrel
    clear hg
    by_cases hlt : j < 5
    · have hlt' : (j : Int) < 5 := by omega
      have HR := Lib.hid (lrate_any _ A len cap q _ _ HJ.out (by omega))
      clear HJ HO HAW
      go_wp2_with fail
      (with_reducible refine HR.out.mono ?_); rintro e w1 ⟨⟨x, y⟩, q1, _, hq1, rfl, hg1, ho1⟩
      have HN := Lib.hid (next_any _ A len cap q1 8 _ (by decide) (by decide) (by omega) (hg1.1.alloc (.cells (inL2.map (Value.int .i64)).toArray 2)))
      have H1 := Lib.hid hg1
      clear hg1 ho1 HR
      simp only [inL2, List.map_cons, List.map_nil] at HN
      go_wp2_with fail
      (with_reducible refine HN.out.mono ?_); rintro e w2 ⟨r, r0, r1, rfl, hg2, ho2⟩
      obtain ⟨m, rfl⟩ := Int.eq_ofNat_of_zero_le r0
      obtain ⟨z, hz, hc⟩ := pickN (L := inL2) rfl ho2 H1.out.1.lt (n := m) (by show m < 8; omega)
      have hm : m ≤ 7 := by omega
      have HZ := Lib.hid (HT.out x y z (inL2_bd hz))
      have H2 := Lib.hid (show Has wq.heap.size A len cap (q1 + 1) wq w2 from ⟨hg2, H1.out.2.trans (((Only.alloc _ w1 _).trans ho2).below (by have := H1.out.1.lt; omega))⟩)
      clear hg2 ho2 hz H1 HN
      go_wp2_with fail
      (with_reducible refine (HZ.out _).mono ?_); rintro e w3 ⟨rfl, hb⟩
      have HR := Lib.hid (lrate_any _ A len cap (q1 + 1) wq w3 (H2.out.below hb) (by omega))
      clear hb H2 HZ hc
      go_wp2_with fail
      (with_reducible refine HR.out.mono ?_); rintro e w4 ⟨⟨x, y⟩, q2, _, hq2, rfl, hg4, ho4⟩
      have HZ := Lib.hid (HT.out x y b ⟨l2, u2⟩)
      have H4 := Lib.hid hg4
      clear hg4 ho4 HR HT
      go_wp2_with fail
      (with_reducible refine (HZ.out _).mono ?_); rintro e w5 ⟨rfl, hb⟩
      have H5 := Lib.hid (H4.out.below hb)
      clear hb H4 HZ
      go_wp2
      go_roundw
      case rel => exact ⟨j + 1, q2, by omega, by go_num, by omega, H5⟩
      case measure => simp [intOf]; omega
    · obtain rfl : j = 5 := by omega
      have HB := Lib.hid (show Below wq.heap.size wq wr from HJ.out.2)
      obtain ⟨⟨c0, c1⟩, hz⟩ := HO.out wr HB.out
      have HF := Lib.hid hz
      clear HJ hz
      go_wp2_with fail
      (with_reducible refine (HT.out k o b ⟨l2, u2⟩ _).mono ?_); rintro e w1 ⟨rfl, hb⟩
      have HF := Lib.hid (HF.out.trans (hb.mono HF.out.size))
      obtain ⟨⟨d0, d1⟩, _⟩ := HO.out w1 (HB.out.trans (hb.mono HB.out.size))
      clear hb c0 c1
      clear d0 d1
      go_wp2_with fail
      (with_reducible refine (HAW.out _).mono ?_); rintro e w3 ⟨rfl, hb⟩
      have HF := Lib.hid (HF.out.trans (hb.mono HF.out.size))
      clear hb
      go_wp2
      go_ret
      exact ⟨rfl, HF.out⟩
end Go.Proofs.Ytcefpkibglideaa

