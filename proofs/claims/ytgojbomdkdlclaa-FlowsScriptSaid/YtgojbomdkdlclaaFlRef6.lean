/-
  Layer 10: contract of the reference's Flows.
-/
import Derived.Test.YtgojbomdkdlclaaFlRef
import Derived.Test.YtgojbomdkdlclaaFlFlows
namespace Go.Proofs.Ytgojbomdkdlclaa
open Go.ChangeShapes Go.WideShapes Go.ChangeAt Go.RowKit
set_option linter.unusedVariables false

set_option maxRecDepth 100000 in
set_option maxHeartbeats 2000000 in
theorem rflows_any {C R : Nat} {S : Nat → Prop} {t : Tb} {w : World} (h : RO C R S t w) :
    Calls Try.prog 38 #[.pointer (some ⟨R, 0, none⟩)] w (GotF (flwL t.F t.G) w) := by
  obtain ⟨h0, ⟨vS, vF, vG, h1, _⟩, _⟩ := h
  have HK := Lib.hid (fun w' (hb : Below w.heap.size w w') => (h1.below hb).cells)
  have hf := h0.few
  have hlG := Lib.hid h0.len
  have HC := Lib.hid (fun w' (hb : Below w.heap.size w w') k (hk : k < t.F.length) => (h1.below hb).flow hk)
  have HGG := Lib.hid (fun w' (hb : Below w.heap.size w w') k (hk : k < t.G.length) => (h1.below hb).gone hk)
  have HT := Lib.hid (fun k (hk : k < t.F.length) => flw_take hk h0.len)
  have HL := Lib.hid (fun k => flw_len (t.F.take k) (t.G.take k))
  have HE := Lib.hid (flw_all h0.len)
  obtain ⟨A, c, rfl⟩ := ow_shape h1.rowF
  obtain ⟨A1, c1, rfl⟩ := ow_shape h1.rowG
  clear h1
  unfold GotF
  go_enter Try.func38, Try.ntmps38
  go_wp2
  go_loopw [3, 4] (fun s3 s4 wr => ∃ (k : Nat) (A' : Option Addr) (n c' : Nat), k ≤ t.F.length ∧ s4 = .int .i64 k ∧ s3 = .slice A' n c' ∧ Hid (n = (flwL (t.F.take k) (t.G.take k)).length) ∧ Hid (wr.ownsRow w.heap.size 72 7 (.slice A' n c') n (srs csF (flwL (t.F.take k) (t.G.take k)))) ∧ Hid (Below w.heap.size w wr)) (fun s3 s4 _ => t.F.length - (intOf s4).toNat)
  case atStart => exact ⟨0, none, 0, 0, Nat.zero_le _, rfl, rfl, Lib.hid (by simp [flwL]), Lib.hid (by simpa [flwL, srs] using World.ownsRow_nil w w.heap.size 72 7), Lib.hid (Below.refl _ _)⟩
  case round =>
    obtain ⟨k, A', n, c', hk, rfl, rfl, hn, HR, HW⟩ := hrel
    obtain ⟨_, _, _, b3, b4, _⟩ := HK.out wr HW.out
    by_cases hlt : k < t.F.length
    · have hkG : k < t.G.length := by have := hlG.out; omega
      obtain ⟨g', c2, hv', _, _, z0, _⟩ := HGG.out wr HW.out k hkG
      obtain ⟨rfl, rfl⟩ : A1 = some ⟨g', 0, none⟩ ∧ c1 = c2 := by simpa using hv'
      have ht := HT.out k hlt
      have hll := HL.out k
      rw [List.length_take, ← hn.out] at hll
      have hws := HW.out.size
      obtain ⟨b, hbb⟩ : ∃ b, t.G[k] = b := ⟨_, rfl⟩
      rw [hbb] at z0 ht
      cases b
      · obtain ⟨g, c'', hv, hg1, hg2, e0, e1, e2, e3, e4, e5, e6, _⟩ := HC.out wr HW.out k hlt
        obtain ⟨rfl, rfl⟩ : A = some ⟨g, 0, none⟩ ∧ c = c'' := by simpa using hv
        simp only [Bool.false_eq_true, if_false] at ht
        obtain ⟨q, hq⟩ : ∃ q, t.F[k] = q := ⟨_, rfl⟩
        rw [hq] at ht e0 e1 e2 e3 e4 e5 e6
        obtain ⟨q0, q1, q2, q3, q4, q5, q6⟩ := q
        simp only at e0 e1 e2 e3 e4 e5 e6
        have HW2 := Lib.hid (HW.out.alloc hws (.cells #[.int .i64 q0, .int .i64 q1, .int .i64 q2, .int .i64 q3, .int .i64 q4, .int .i64 q5, .int .i64 q6] 72))
        have HR2 := Lib.hid (HR.out.alloc (.cells #[.int .i64 q0, .int .i64 q1, .int .i64 q2, .int .i64 q3, .int .i64 q4, .int .i64 q5, .int .i64 q6] 72))
        have HCL := Lib.hid (newCells wr (csF ⟨q0, q1, q2, q3, q4, q5, q6⟩) 72)
        have HT2 := Lib.hid ht
        clear HC HGG hq HR ht hbb hv hv'
        go_wp2_with (at_builtin; go_loud (refine wpList_append_one rfl (.tmp 22) (.tmp 30) 44 rfl Try.underlying44 info_flo rfl (by decide) HR2.out rfl ⟨wr.heap.size, 0, none⟩ rfl (csF_len ⟨q0, q1, q2, q3, q4, q5, q6⟩) HCL.out (csF_one _) (by omega) (by decide) (by simp; omega) ?_); intro v2 w2 he2 hg2 hb2; obtain ⟨A2, c2, rfl⟩ := ow_shape he2; have HE2 := Lib.hid he2; have HG2 := Lib.hid hg2; clear he2 hg2 hb2)
        rw [← srs_snoc, ← HT2.out] at HE2
        have HW3 := Lib.hid (below_grew HW2.out (Nat.le_refl _) HG2.out (fun k e => (World.ownsRow.lt HR2.out k e).1))
        have hn2 : Hid (n + 1 = (flwL (t.F.take (k + 1)) (t.G.take (k + 1))).length) := Lib.hid (by rw [HT2.out, List.length_append, ← hn.out]; rfl)
        go_roundw
        case rel => exact ⟨k + 1, A2, n + 1, c2, by omega, by go_num, rfl, hn2, HE2, HW3⟩
        case measure => simp [intOf]; omega
      · simp only [if_true, List.append_nil] at ht
        have hn2 : Hid (n = (flwL (t.F.take (k + 1)) (t.G.take (k + 1))).length) := Lib.hid (by rw [ht]; exact hn.out)
        rw [← ht] at HR
        clear HC HGG ht hbb hv'
        go_wp2
        go_roundw
        case rel => exact ⟨k + 1, A', n, c', by omega, by go_num, rfl, hn2, HR, HW⟩
        case measure => simp [intOf]; omega
    · obtain rfl : k = t.F.length := by omega
      have hn' := hn.out
      rw [HE.out] at hn' HR
      subst hn'
      clear hn
      go_wp2
      go_ret
      exact ⟨_, _, rfl, HR.out, HW.out⟩
end Go.Proofs.Ytgojbomdkdlclaa

