/-
  Layer 10: contracts of the reference's There, Total, Find, goodCaps, New.
-/
import Derived.Test.YtgojbomdkdlclaaFlObj2
import Derived.Test.YtgojbomdkdlclaaFlRead
import Derived.Test.YtgojbomdkdlclaaFlProg2
import Derived.Test.YtgojbomdkdlclaaFlLook
import Derived.Test.YtgojbomdkdlclaaLbCmp
namespace Go.Proofs.Ytgojbomdkdlclaa
open Go.ChangeShapes Go.WideShapes Go.ChangeAt Go.RowKit
set_option linter.unusedVariables false

/-- A flow and its mark, in the reference's memory. -/
theorem RW.flow {w : World} {C R : Nat} {t : Tb} {vS vF vG : Value} (h : RW w C R t vS vF vG) {k : Nat} (hk : k < t.F.length) :
    ∃ g c, vF = .slice (some ⟨g, 0, none⟩) t.F.length c ∧ C ≤ g ∧ g < w.heap.size ∧
      w.cell? ⟨g, k * 7, none⟩ = some (.int .i64 t.F[k].i) ∧ w.cell? ⟨g, k * 7 + 1, none⟩ = some (.int .i64 t.F[k].s) ∧ w.cell? ⟨g, k * 7 + 2, none⟩ = some (.int .i64 t.F[k].w) ∧ w.cell? ⟨g, k * 7 + 3, none⟩ = some (.int .i64 t.F[k].p) ∧
      w.cell? ⟨g, k * 7 + 4, none⟩ = some (.int .i64 t.F[k].b) ∧ w.cell? ⟨g, k * 7 + 5, none⟩ = some (.int .i64 t.F[k].lg) ∧ w.cell? ⟨g, k * 7 + 6, none⟩ = some (.int .i64 t.F[k].ld) ∧ ∀ o, w.frozen? ⟨g, o, none⟩ = false := by
  obtain ⟨g, c, rfl, h1, h2⟩ := ow_at h.rowF (by omega)
  have hr := h.rowF
  have key : ∀ j, j < 7 → w.cell? ⟨g, k * 7 + j, none⟩ = (csF t.F[k])[j]? := fun j hj => by
    rw [hr.cellAt (k * 7 + j) (by omega), srs_at csF_len _ k j hk hj]
  exact ⟨g, c, rfl, h1, h2, key 0 (by omega), key 1 (by omega), key 2 (by omega), key 3 (by omega), key 4 (by omega), key 5 (by omega), key 6 (by omega), fun o => hr.frozenAt o⟩
theorem RW.gone {w : World} {C R : Nat} {t : Tb} {vS vF vG : Value} (h : RW w C R t vS vF vG) {k : Nat} (hk : k < t.G.length) :
    ∃ g c, vG = .slice (some ⟨g, 0, none⟩) t.G.length c ∧ C ≤ g ∧ g < w.heap.size ∧ w.cell? ⟨g, k, none⟩ = some (.bool t.G[k]) ∧ ∀ o, w.frozen? ⟨g, o, none⟩ = false := by
  obtain ⟨g, c, rfl, h1, h2⟩ := ow_at h.rowG (by omega)
  have hr := h.rowG
  refine ⟨g, c, rfl, h1, h2, ?_, fun o => hr.frozenAt o⟩
  have := hr.cellAt (k * 1 + 0) (by omega)
  rw [srs_at csB_len _ k 0 hk (by omega)] at this
  rw [show k * 1 + 0 = k by omega] at this
  exact this
theorem RW.sta {w : World} {C R : Nat} {t : Tb} {vS vF vG : Value} (h : RW w C R t vS vF vG) {k : Nat} (hk : k < t.S.length) :
    ∃ g c, vS = .slice (some ⟨g, 0, none⟩) t.S.length c ∧ C ≤ g ∧ g < w.heap.size ∧ w.cell? ⟨g, k * 4, none⟩ = some (.int .i64 t.S[k].i) ∧ w.cell? ⟨g, k * 4 + 1, none⟩ = some (.string t.S[k].nm) ∧ w.cell? ⟨g, k * 4 + 2, none⟩ = some (.int .i64 t.S[k].w) ∧ w.cell? ⟨g, k * 4 + 3, none⟩ = some (.int .i64 t.S[k].r) := by
  obtain ⟨g, c, rfl, h1, h2⟩ := ow_at h.rowS (by omega)
  have hr := h.rowS
  have key : ∀ j, j < 4 → w.cell? ⟨g, k * 4 + j, none⟩ = (csS t.S[k])[j]? := fun j hj => by
    rw [hr.cellAt (k * 4 + j) (by omega), srs_at csS_len _ k j hk hj]
  exact ⟨g, c, rfl, h1, h2, key 0 (by omega), key 1 (by omega), key 2 (by omega), key 3 (by omega)⟩
theorem there_any {C R : Nat} {S : Nat → Prop} {t : Tb} {w : World} (h : RO C R S t w) (f : Int) :
    Calls Try.prog 41 #[.pointer (some ⟨R, 0, none⟩), .int .i64 f] w fun e w' => e = .returned (.bool (thrB t.F t.G f)) ∧ w = w' := by
  obtain ⟨h0, ⟨vS, vF, vG, h1, _⟩, _⟩ := h
  obtain ⟨c0, c1, c2, c3, c4, _⟩ := h1.cells
  have hf := h0.few
  obtain ⟨A, c, rfl⟩ := ow_shape h1.rowF
  by_cases hr : 0 ≤ f ∧ f < t.F.length
  · obtain ⟨k, rfl⟩ := Int.eq_ofNat_of_zero_le hr.1
    have hk : k < t.F.length := by omega
    have hkG : k < t.G.length := by have := h0.len; omega
    obtain ⟨g, c', rfl, hg1, hg2, e0, _⟩ := h1.gone hkG
    rw [thr_nat h0.len hk]
    have hlG := h0.len
    rw [← hlG] at c4
    generalize t.G[k] = b at *
    clear h1 h0 c0 c1 c2 hlG hkG
    cases b
    · go_enter Try.func41, Try.ntmps41
      go_wp2
      go_ret
      exact ⟨rfl, rfl⟩
    · go_enter Try.func41, Try.ntmps41
      go_wp2
      go_ret
      exact ⟨rfl, rfl⟩
  · rw [thr_neg hr]
    clear h1 h0 c0 c1 c2 c4
    by_cases h : 0 ≤ f
    · have h' : ¬ f < t.F.length := by omega
      go_enter Try.func41, Try.ntmps41
      go_wp2
      go_ret
      exact ⟨rfl, rfl⟩
    · go_enter Try.func41, Try.ntmps41
      go_wp2
      go_ret
      exact ⟨rfl, rfl⟩
theorem tot_all {F : List Flo} {G : List Bool} (h : F.length = G.length) : totF (F.take F.length) (G.take F.length) = totF F G := by
  rw [List.take_length, List.take_of_length_le (by omega)]
set_option maxHeartbeats 1000000 in
theorem rtotal_any {C R : Nat} {S : Nat → Prop} {t : Tb} {w : World} (h : RO C R S t w) :
    Calls Try.prog 34 #[.pointer (some ⟨R, 0, none⟩)] w fun e w' => e = .returned (.int .i64 t.tot) ∧ w = w' := by
  obtain ⟨h0, ⟨vS, vF, vG, h1, _⟩, _⟩ := h
  obtain ⟨c0, c1, c2, c3, c4, _⟩ := h1.cells
  have hf := h0.few
  have hlG := h0.len
  have HB := Lib.hid (fun k => tot_bounds (t.F.take k) (t.G.take k) (fun f hf => h0.fls f (List.mem_of_mem_take hf)))
  have HW := Lib.hid (fun k (hk : k < t.F.length) => h0.fls _ (List.getElem_mem hk))
  have HT := Lib.hid (fun k (hk : k < t.F.length) => tot_take hk h0.len)
  have HE := Lib.hid (tot_all h0.len)
  have HC := Lib.hid (fun k (hk : k < t.F.length) => h1.flow hk)
  have HG := Lib.hid (fun k (hk : k < t.G.length) => h1.gone hk)
  obtain ⟨A, c, rfl⟩ := ow_shape h1.rowF
  obtain ⟨A', c', rfl⟩ := ow_shape h1.rowG
  clear h1 c0 c1 c2
  go_enter Try.func34, Try.ntmps34
  go_wp2
  go_loopw [3, 4] (fun s3 s4 wr => ∃ k : Nat, ∃ z : Int, k ≤ t.F.length ∧ s4 = .int .i64 k ∧ s3 = .int .i64 z ∧ Hid (z = totF (t.F.take k) (t.G.take k)) ∧ wr = w) (fun s3 s4 _ => t.F.length - (intOf s4).toNat)
  case atStart => exact ⟨0, 0, Nat.zero_le _, rfl, rfl, Lib.hid (by simp [totF]), rfl⟩
  case round =>
    obtain ⟨k, z, hk, rfl, rfl, HZ, rfl⟩ := hrel
    by_cases hlt : k < t.F.length
    · have hkG : k < t.G.length := by omega
      obtain ⟨g, c1, hv, hg1, hg2, _, _, e2, _⟩ := HC.out k hlt
      obtain ⟨rfl, rfl⟩ : A = some ⟨g, 0, none⟩ ∧ c = c1 := by simpa using hv
      obtain ⟨g', c2, hv', _, _, e0, _⟩ := HG.out k hkG
      obtain ⟨rfl, rfl⟩ : A' = some ⟨g', 0, none⟩ ∧ c' = c2 := by simpa using hv'
      have ht := HT.out k hlt
      have hb := HB.out k
      have hw := HW.out k hlt
      rw [← HZ.out] at ht hb
      rw [List.length_take] at hb
      obtain ⟨q, hq⟩ : ∃ q, t.F[k].w = q := ⟨_, rfl⟩
      obtain ⟨b, hbb⟩ : ∃ b, t.G[k] = b := ⟨_, rfl⟩
      rw [hq, hbb] at ht
      rw [hq] at e2 hw
      rw [hbb] at e0
      have HT2 := Lib.hid ht
      clear ht hq hbb hv hv' HC HG HZ HB HW HE
      cases b
      · have hwz : IntKind.i64.wrap (z + q) = z + q := IntWalk.i64_in _ (by omega)
        go_wp2
        go_roundw
        case rel => exact ⟨k + 1, z + q, by omega, by go_num, by go_num, Lib.hid (by rw [HT2.out]; rfl), trivial⟩
        case measure => simp [intOf]; omega
      · go_wp2
        go_roundw
        case rel => exact ⟨k + 1, z, by omega, by go_num, rfl, Lib.hid (by rw [HT2.out]; simp), trivial⟩
        case measure => simp [intOf]; omega
    · obtain rfl : k = t.F.length := by omega
      have HF : Hid (z = t.tot) := Lib.hid (by rw [HZ.out, HE.out]; rfl)
      clear HZ
      go_wp2
      go_ret
      exact ⟨ret_int HF.out, rfl⟩
theorem goodCaps_any (p b : Int) (w : World) : Calls Try.prog 50 #[.int .i64 p, .int .i64 b] w fun e w' => e = .returned (.bool (gcB p b)) ∧ w = w' := by
  by_cases h1 : 1 ≤ p
  · by_cases h2 : p ≤ 64
    · by_cases h3 : 1 ≤ b
      · have e : gcB p b = decide (b ≤ 262144) := by unfold gcB; simp [h1, h2, h3]
        rw [e]
        clear e
        go_enter Try.func50, Try.ntmps50
        go_wp2
        go_ret
        exact ⟨rfl, rfl⟩
      · have e : gcB p b = false := by unfold gcB; simp [h3]
        rw [e]
        clear e
        go_enter Try.func50, Try.ntmps50
        go_wp2
        go_ret
        exact ⟨rfl, rfl⟩
    · have e : gcB p b = false := by unfold gcB; simp [h2]
      rw [e]
      clear e
      go_enter Try.func50, Try.ntmps50
      go_wp2
      go_ret
      exact ⟨rfl, rfl⟩
  · have e : gcB p b = false := by unfold gcB; simp [h1]
    rw [e]
    clear e
    go_enter Try.func50, Try.ntmps50
    go_wp2
    go_ret
    exact ⟨rfl, rfl⟩
theorem rnew_no {c r : Int} (h : ¬ ((1 ≤ c ∧ c ≤ 512) ∧ (1 ≤ r ∧ r ≤ 12))) (w : World) :
    Calls Try.prog 10 #[.int .i64 c, .int .i64 r] w fun e w' => e = .returned (.tuple #[.pointer none, .int .i64 1]) ∧ w = w' := by
  have hcs : c < 1 ∨ (1 ≤ c ∧ 512 < c) ∨ (1 ≤ c ∧ c ≤ 512 ∧ r < 1) ∨ (1 ≤ c ∧ c ≤ 512 ∧ 1 ≤ r ∧ 12 < r) := by omega
  clear h
  rcases hcs with z1 | ⟨z1, z2⟩ | ⟨z1, z2, z3⟩ | ⟨z1, z2, z3, z4⟩
  all_goals
    go_enter Try.func10, Try.ntmps10
    go_wp2
    go_ret2
    exact ⟨rfl, rfl⟩
def RNew (c r : Int) (w : World) (e : Ending) (w' : World) : Prop :=
  ∃ R S, e = .returned (.tuple #[.pointer (some ⟨R, 0, none⟩), .int .i64 0]) ∧ RO w.heap.size R S ⟨c, r, [], [], []⟩ w' ∧ Below w.heap.size w w'
theorem RNew.mk {c r : Int} (h : (1 ≤ c ∧ c ≤ 512) ∧ (1 ≤ r ∧ r ≤ 12)) (w : World) :
    RNew c r w (.returned (.tuple #[.pointer (some ⟨w.heap.size, 0, none⟩), .int .i64 0])) (w.alloc (.cells #[.int .i64 c, .int .i64 r, .slice none 0 0, .slice none 0 0, .slice none 0 0] 61)) := by
  have hE : newE c r = 0 := by
    unfold newE; rw [if_pos]; simp only [Bool.and_eq_true, decide_eq_true_eq]; omega
  refine ⟨_, fun k => k = w.heap.size, rfl, ⟨TbOk.new hE, ⟨.slice none 0 0, .slice none 0 0, .slice none 0 0, ⟨(MapKept.heap_alloc _ _).1, World.ownsRow_nil _ _ _ _, World.ownsRow_nil _ _ _ _, World.ownsRow_nil _ _ _ _, Nat.le_refl _⟩, ?_⟩, fun k hk => ?_⟩, (Below.refl _ _).alloc (Nat.le_refl _) _⟩
  · rintro k (e | e | e | e)
    · exact e
    · cases e
    · cases e
    · cases e
  · have hk : k = w.heap.size := hk
    subst hk; simp
theorem rnew_any {c r : Int} (h : (1 ≤ c ∧ c ≤ 512) ∧ (1 ≤ r ∧ r ≤ 12)) (w : World) :
    Calls Try.prog 10 #[.int .i64 c, .int .i64 r] w (RNew c r w) := by
  have HF := Lib.hid (RNew.mk h w)
  obtain ⟨⟨h1, h2⟩, h3, h4⟩ := h
  go_enter Try.func10, Try.ntmps10
  go_wp2
  go_ret2
  exact HF.out
end Go.Proofs.Ytgojbomdkdlclaa

