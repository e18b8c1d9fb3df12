/-
  Layer 13: contract of the reference's lower. Written by gen_rflow.py.
-/
import Derived.Test.YtkfhjpgapmfiaaaRfRef
namespace Go.Proofs.Ytkfhjpgapmfiaaa
open Go.ChangeShapes Go.WideShapes Go.ChangeAt Go.RowKit
set_option linter.unusedVariables false

theorem low_take {L : List Tg} {b : Int} {k : Nat} (hk : k < L.length) : (L.take (k + 1)).map (lowT b) = (L.take k).map (lowT b) ++ [lowT b L[k]] := by
  rw [List.take_succ_eq_append_getElem hk, List.map_append]; rfl
/-- A list in a row of the call's own. -/
def OwnAns (M : List Tg) (w : World) (e : Ending) (w' : World) : Prop := ∃ A c, e = .returned (.slice A M.length c) ∧ w'.ownsRow w.heap.size 52 3 (.slice A M.length c) M.length (srs csT M) ∧ Below w.heap.size w w'
/-- The values in lower's region. -/
def LwV (A' : Option Addr) (c' n c k bb off : Nat) (f wt s b z : Int) (γ : Ga) (i : Nat) (v : Value) (_ : World) : Prop :=
  match i with
  | 0 => v = .slice A' k c'
  | 1 => v = .slice (some ⟨bb, off, none⟩) n c
  | 2 => v = .int .i64 (k : Nat)
  | 3 => v = .pointer (some ⟨bb, off + k * 3, none⟩)
  | 4 => v = .pointer (some ⟨bb, off + k * 3, none⟩)
  | 5 => v = .int .i64 f
  | 6 => v = .slice (some ⟨bb, off, none⟩) n c
  | 7 => v = .int .i64 (k : Nat)
  | 8 => v = .pointer (some ⟨bb, off + k * 3, none⟩)
  | 9 => v = .pointer (some ⟨bb, off + k * 3 + 1, none⟩)
  | 10 => v = .int .i64 wt
  | 11 => v = .slice (some ⟨bb, off, none⟩) n c
  | 12 => v = .int .i64 (k : Nat)
  | 13 => v = .pointer (some ⟨bb, off + k * 3, none⟩)
  | 14 => v = .pointer (some ⟨bb, off + k * 3 + 2, none⟩)
  | 15 => v = .int .i64 s
  | 16 => v = .int .i64 b
  | 17 => v = .int .i64 (s - b)
  | 18 => v = .int .i64 z
  | 19 => v = .agg #[.int .i64 f, .int .i64 wt, .int .i64 z]
  | 20 => v = .slice (some ⟨γ.g, 0, none⟩) 1 1
  | 21 => v = .slice γ.A (k + 1) γ.c
  | 22 => v = .slice γ.A (k + 1) γ.c
  | _ => True
theorem LwV.lit {A' : Option Addr} {c' n c k bb off : Nat} {f wt s b z : Int} {γ : Ga} {g : Nat} {i : Nat} {v : Value} {w w' : World} (hi : i ≠ 20) (h : LwV A' c' n c k bb off f wt s b z γ i v w) : LwV A' c' n c k bb off f wt s b z ⟨g, γ.A, γ.c⟩ i v w' := by
  unfold LwV at h ⊢
  split at h <;> first | exact h | exact absurd rfl hi | trivial
theorem LwV.app {A' : Option Addr} {c' n c k bb off : Nat} {f wt s b z : Int} {γ : Ga} {A2 : Option Addr} {c2 : Nat} {i : Nat} {v : Value} {w w' : World} (h20 : i ≠ 21) (h21 : i ≠ 22) (h : LwV A' c' n c k bb off f wt s b z γ i v w) : LwV A' c' n c k bb off f wt s b z ⟨γ.g, A2, c2⟩ i v w' := by
  unfold LwV at h ⊢
  split at h <;> first | exact h | exact absurd rfl h20 | exact absurd rfl h21 | trivial
set_option maxRecDepth 100000 in
set_option maxHeartbeats 8000000 in
theorem rlower_any {T : Nat → Prop} {vL : Value} {L : List Tg} {b : Int} {w : World} (h : LsV w T vL L) (hn : L.length ≤ 100000) (hs : ∀ t ∈ L, 0 ≤ t.s ∧ t.s ≤ 1099511627776) (hb : 0 ≤ b ∧ b ≤ 1099511627776) :
    Calls Try.prog 46 #[vL, .int .i64 b] w (OwnAns (L.map (lowT b)) w) := by
  have HA := Lib.hid (fun k (hk : k < L.length) => h.tg hk)
  have HS := Lib.hid (fun k (hk : k < L.length) => hs _ (List.getElem_mem hk))
  have HT := Lib.hid (fun k (hk : k < L.length) => low_take (b := b) hk)
  obtain ⟨A, c, rfl, _, _⟩ := h.shape
  clear h hs
  unfold OwnAns
  simp only [List.length_map]
  go_enter Try.func46, Try.ntmps46
  go_wp2_with fail
  go_loopw [5, 6] (fun s5 s6 wr => ∃ (k : Nat) (A' : Option Addr) (c' : Nat), k ≤ L.length ∧ s6 = .int .i64 k ∧ s5 = .slice A' k c' ∧ Hid (wr.ownsRow w.heap.size 52 3 (.slice A' k c') k (srs csT ((L.take k).map (lowT b)))) ∧ Hid (Below w.heap.size w wr)) (fun s5 s6 _ => L.length - (intOf s6).toNat)
  case atStart => exact ⟨0, none, 0, Nat.zero_le _, rfl, rfl, Lib.hid (by simpa [srs] using World.ownsRow_nil w w.heap.size 52 3), Lib.hid (Below.refl _ _)⟩
  case round =>
    obtain ⟨k, A', c', hk, rfl, rfl, HR, HW⟩ := hrel
    by_cases hlt : k < L.length
    · obtain ⟨bb, off, c1, hv, _, _, hbw, _, e0, e1, e2⟩ := HA.out k hlt
      obtain ⟨rfl, rfl⟩ : A = some ⟨bb, off, none⟩ ∧ c = c1 := by simpa using hv
      have hws := HW.out.size
      have hval := HS.out k hlt
      have ht := HT.out k hlt
      obtain ⟨f, hf⟩ : ∃ f, L[k].f = f := ⟨_, rfl⟩
      obtain ⟨wt, hwt⟩ : ∃ wt, L[k].w = wt := ⟨_, rfl⟩
      obtain ⟨s, hsq⟩ : ∃ s, L[k].s = s := ⟨_, rfl⟩
      obtain ⟨z, hz⟩ : ∃ z, max (s - b) 0 = z := ⟨_, rfl⟩
      have hsub : lowT b L[k] = ⟨f, wt, z⟩ := by unfold lowT; rw [hf, hwt, hsq, hz]
      rw [hf] at e0
      rw [hwt] at e1
      rw [hsq] at e2 hval
      rw [hsub] at ht
      have hw1 : IntKind.i64.wrap (s - b) = s - b := IntWalk.i64_in _ (by omega)
      have HZ := Lib.hid hz
      have HT2 := Lib.hid (show srs csT ((L.take (k + 1)).map (lowT b)) = srs csT ((L.take k).map (lowT b)) ++ csT ⟨f, wt, z⟩ by rw [ht, srs_snoc])
      obtain ⟨xs, hxs⟩ : ∃ xs, srs csT ((L.take k).map (lowT b)) = xs := ⟨_, rfl⟩
      have hr0 := HR.out
      have ht0 := HT2.out
      rw [hxs] at hr0 ht0
      have HT3 := Lib.hid ht0
      have HC0 := Lib.hid (ApC.start (wS := w) (base := w.heap.size) (t := 52) (s := 3) (n := k) (v0 := .slice A' k c') (xs := xs) (news := csT ⟨f, wt, z⟩) (lit := 20) (app := 21) (HW.out.drew) (show wr.drew.ownsRow w.heap.size 52 3 (.slice A' k c') k xs from hr0) ⟨0, none, 0⟩)
      have HD := Lib.hid (And.intro e0 (And.intro e1 e2))
      have hkn : k ≤ 100000 := by omega
      clear ht hf hwt hsq hsub hz HR HA HS e0 e1 e2 hxs hr0 ht0 HT2 hv
      go_wp2_with fail
      refine wp_region_looseI 36 (by kernel_rfl) (by kernel_rfl) (ApC w w.heap.size 52 3 k (.slice A' k c') xs (csT ⟨f, wt, z⟩) 20 21) (LwV A' c' L.length c k bb off f wt s b z) ⟨0, none, 0⟩ rfl HC0.out ?_ ?_
      · simp only [OblAllI]
        refine ⟨?_, ?_, ?_, ?_, ?_, ?_, ?_, ?_, ?_, ?_, ?_, ?_, ?_, ?_, ?_, ?_, ?_, ?_, ?_, ?_, ?_, ?_, ?_, trivial⟩
        all_goals
          intro γ U wx vals hi hu hcl hC hp
          simp [predL, predE, Region.binds, UpL] at hu
          simp [ClosedL, UpL, predL, predE, Region.binds] at hcl
          simp [predL, predE, Region.binds, PreV, LwV] at hp
          simp [fillA, Act.put]
          have HCx := Lib.hid hC
          have d0 := (hC.bel.cell (p := ⟨bb, off + k * 3, none⟩) hbw).trans HD.out.1
          have d1 := (hC.bel.cell (p := ⟨bb, off + k * 3 + 1, none⟩) hbw).trans HD.out.2.1
          have d2 := (hC.bel.cell (p := ⟨bb, off + k * 3 + 2, none⟩) hbw).trans HD.out.2.2
        · clear hp hC hu hi hcl
          go_wp2
          exact ⟨rfl, γ, HCx.out.quiet (by decide) (by decide), rfl, fun _ _ _ h => h⟩
        · clear hp hC hu hi hcl
          go_wp2
          exact ⟨rfl, γ, HCx.out.quiet (by decide) (by decide), rfl, fun _ _ _ h => h⟩
        · clear hp hC hu hi hcl
          go_wp2
          exact ⟨rfl, γ, HCx.out.quiet (by decide) (by decide), rfl, fun _ _ _ h => h⟩
        · simp only [hp]
          clear hp hC hu hi hcl
          go_wp2
          exact ⟨rfl, γ, HCx.out.quiet (by decide) (by decide), rfl, fun _ _ _ h => h⟩
        · simp only [hp]
          clear hp hC hu hi hcl
          go_wp2
          exact ⟨rfl, γ, HCx.out.quiet (by decide) (by decide), rfl, fun _ _ _ h => h⟩
        · simp only [hp]
          clear hp hC hu hi hcl
          go_wp2
          exact ⟨rfl, γ, HCx.out.quiet (by decide) (by decide), rfl, fun _ _ _ h => h⟩
        · clear hp hC hu hi hcl
          go_wp2
          exact ⟨rfl, γ, HCx.out.quiet (by decide) (by decide), rfl, fun _ _ _ h => h⟩
        · clear hp hC hu hi hcl
          go_wp2
          exact ⟨rfl, γ, HCx.out.quiet (by decide) (by decide), rfl, fun _ _ _ h => h⟩
        · simp only [hp]
          clear hp hC hu hi hcl
          go_wp2
          exact ⟨rfl, γ, HCx.out.quiet (by decide) (by decide), rfl, fun _ _ _ h => h⟩
        · simp only [hp]
          clear hp hC hu hi hcl
          go_wp2
          exact ⟨rfl, γ, HCx.out.quiet (by decide) (by decide), rfl, fun _ _ _ h => h⟩
        · simp only [hp]
          clear hp hC hu hi hcl
          go_wp2
          exact ⟨rfl, γ, HCx.out.quiet (by decide) (by decide), rfl, fun _ _ _ h => h⟩
        · clear hp hC hu hi hcl
          go_wp2
          exact ⟨rfl, γ, HCx.out.quiet (by decide) (by decide), rfl, fun _ _ _ h => h⟩
        · clear hp hC hu hi hcl
          go_wp2
          exact ⟨rfl, γ, HCx.out.quiet (by decide) (by decide), rfl, fun _ _ _ h => h⟩
        · simp only [hp]
          clear hp hC hu hi hcl
          go_wp2
          exact ⟨rfl, γ, HCx.out.quiet (by decide) (by decide), rfl, fun _ _ _ h => h⟩
        · simp only [hp]
          clear hp hC hu hi hcl
          go_wp2
          exact ⟨rfl, γ, HCx.out.quiet (by decide) (by decide), rfl, fun _ _ _ h => h⟩
        · simp only [hp]
          clear hp hC hu hi hcl
          go_wp2
          exact ⟨rfl, γ, HCx.out.quiet (by decide) (by decide), rfl, fun _ _ _ h => h⟩
        · clear hp hC hu hi hcl
          go_wp2
          exact ⟨rfl, γ, HCx.out.quiet (by decide) (by decide), rfl, fun _ _ _ h => h⟩
        · simp only [hp]
          clear hp hC hu hi hcl
          go_wp2
          exact ⟨rfl, γ, HCx.out.quiet (by decide) (by decide), rfl, fun _ _ _ h => h⟩
        · simp only [hp]
          clear hp hC hu hi hcl
          go_wp2
          all_goals
            have hzz := HZ.out
            exact ⟨rfl, γ, HCx.out.quiet (by decide) (by decide), congrArg (Value.int .i64) (by omega), fun _ _ _ h => h⟩
        · simp only [hp]
          clear hp hC hu hi hcl
          go_wp2
          exact ⟨rfl, γ, HCx.out.quiet (by decide) (by decide), rfl, fun _ _ _ h => h⟩
        · have hB := Nat.le_trans (Nat.le_refl w.heap.size) hC.bel.size
          simp only [hp]
          clear hp hC hu hcl
          have HF := Lib.hid (HCx.out.lit_ (by decide) hB)
          go_wp2
          exact ⟨rfl, ⟨wx.heap.size, γ.A, γ.c⟩, HF.out, rfl, fun jj u hj h => LwV.lit (fun e => by rw [e, hi] at hj; cases hj) h⟩
        · obtain ⟨A2, c2, w2, hrun, hX⟩ := hC.app_ (P := Try.prog) (T := 49) (ty := 49) (by decide) (by simp [hu]) hi (Nat.le_refl _) Try.underlying49 info_tg rfl (by decide) (csT_len _) (csT_one _) hkn (by decide)
          have HF := Lib.hid hX
          have h22 : U 22 = false := by clear hC hp HCx hX HF hrun; cases h : U 22 <;> simp_all
          simp only [hp]
          clear hp hC hu hX hcl
          refine wpList_append_run rfl (.tmp 13) (.tmp 33) 49 rfl rfl rfl hrun ?_
          clear hrun
          go_wp2
          exact ⟨rfl, ⟨γ.g, A2, c2⟩, HF.out, rfl, fun jj u hj h => LwV.app (fun e => by rw [e, hi] at hj; cases hj) (fun e => by rw [e, h22] at hj; cases hj) h⟩
        · simp only [hp]
          clear hp hC hu hi hcl
          go_wp2
          exact ⟨rfl, γ, HCx.out.quiet (by decide) (by decide), rfl, fun _ _ _ h => h⟩
      · intro γ wz vals U hC hall hV
        have e22 := hV 22 (by simp)
        simp only [LwV] at e22
        have ho := hC.fin (hall 21 (by simp))
        rw [← HT3.out] at ho
        have HO := Lib.hid ho
        have HB := Lib.hid hC.bel
        simp only [fillA, if_true, Act.put]
        simp
        simp only [e22]
        obtain ⟨g9, A9, c9⟩ := γ
        simp only at HO ⊢
        clear e22 hV hC hall ho HC0
        go_wp2
        go_roundw
        case rel => exact ⟨k + 1, A9, c9, by omega, by go_num, rfl, HO, HB⟩
        case measure => simp [intOf]; omega
    · obtain rfl : k = L.length := by omega
      have hr := HR.out
      rw [List.take_length] at hr
      have HF := Lib.hid (show ∃ A c, Ending.returned (.slice A' L.length c') = .returned (.slice A L.length c) ∧ wr.ownsRow w.heap.size 52 3 (.slice A L.length c) L.length (srs csT (L.map (lowT b))) ∧ Below w.heap.size w wr from ⟨A', c', rfl, hr, HW.out⟩)
      clear hr HR HW
      go_wp2
      go_ret
      exact HF.out
end Go.Proofs.Ytkfhjpgapmfiaaa

