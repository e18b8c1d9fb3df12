/-
  Layer 12: contract of the reference's Rebase.
-/
import Derived.Test.YthmcdnomphmbiaaTgRef2
import Derived.Test.YthmcdnomphmbiaaAppR
namespace Go.Proofs.Ythmcdnomphmbiaa
open Go.ChangeShapes Go.WideShapes Go.ChangeAt Go.RowKit
set_option linter.unusedVariables false

theorem got_nil (x : Int) {w w' : World} (hb : Below w.heap.size w w') : GotTE [] x w (.returned (.tuple #[.slice none 0 0, .int .i64 x])) w' := ⟨none, 0, rfl, SrAt.nil, hb⟩
theorem map_take {L : List Tg} {b : Int} {k : Nat} (hk : k < L.length) : (L.take (k + 1)).map (subT b) = (L.take k).map (subT b) ++ [subT b L[k]] := by
  rw [List.take_succ_eq_append_getElem hk, List.map_append]; rfl
/-- The values in Rebase's region. -/
def RbV (A' : Option Addr) (c' n c k bb off : Nat) (f wt s b : Int) (γ : Ga) (i : Nat) (v : Value) (_ : World) : Prop :=
  match i with
  | 0 => v = .slice A' k c'
  | 1 => v = .slice (some ⟨bb, off, none⟩) n c
  | 2 => v = .int .i64 (k : Nat)
  | 3 => v = .pointer (some ⟨bb, off + k * 3, none⟩)
  | 4 => v = .pointer (some ⟨bb, off + k * 3, none⟩)
  | 5 => v = .int .i64 f
  | 6 => v = .slice (some ⟨bb, off, none⟩) n c
  | 7 => v = .int .i64 (k : Nat)
  | 8 => v = .pointer (some ⟨bb, off + k * 3, none⟩)
  | 9 => v = .pointer (some ⟨bb, off + k * 3 + 1, none⟩)
  | 10 => v = .int .i64 wt
  | 11 => v = .slice (some ⟨bb, off, none⟩) n c
  | 12 => v = .int .i64 (k : Nat)
  | 13 => v = .pointer (some ⟨bb, off + k * 3, none⟩)
  | 14 => v = .pointer (some ⟨bb, off + k * 3 + 2, none⟩)
  | 15 => v = .int .i64 s
  | 16 => v = .int .i64 b
  | 17 => v = .int .i64 (s - b)
  | 18 => v = .agg #[.int .i64 f, .int .i64 wt, .int .i64 (s - b)]
  | 19 => v = .slice (some ⟨γ.g, 0, none⟩) 1 1
  | 20 => v = .slice γ.A (k + 1) γ.c
  | 21 => v = .slice γ.A (k + 1) γ.c
  | _ => True
theorem RbV.lit {A' : Option Addr} {c' n c k bb off : Nat} {f wt s b : Int} {γ : Ga} {g : Nat} {i : Nat} {v : Value} {w w' : World} (hi : i ≠ 19) (h : RbV A' c' n c k bb off f wt s b γ i v w) : RbV A' c' n c k bb off f wt s b ⟨g, γ.A, γ.c⟩ i v w' := by
  unfold RbV at h ⊢
  split at h <;> first | exact h | exact absurd rfl hi | trivial
theorem RbV.app {A' : Option Addr} {c' n c k bb off : Nat} {f wt s b : Int} {γ : Ga} {A2 : Option Addr} {c2 : Nat} {i : Nat} {v : Value} {w w' : World} (h20 : i ≠ 20) (h21 : i ≠ 21) (h : RbV A' c' n c k bb off f wt s b γ i v w) : RbV A' c' n c k bb off f wt s b ⟨γ.g, A2, c2⟩ i v w' := by
  unfold RbV at h ⊢
  split at h <;> first | exact h | exact absurd rfl h20 | exact absurd rfl h21 | trivial
set_option maxRecDepth 100000 in
set_option maxHeartbeats 8000000 in
theorem rrebase_any (A : Option Addr) (c : Nat) (L : List Tg) (L1 B1 : Nat) (b : Int) (w : World) (hB1 : B1 ≤ w.heap.size) (hn : L.length ≤ 100000) (ha : SrAt csT 3 w L1 B1 A L) :
    Calls Try.prog 30 #[.slice A L.length c, .int .i64 b] w (GotTE (rbL L b) (rbE L b) w) := by
  have HV := rvalidT_any A c L L1 B1 w hn ha
  have HA := Lib.hid (fun k (hk : k < L.length) => ha.tg hk)
  by_cases h1 : vaB L = true ∧ 0 ≤ b
  · obtain ⟨hv, hb0⟩ := h1
    rw [hv] at HV
    have HV := Lib.hid HV
    have HP := Lib.hid (va_yes hv)
    have HE2 := Lib.hid (fun i (hi : i < L.length) h => rb_2 hv hb0 hi h)
    have HE0 := Lib.hid (fun h => rb_0 hv hb0 h)
    have HT := Lib.hid (fun k (hk : k < L.length) => map_take (b := b) hk)
    clear hv ha
    obtain ⟨v, hvv⟩ : ∃ v, rbE L b = v := ⟨_, rfl⟩
    obtain ⟨R, hR⟩ : ∃ R, rbL L b = R := ⟨_, rfl⟩
    rw [hvv, hR] at HE2 HE0 ⊢
    clear hvv hR
    unfold GotTE
    go_enter Try.func30, Try.ntmps30
    go_wp2_with fail
    (with_reducible refine HV.out.mono ?_); rintro e w1 ⟨rfl, hd⟩
    have HW1 := Lib.hid (hd.below (B := w.heap.size))
    have hcell := fun p => hd.cell p
    clear hd HV
    go_wp2_with fail
    go_loopw [6, 7] (fun s6 s7 wr => ∃ (k : Nat) (A' : Option Addr) (c' : Nat), k ≤ L.length ∧ s7 = .int .i64 k ∧ s6 = .slice A' k c' ∧ Hid (wr.ownsRow w.heap.size 47 3 (.slice A' k c') k (srs csT ((L.take k).map (subT b)))) ∧ Hid (∀ i (hi : i < L.length), i < k → b ≤ L[i].s) ∧ Hid (Below w.heap.size w wr)) (fun s6 s7 _ => L.length - (intOf s7).toNat)
    case atStart => exact ⟨0, none, 0, Nat.zero_le _, rfl, rfl, Lib.hid (by simpa [srs] using World.ownsRow_nil w1 w.heap.size 47 3), Lib.hid (fun i _ hi => by omega), HW1⟩
    case round =>
      obtain ⟨k, A', c', hk, rfl, rfl, HR, HK, HW⟩ := hrel
      clear hcell
      by_cases hlt : k < L.length
      · obtain ⟨bb, off, rfl, _, hbB, e0, e1, e2⟩ := HA.out k hlt
        have hbw : bb < w.heap.size := by omega
        have hws := HW.out.size
        have hval := (HP.out.at_ hlt).2.2
        have h2 := HE2.out k hlt
        have ht := HT.out k hlt
        obtain ⟨f, hf⟩ : ∃ f, L[k].f = f := ⟨_, rfl⟩
        obtain ⟨wt, hwt⟩ : ∃ wt, L[k].w = wt := ⟨_, rfl⟩
        obtain ⟨s, hs⟩ : ∃ s, L[k].s = s := ⟨_, rfl⟩
        have hsub : subT b L[k] = ⟨f, wt, s - b⟩ := by unfold subT; rw [hf, hwt, hs]
        rw [hf] at e0
        rw [hwt] at e1
        rw [hs] at e2 hval h2
        rw [hsub] at ht
        have d0 : wr.cell? ⟨bb, off + k * 3, none⟩ = some (.int .i64 f) := (HW.out.cell (p := ⟨bb, off + k * 3, none⟩) hbw).trans e0
        have d1 : wr.cell? ⟨bb, off + k * 3 + 1, none⟩ = some (.int .i64 wt) := (HW.out.cell (p := ⟨bb, off + k * 3 + 1, none⟩) hbw).trans e1
        have d2 : wr.cell? ⟨bb, off + k * 3 + 2, none⟩ = some (.int .i64 s) := (HW.out.cell (p := ⟨bb, off + k * 3 + 2, none⟩) hbw).trans e2
        by_cases hsb : s < b
        · obtain ⟨g1, g2⟩ := h2 hsb
          have HF := Lib.hid (show ∃ A c, Ending.returned (.tuple #[.slice none 0 0, .int .i64 2]) = .returned (.tuple #[.slice A R.length c, .int .i64 v]) ∧ SrAt csT 3 wr w.heap.size wr.heap.size A R ∧ Below w.heap.size w wr from by rw [g1, g2]; exact ⟨none, 0, rfl, SrAt.nil, HW.out⟩)
          clear g1 g2 h2 ht hf hwt hs hsub HK HR HA e0 e1 e2
          go_wp2
          go_ret2
          exact HF.out
        · have HK2 : Hid (∀ i (hi : i < L.length), i < k + 1 → b ≤ L[i].s) := Lib.hid (fun i hi hik => by
            rcases (by omega : i < k ∨ i = k) with h | rfl
            · exact HK.out i hi h
            · rw [hs]; omega)
          have hw1 : IntKind.i64.wrap (s - b) = s - b := IntWalk.i64_in _ (by omega)
          have HT2 := Lib.hid (show srs csT ((L.take (k + 1)).map (subT b)) = srs csT ((L.take k).map (subT b)) ++ csT ⟨f, wt, s - b⟩ by rw [ht, srs_snoc])
          obtain ⟨xs, hxs⟩ : ∃ xs, srs csT ((L.take k).map (subT b)) = xs := ⟨_, rfl⟩
          have hr0 := HR.out
          have ht0 := HT2.out
          rw [hxs] at hr0 ht0
          have HT3 := Lib.hid ht0
          have HC0 := Lib.hid (ApC.start (wS := w) (base := w.heap.size) (t := 47) (s := 3) (n := k) (v0 := .slice A' k c') (xs := xs) (news := csT ⟨f, wt, s - b⟩) (lit := 19) (app := 20) (HW.out.drew) (show wr.drew.ownsRow w.heap.size 47 3 (.slice A' k c') k xs from hr0) ⟨0, none, 0⟩)
          have HD := Lib.hid (And.intro e0 (And.intro e1 e2))
          have hkn : k ≤ 100000 := by omega
          clear h2 ht hf hwt hs hsub HK HR HA HP e0 e1 e2 d0 d1 hxs hr0 ht0 HT2
          go_wp2_with fail
          refine wp_region_looseI 50 (by kernel_rfl) (by kernel_rfl) (ApC w w.heap.size 47 3 k (.slice A' k c') xs (csT ⟨f, wt, s - b⟩) 19 20) (RbV A' c' L.length c k bb off f wt s b) ⟨0, none, 0⟩ rfl HC0.out ?_ ?_
          · simp only [OblAllI]
            refine ⟨?_, ?_, ?_, ?_, ?_, ?_, ?_, ?_, ?_, ?_, ?_, ?_, ?_, ?_, ?_, ?_, ?_, ?_, ?_, ?_, ?_, ?_, trivial⟩
            all_goals
              intro γ U wx vals hi hu hcl hC hp
              simp [predL, predE, Region.binds, UpL] at hu
              simp [ClosedL, UpL, predL, predE, Region.binds] at hcl
              simp [predL, predE, Region.binds, PreV, RbV] at hp
              simp [fillA, Act.put]
              have HCx := Lib.hid hC
              have d0 := (hC.bel.cell (p := ⟨bb, off + k * 3, none⟩) hbw).trans HD.out.1
              have d1 := (hC.bel.cell (p := ⟨bb, off + k * 3 + 1, none⟩) hbw).trans HD.out.2.1
              have d2 := (hC.bel.cell (p := ⟨bb, off + k * 3 + 2, none⟩) hbw).trans HD.out.2.2
            · clear hp hC hu hi hcl
              go_wp2
              exact ⟨rfl, γ, HCx.out.quiet (by decide) (by decide), rfl, fun _ _ _ h => h⟩
            · clear hp hC hu hi hcl
              go_wp2
              exact ⟨rfl, γ, HCx.out.quiet (by decide) (by decide), rfl, fun _ _ _ h => h⟩
            · clear hp hC hu hi hcl
              go_wp2
              exact ⟨rfl, γ, HCx.out.quiet (by decide) (by decide), rfl, fun _ _ _ h => h⟩
            · simp only [hp]
              clear hp hC hu hi hcl
              go_wp2
              exact ⟨rfl, γ, HCx.out.quiet (by decide) (by decide), rfl, fun _ _ _ h => h⟩
            · simp only [hp]
              clear hp hC hu hi hcl
              go_wp2
              exact ⟨rfl, γ, HCx.out.quiet (by decide) (by decide), rfl, fun _ _ _ h => h⟩
            · simp only [hp]
              clear hp hC hu hi hcl
              go_wp2
              exact ⟨rfl, γ, HCx.out.quiet (by decide) (by decide), rfl, fun _ _ _ h => h⟩
            · clear hp hC hu hi hcl
              go_wp2
              exact ⟨rfl, γ, HCx.out.quiet (by decide) (by decide), rfl, fun _ _ _ h => h⟩
            · clear hp hC hu hi hcl
              go_wp2
              exact ⟨rfl, γ, HCx.out.quiet (by decide) (by decide), rfl, fun _ _ _ h => h⟩
            · simp only [hp]
              clear hp hC hu hi hcl
              go_wp2
              exact ⟨rfl, γ, HCx.out.quiet (by decide) (by decide), rfl, fun _ _ _ h => h⟩
            · simp only [hp]
              clear hp hC hu hi hcl
              go_wp2
              exact ⟨rfl, γ, HCx.out.quiet (by decide) (by decide), rfl, fun _ _ _ h => h⟩
            · simp only [hp]
              clear hp hC hu hi hcl
              go_wp2
              exact ⟨rfl, γ, HCx.out.quiet (by decide) (by decide), rfl, fun _ _ _ h => h⟩
            · clear hp hC hu hi hcl
              go_wp2
              exact ⟨rfl, γ, HCx.out.quiet (by decide) (by decide), rfl, fun _ _ _ h => h⟩
            · clear hp hC hu hi hcl
              go_wp2
              exact ⟨rfl, γ, HCx.out.quiet (by decide) (by decide), rfl, fun _ _ _ h => h⟩
            · simp only [hp]
              clear hp hC hu hi hcl
              go_wp2
              exact ⟨rfl, γ, HCx.out.quiet (by decide) (by decide), rfl, fun _ _ _ h => h⟩
            · simp only [hp]
              clear hp hC hu hi hcl
              go_wp2
              exact ⟨rfl, γ, HCx.out.quiet (by decide) (by decide), rfl, fun _ _ _ h => h⟩
            · simp only [hp]
              clear hp hC hu hi hcl
              go_wp2
              exact ⟨rfl, γ, HCx.out.quiet (by decide) (by decide), rfl, fun _ _ _ h => h⟩
            · clear hp hC hu hi hcl
              go_wp2
              exact ⟨rfl, γ, HCx.out.quiet (by decide) (by decide), rfl, fun _ _ _ h => h⟩
            · simp only [hp]
              clear hp hC hu hi hcl
              go_wp2
              exact ⟨rfl, γ, HCx.out.quiet (by decide) (by decide), rfl, fun _ _ _ h => h⟩
            · simp only [hp]
              clear hp hC hu hi hcl
              go_wp2
              exact ⟨rfl, γ, HCx.out.quiet (by decide) (by decide), rfl, fun _ _ _ h => h⟩
            · have hB := Nat.le_trans (Nat.le_refl w.heap.size) hC.bel.size
              simp only [hp]
              clear hp hC hu hcl
              have HF := Lib.hid (HCx.out.lit_ (by decide) hB)
              go_wp2
              exact ⟨rfl, ⟨wx.heap.size, γ.A, γ.c⟩, HF.out, rfl, fun jj u hj h => RbV.lit (fun e => by rw [e, hi] at hj; cases hj) h⟩
            · obtain ⟨A2, c2, w2, hrun, hX⟩ := hC.app_ (P := Try.prog) (T := 30) (ty := 30) (by decide) (by simp [hu]) hi (Nat.le_refl _) Try.underlying30 info_tg rfl (by decide) (csT_len _) (csT_one _) hkn (by decide)
              have HF := Lib.hid hX
              have h21 : U 21 = false := by clear hC hp HCx hX HF hrun; cases h : U 21 <;> simp_all
              simp only [hp]
              clear hp hC hu hX hcl
              refine wpList_append_run rfl (.tmp 28) (.tmp 47) 30 rfl rfl rfl hrun ?_
              clear hrun
              go_wp2
              exact ⟨rfl, ⟨γ.g, A2, c2⟩, HF.out, rfl, fun jj u hj h => RbV.app (fun e => by rw [e, hi] at hj; cases hj) (fun e => by rw [e, h21] at hj; cases hj) h⟩
            · simp only [hp]
              clear hp hC hu hi hcl
              go_wp2
              exact ⟨rfl, γ, HCx.out.quiet (by decide) (by decide), rfl, fun _ _ _ h => h⟩
          · intro γ wz vals U hC hall hV
            have e21 := hV 21 (by simp)
            simp only [RbV] at e21
            have ho := hC.fin (hall 20 (by simp))
            rw [← HT3.out] at ho
            have HO := Lib.hid ho
            have HB := Lib.hid hC.bel
            simp only [fillA, if_true, Act.put]
            simp
            simp only [e21]
            obtain ⟨g9, A9, c9⟩ := γ
            simp only at HO ⊢
            clear e21 hV hC hall ho HC0
            go_wp2
            go_roundw
            case rel => exact ⟨k + 1, A9, c9, by omega, by go_num, rfl, HO, HK2, HB⟩
            case measure => simp [intOf]; omega
      · obtain rfl : k = L.length := by omega
        obtain ⟨g1, g2⟩ := HE0.out (fun i hi => HK.out i hi hi)
        have hr := HR.out
        rw [List.take_length] at hr
        have HF := Lib.hid (show ∃ A c, Ending.returned (.tuple #[.slice A' L.length c', .int .i64 0]) = .returned (.tuple #[.slice A R.length c, .int .i64 v]) ∧ SrAt csT 3 wr w.heap.size wr.heap.size A R ∧ Below w.heap.size w wr from by rw [g1, g2]; exact ⟨A', c', by simp, (SrAt.own csT_len hr (by simp)), HW.out⟩)
        clear g1 g2 hr HR HK HW
        go_wp2
        go_ret2
        exact HF.out
  · obtain ⟨g1, g2⟩ := rb_1 h1
    rw [g1, g2]
    have HNIL := Lib.hid (fun w' hb => got_nil 1 (w := w) (w' := w') hb)
    clear g1 g2 HA ha
    cases hv : vaB L
    · rw [hv] at HV
      have HV := Lib.hid HV
      clear hv h1
      go_enter Try.func30, Try.ntmps30
      go_wp2_with fail
      (with_reducible refine HV.out.mono ?_); rintro e w1 ⟨rfl, hd⟩
      have HF := Lib.hid (HNIL.out w1 hd.below)
      clear hd
      go_wp2
      go_ret2
      exact HF.out
    · have hb : b < 0 := by
        rcases Int.lt_or_le b 0 with h | h
        · exact h
        · exact absurd ⟨hv, h⟩ h1
      rw [hv] at HV
      have HV := Lib.hid HV
      clear hv h1
      go_enter Try.func30, Try.ntmps30
      go_wp2_with fail
      (with_reducible refine HV.out.mono ?_); rintro e w1 ⟨rfl, hd⟩
      have HF := Lib.hid (HNIL.out w1 hd.below)
      clear hd
      go_wp2
      go_ret2
      exact HF.out
end Go.Proofs.Ythmcdnomphmbiaa

