/-
  Layer 9: contract of Format.
-/
import Derived.Test.YtfkbohfelacaoaaDoorRuRefF
import Derived.Test.YtfkbohfelacaoaaDoorLoose
namespace Go.Proofs.YtfkbohfelacaoaaDoor
open Go.ChangeShapes Go.WideShapes Go.ChangeAt Go.RowKit
set_option linter.unusedVariables false

def FoC (W0 : World) (st : ByteArray) (c f l n : Int) (_ : Nat) (w : World) : Prop := Whole w W0.heap.size 29 #[.string st, .int .i64 c, .int .i64 f, .int .i64 l, .int .i64 n] ∧ WS w ∧ Below W0.heap.size W0 w
def FoR (w w' : World) : Prop := Below w.heap.size w w'
/-- A row of four strings. -/
def Row4 (a b c d : ByteArray) (v : Value) (w : World) : Prop := ∃ g, v = .slice (some ⟨g, 0, none⟩) 4 4 ∧ g < w.heap.size ∧ w.cell? ⟨g, 0, none⟩ = some (.string a) ∧ w.cell? ⟨g, 1, none⟩ = some (.string b) ∧ w.cell? ⟨g, 2, none⟩ = some (.string c) ∧ w.cell? ⟨g, 3, none⟩ = some (.string d)
theorem Row4.later {a b c d : ByteArray} {v : Value} {w w' : World} (h : Row4 a b c d v w) (hb : Below w.heap.size w w') : Row4 a b c d v w' := by
  obtain ⟨g, e, hg, h0, h1, h2, h3⟩ := h
  exact ⟨g, e, Nat.lt_of_lt_of_le hg hb.size, cell_later h0 hb, cell_later h1 hb, cell_later h2 hb, cell_later h3 hb⟩
theorem Row4.new (a b c d : ByteArray) (w : World) (t : TypeId) : Row4 a b c d (.slice (some ⟨w.heap.size, 0, none⟩) 4 4) (w.alloc (.cells #[.string a, .string b, .string c, .string d] t)) :=
  ⟨_, rfl, by simp, (Whole.fresh w t _).read 0, (Whole.fresh w t _).read 1, (Whole.fresh w t _).read 2, (Whole.fresh w t _).read 3⟩
theorem FoC.ws {W0 w : World} {st : ByteArray} {c f l n : Int} {k : Nat} (h : FoC W0 st c f l n k w) : WS w := h.2.1
theorem FoC.bl {W0 w : World} {st : ByteArray} {c f l n : Int} {k : Nat} (h : FoC W0 st c f l n k w) : Below W0.heap.size W0 w := h.2.2
def FoV (B : Nat) (st : ByteArray) (c f l n : Int) (S C P G : ByteArray) : Nat → Value → World → Prop
  | 0, v, _ => v = .pointer (some ⟨B, 0, none⟩)
  | 1, v, _ => v = .string st
  | 2, v, _ => v = .string S
  | 3, v, _ => v = .pointer (some ⟨B, 1, none⟩)
  | 4, v, _ => v = .int .i64 c
  | 5, v, _ => v = .string C
  | 6, v, _ => v = .pointer (some ⟨B, 2, none⟩)
  | 7, v, _ => v = .int .i64 f
  | 8, v, _ => v = .pointer (some ⟨B, 3, none⟩)
  | 9, v, _ => v = .int .i64 l
  | 10, v, _ => v = .string P
  | 11, v, _ => v = .pointer (some ⟨B, 4, none⟩)
  | 12, v, _ => v = .int .i64 n
  | 13, v, _ => v = .string G
  | 14, v, _ => v = .string (⟨#[62]⟩ ++ G)
  | 15, v, w => Row4 S C P (⟨#[62]⟩ ++ G) v w
  | 16, v, w => Row4 S C P (⟨#[62]⟩ ++ G) v w
  | _, _, _ => True
theorem FoV.keep {B : Nat} {st : ByteArray} {c f l n : Int} {S C P G : ByteArray} (i : Nat) (v : Value) (w w' : World) (h : FoR w w') (hv : FoV B st c f l n S C P G i v w) : FoV B st c f l n S C P G i v w' := by
  unfold FoV at *
  split at hv <;> first | exact hv | exact hv.later h | trivial
theorem FoC.step {W0 w w' : World} {st : ByteArray} {c f l n : Int} {k k' : Nat} (h : FoC W0 st c f l n k w) (hb : Below w.heap.size w w') : FoC W0 st c f l n k' w' := ⟨h.1.later hb, h.2.1.below hb, h.2.2.trans (hb.mono h.2.2.size)⟩
theorem join_txt (st : ByteArray) (c : Int) (f l n : Nat) : (⟨(Lib.join ([stS st, clS c, poS f l, ⟨#[62]⟩ ++ decS n].map (·.data.toList)) [32]).toArray⟩ : ByteArray) = ⟨(txtL ⟨st, c, f, l, n⟩).toArray⟩ := by
  rw [← txt_str]
  apply ByteArray.ext; apply Array.toList_inj.1
  simp [Lib.join, List.intercalate]
set_option maxRecDepth 100000 in
set_option maxHeartbeats 4000000 in
theorem format_yes (st : ByteArray) (c : Int) (f l n : Nat) (hr : ruOk ⟨st, c, f, l, n⟩ = true) (w : World) (hw : WS w) : Calls Tryd.prog 15 #[.agg #[.string st, .int .i64 c, .int .i64 f, .int .i64 l, .int .i64 n]] w fun e w' => e = .returned (.tuple #[.string ⟨(txtL ⟨st, c, f, l, n⟩).toArray⟩, .int .i64 0]) ∧ Below w.heap.size w w' := by
  obtain ⟨hst, ⟨c0, c1⟩, ⟨f0, f1, f2⟩, ⟨n0, n1⟩⟩ := ruOk_parts hr
  simp only at hst c0 c1 f0 f1 f2 n0 n1
  have hs24 : st.size ≤ 24 := hst.elim (fun h => by omega) nam_small
  have hf : f ≤ 65535 := by omega
  have hl : l ≤ 65535 := by omega
  have hn : n ≤ 31 := by omega
  have HV := Lib.hid (fun w => rval_any st c f l n w)
  rw [hr] at HV
  unfold BoolAns at HV
  have HS := Lib.hid (fun w => formatStation_any st w)
  have HC := Lib.hid (fun w (h : WS w) => formatClass_any c c0 c1 w h)
  have HP := Lib.hid (fun w (h : WS w) => formatPorts_any f l hf hl w h)
  have HG := Lib.hid (fun w (h : WS w) => itoa_is n (by omega) w h)
  have HJ := Lib.hid (join_txt st c f l n)
  have s1 : (stS st).size ≤ 24 := by unfold stS; split; decide; exact hs24
  have s2 : (clS c).size ≤ 5 := by
    unfold clS; split
    · decide
    · exact decS_size _ 5 (by decide) (by omega)
  have s3 : (poS f l).size ≤ 11 := by rw [Lib.size_eq]; exact pairL_len hf hl
  have s4 := decS_size n 5 (by decide) (by omega)
  have hz := Whole.fresh w 29 #[.string st, .int .i64 c, .int .i64 f, .int .i64 l, .int .i64 n]
  have HZ := Lib.hid hz
  have hW := Lib.hid hw
  clear hz hr hst f0 f1 f2 n0 n1 c0 c1 hf hl hn hw
  generalize stS st = S at *
  generalize clS c = C at *
  generalize poS f l = P at *
  generalize decS n = G at *
  generalize (⟨(txtL ⟨st, c, f, l, n⟩).toArray⟩ : ByteArray) = X at *
  generalize ((f : Nat) : Int) = fi at *
  generalize ((l : Nat) : Int) = li at *
  generalize ((n : Nat) : Int) = ni at *
  go_enter Tryd.func15, Tryd.ntmps15
  go_wp2_with fail
  (with_reducible refine (HV.out _).mono ?_); rintro e w1 ⟨rfl, hb⟩
  have hC0 : FoC w st c fi li ni 17 w1 := ⟨HZ.out.later hb, hW.out.below (((Below.refl _ _).alloc (Nat.le_refl _) _).trans (hb.mono (by simp))), ((Below.refl _ _).alloc (Nat.le_refl _) _).trans (hb.mono (by simp))⟩
  have HC0 := Lib.hid hC0
  clear hC0 hb HZ hW HV
  go_wp2_with fail
  refine wp_region_loose 26 (by kernel_rfl) (by kernel_rfl) (FoC w st c fi li ni) FoR (FoV w.heap.size st c fi li ni S C P G) rfl (fun i v w w' h hv => FoV.keep i v w w' h hv) ?_ ?_ ?_
  · exact HC0.out.step (Below.refl _ _).drew
  · simp only [OblAll]
    refine ⟨?_, ?_, ?_, ?_, ?_, ?_, ?_, ?_, ?_, ?_, ?_, ?_, ?_, ?_, ?_, ?_, ?_, trivial⟩
    all_goals
      intro fu wx vals hC hp
      simp [predL, predE, Region.binds, PreV, FoV] at hp
      simp only [fillA, if_true, Act.put]
      simp
      have HCx := Lib.hid hC
      have d0 := hC.1.read 0
      have d1 := hC.1.read 1
      have d2 := hC.1.read 2
      have d3 := hC.1.read 3
      have d4 := hC.1.read 4
      simp at d0 d1 d2 d3 d4
      have HR0 := Lib.hid (show FoR wx wx from Below.refl _ _)
      clear hC
    · go_wp2
      exact ⟨rfl, HCx.out.step (Below.refl _ _), HR0.out, rfl⟩
    · simp only [hp]
      clear hp
      go_wp2
      exact ⟨rfl, HCx.out.step (Below.refl _ _), HR0.out, rfl⟩
    · simp only [hp]
      clear hp
      go_wp2_with fail
      (with_reducible refine (HS.out _).mono ?_); rintro e w' ⟨rfl, rfl⟩
      go_wp2
      exact ⟨rfl, HCx.out.step (Below.refl _ _), HR0.out, rfl⟩
    · go_wp2
      exact ⟨rfl, HCx.out.step (Below.refl _ _), HR0.out, rfl⟩
    · simp only [hp]
      clear hp
      go_wp2
      exact ⟨rfl, HCx.out.step (Below.refl _ _), HR0.out, rfl⟩
    · simp only [hp]
      clear hp
      go_wp2_with fail
      (with_reducible refine (HC.out _ (FoC.ws HCx.out)).mono ?_); rintro e w' ⟨rfl, hb⟩
      have HB := Lib.hid hb
      go_wp2
      exact ⟨rfl, HCx.out.step HB.out, HB.out, rfl⟩
    · go_wp2
      exact ⟨rfl, HCx.out.step (Below.refl _ _), HR0.out, rfl⟩
    · simp only [hp]
      clear hp
      go_wp2
      exact ⟨rfl, HCx.out.step (Below.refl _ _), HR0.out, rfl⟩
    · go_wp2
      exact ⟨rfl, HCx.out.step (Below.refl _ _), HR0.out, rfl⟩
    · simp only [hp]
      clear hp
      go_wp2
      exact ⟨rfl, HCx.out.step (Below.refl _ _), HR0.out, rfl⟩
    · obtain ⟨e1, e2⟩ := hp
      simp only [e1, e2]
      clear e1 e2
      go_wp2_with fail
      (with_reducible refine (HP.out _ (FoC.ws HCx.out)).mono ?_); rintro e w' ⟨rfl, hb⟩
      have HB := Lib.hid hb
      go_wp2
      exact ⟨rfl, HCx.out.step HB.out, HB.out, rfl⟩
    · go_wp2
      exact ⟨rfl, HCx.out.step (Below.refl _ _), HR0.out, rfl⟩
    · simp only [hp]
      clear hp
      go_wp2
      exact ⟨rfl, HCx.out.step (Below.refl _ _), HR0.out, rfl⟩
    · simp only [hp]
      clear hp
      go_wp2_with fail
      (with_reducible refine (HG.out _ (FoC.ws HCx.out)).mono ?_); rintro e w' ⟨rfl, hb⟩
      have HB := Lib.hid hb
      go_wp2
      exact ⟨rfl, HCx.out.step HB.out, HB.out, rfl⟩
    · simp only [hp]
      clear hp
      go_wp2
      exact ⟨rfl, HCx.out.step (Below.refl _ _), HR0.out, rfl⟩
    · obtain ⟨e1, e2, e3, e4⟩ := hp
      simp only [e1, e2, e3, e4]
      clear e1 e2 e3 e4
      go_wp2
      exact ⟨rfl, HCx.out.step ((Below.refl _ _).alloc (Nat.le_refl _) _), (Below.refl _ _).alloc (Nat.le_refl _) _, Row4.new _ _ _ _ _ _⟩
    · obtain ⟨⟨g, e1, hg⟩, _⟩ := hp
      simp only [e1]
      have HX := Lib.hid hg
      clear e1 hg
      go_wp2
      exact ⟨rfl, HCx.out.step (Below.refl _ _), HR0.out, g, rfl, HX.out⟩
  · intro w2 vals hC hV
    obtain ⟨g, e16, hg, k0, k1, k2, k3⟩ := (show Row4 S C P (⟨#[62]⟩ ++ G) (vals 16) w2 from hV 16 (by simp))
    have HB := Lib.hid (FoC.bl hC)
    have HJ2 := Lib.hid (show Calls Tryd.prog 37 #[.slice (some ⟨g, 0, none⟩) 4 4, .string ⟨#[32]⟩] w2 (fun e w' => e = .returned (.string ⟨(Lib.join ([S, C, P, ⟨#[62]⟩ ++ G].map (·.data.toList)) [32]).toArray⟩) ∧ Below w2.heap.size w2 w') from strings_Join g 0 4 [S, C, P, ⟨#[62]⟩ ++ G] ⟨#[32]⟩ w2 (fun j x hj => by
      match j, hj with
      | 0, hj => cases hj; exact k0
      | 1, hj => cases hj; exact k1
      | 2, hj => cases hj; exact k2
      | 3, hj => cases hj; exact k3) hg (by simp) (by simp) (by
        have z : ∀ (b : ByteArray), b.data.toList.length = b.size := fun b => by rw [Lib.size_eq]
        simp [Lib.join, List.intercalate]
        have := z S; have := z C; have := z P; have := z G
        simp at *
        omega))
    simp only [fillA, if_true, Act.put]
    simp
    simp only [e16]
    clear hV hC e16 k0 k1 k2 k3 hg HC HS HP HG
    go_wp2_with fail
    (with_reducible refine HJ2.out.mono ?_); rintro e w3 ⟨rfl, hb⟩
    have HF := Lib.hid (HB.out.trans (hb.mono HB.out.size))
    clear hb
    go_wp2
    go_ret2
    exact ⟨ret_fo HJ.out rfl, HF.out⟩
set_option maxHeartbeats 1000000 in
theorem format_no (st : ByteArray) (c f l n : Int) (hr : ruOk ⟨st, c, f, l, n⟩ = false) (w : World) : Calls Tryd.prog 15 #[.agg #[.string st, .int .i64 c, .int .i64 f, .int .i64 l, .int .i64 n]] w fun e w' => e = .returned (.tuple #[.string ⟨#[]⟩, .int .i64 1]) ∧ Below w.heap.size w w' := by
  have HV := Lib.hid (fun w => rval_any st c f l n w)
  rw [hr] at HV
  unfold BoolAns at HV
  clear hr
  go_enter Tryd.func15, Tryd.ntmps15
  go_wp2_with fail
  (with_reducible refine (HV.out _).mono ?_); rintro e w1 ⟨rfl, hb⟩
  have HB := Lib.hid (((Below.refl _ _).alloc (Nat.le_refl _) _).trans (hb.mono (by simp)))
  clear hb
  go_wp2
  go_ret2
  exact ⟨rfl, HB.out⟩
theorem format_any (st : ByteArray) (c f l n : Int) (w : World) (hw : WS w) : Calls Tryd.prog 15 #[.agg #[.string st, .int .i64 c, .int .i64 f, .int .i64 l, .int .i64 n]] w (FoAns ⟨st, c, f, l, n⟩ w) := by
  unfold FoAns foS foE
  cases hr : ruOk ⟨st, c, f, l, n⟩ with
  | false => exact format_no st c f l n hr w
  | true =>
    obtain ⟨_, _, ⟨f0, f1, f2⟩, ⟨n0, n1⟩⟩ := ruOk_parts hr
    simp only at f0 f1 f2 n0 n1
    obtain ⟨a, rfl⟩ := Int.eq_ofNat_of_zero_le f0
    obtain ⟨b, rfl⟩ := Int.eq_ofNat_of_zero_le (show 0 ≤ l by omega)
    obtain ⟨d, rfl⟩ := Int.eq_ofNat_of_zero_le n0
    exact format_yes st c a b d hr w hw
end Go.Proofs.YtfkbohfelacaoaaDoor

