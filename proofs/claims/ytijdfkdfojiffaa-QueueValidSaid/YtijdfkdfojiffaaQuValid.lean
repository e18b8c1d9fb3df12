/-
  Layer 11: the walk of the statement on valid packets (QueueValid). Every input; no condition.
-/
import Derived.Test.YtijdfkdfojiffaaQuKeep
namespace Go.Proofs.Ytijdfkdfojiffaa
open Go.ChangeShapes Go.WideShapes Go.ChangeAt Go.RowKit
set_option linter.unusedVariables false

/-- Both ways to say whether a packet is valid. -/
def VaV (i f l a d : Int) (g : Bool) (n : Nat) (v : Value) (_ : World) : Prop :=
  match n with
  | 0 => v = .agg #[.int .i64 i, .int .i64 f, .int .i64 l, .int .i64 a, .int .i64 d]
  | 1 => v = .bool g
  | 2 => v = .agg #[.int .i64 i, .int .i64 f, .int .i64 l, .int .i64 a, .int .i64 d]
  | 3 => v = .bool g
  | 4 => v = .bool false
  | _ => True
def VbV (i f l a d : Int) (g : Bool) (n : Nat) (v : Value) (_ : World) : Prop :=
  match n with
  | 0 => v = .agg #[.int .i64 i, .int .i64 f, .int .i64 l, .int .i64 a, .int .i64 d]
  | 1 => v = .bool g
  | 2 => v = .agg #[.int .i64 i, .int .i64 f, .int .i64 l, .int .i64 a, .int .i64 d]
  | 3 => v = .bool g
  | 4 => v = .bool true
  | 5 => v = .bool true
  | 6 => v = .bool true
  | 7 => v = .bool true
  | 8 => v = .bool true
  | _ => True
set_option maxRecDepth 100000 in
set_option maxHeartbeats 8000000 in
theorem walkValid11 (A : Option Addr) (len cap : Nat) (p : Pk) (w : World) (he : Elems w.heap.size A len w) :
    Calls Try.prog 4 #[.slice A len cap, aggP p] w fun e w' => e = .returned (.bool true) ∧ Below w.heap.size w w' := by
  have hbox := (Below.refl w.heap.size w).alloc (Nat.le_refl _) (.cells #[.int .i64 p.i, .int .i64 p.f, .int .i64 p.l, .int .i64 p.a, .int .i64 p.d] 40)
  have hE : Elems (w.heap.size + 1) A len (w.alloc (.cells #[.int .i64 p.i, .int .i64 p.f, .int .i64 p.l, .int .i64 p.a, .int .i64 p.d] 40)) := by
    have := he.kept hbox
    refine ⟨this.1, fun i hi => ?_⟩
    obtain ⟨b, off, z, e1, e2, r⟩ := this.2 i hi
    exact ⟨b, off, z, e1, by omega, r⟩
  have hg := Has.new (cap := cap) (w := w.alloc (.cells #[.int .i64 p.i, .int .i64 p.f, .int .i64 p.l, .int .i64 p.a, .int .i64 p.d] 40)) (by simpa using hE)
  have HP0 := Lib.hid ((Whole.fresh w 40 #[.int .i64 p.i, .int .i64 p.f, .int .i64 p.l, .int .i64 p.a, .int .i64 p.d]).alloc (.cells #[.slice A len cap, .int .i64 0] 54))
  have HV1 := Lib.hid (fun p w => qvalid_any p w)
  have HV2 := Lib.hid (fun p w => rvalid_any p w)
  have HAW := Lib.hid (fun w => awake11_any w)
  unfold Calm at HAW
  rw [show (w.alloc (.cells #[.int .i64 p.i, .int .i64 p.f, .int .i64 p.l, .int .i64 p.a, .int .i64 p.d] 40)).heap.size = w.heap.size + 1 by simp] at hg
  have HG := Lib.hid hg
  have HB0 := Lib.hid hbox
  clear he hE hg hbox
  unfold aggP
  go_enter Try.func4, Try.ntmps4
  go_wp2_with (go_at_call 7; (with_reducible refine (new_any A len cap _).mono ?_); rintro e w' ⟨rfl, rfl⟩)
  go_wp2_with fail
  go_loopw [6] (fun s6 wr => ∃ (j k : Nat), j ≤ 20 ∧ s6 = .int .i64 j ∧ k ≤ 40 * j ∧ Hid (Has (w.heap.size + 1) A len cap k (w.alloc (.cells #[.int .i64 p.i, .int .i64 p.f, .int .i64 p.l, .int .i64 p.a, .int .i64 p.d] 40)) wr) ∧ Hid (Whole wr w.heap.size 40 #[.int .i64 p.i, .int .i64 p.f, .int .i64 p.l, .int .i64 p.a, .int .i64 p.d])) (fun s6 _ => 20 - (intOf s6).toNat)
  case atStart => exact ⟨0, 0, Nat.zero_le _, rfl, by omega, HG, HP0⟩
  case round =>
    obtain ⟨j, k, hj, rfl, hk, HS, HP⟩ := hrel
    by_cases hlt : j < 20
    · have hlt' : (j : Int) < 20 := by omega
      have HX := Lib.hid (some_any (w.heap.size + 1) A len cap k (j : Int) wr HS.out.1 (by omega))
      go_wp2_with fail
      (with_reducible refine HX.out.mono ?_); intro e w1 hx
      obtain ⟨q, rfl, _, ⟨k', hk', hg'⟩, ho⟩ := hx
      have HS1 := Lib.hid (show Has (w.heap.size + 1) A len cap k' (w.alloc (.cells #[.int .i64 p.i, .int .i64 p.f, .int .i64 p.l, .int .i64 p.a, .int .i64 p.d] 40)) w1 from ⟨hg', HS.out.2.trans (ho.below (by have := HS.out.1.lt; omega))⟩)
      have HP1 := Lib.hid (HP.out.carry (ho.block _ HP.out.size_lt (by omega)))
      have hv1 := HV1.out q
      have hv2 := HV2.out q
      obtain ⟨g, hgq⟩ : ∃ g, pkOk q = g := ⟨_, rfl⟩
      rw [hgq] at hv1 hv2
      obtain ⟨q0, q1, q2, q3, q4⟩ := q
      unfold aggP at hv1
      unfold aggP at hv2 ⊢
      simp only at hv1 hv2 ⊢
      have HVa := Lib.hid hv1
      have HVb := Lib.hid hv2
      have HQ := Lib.hid (Whole.fresh w1 40 #[.int .i64 q0, .int .i64 q1, .int .i64 q2, .int .i64 q3, .int .i64 q4])
      have HC0 := Lib.hid (show QbC (w1.alloc (.cells #[.int .i64 q0, .int .i64 q1, .int .i64 q2, .int .i64 q3, .int .i64 q4] 40)) 5 (w1.alloc (.cells #[.int .i64 q0, .int .i64 q1, .int .i64 q2, .int .i64 q3, .int .i64 q4] 40)).drew from (Below.refl _ _).drew)
      have HS2 := Lib.hid (HS1.out.alloc (.cells #[.int .i64 q0, .int .i64 q1, .int .i64 q2, .int .i64 q3, .int .i64 q4] 40))
      have HP2 := Lib.hid (HP1.out.alloc (.cells #[.int .i64 q0, .int .i64 q1, .int .i64 q2, .int .i64 q3, .int .i64 q4] 40))
      clear hg' ho hv1 hv2 hgq HX HS HP HS1 HP1
      go_wp2_with fail
      refine wp_region_loose 30 (by kernel_rfl) (by kernel_rfl) (QbC (w1.alloc (.cells #[.int .i64 q0, .int .i64 q1, .int .i64 q2, .int .i64 q3, .int .i64 q4] 40))) QbR (VaV q0 q1 q2 q3 q4 g) rfl (fun i v w w' _ hv => hv) HC0.out ?_ ?_
      · simp only [OblAll]
        refine ⟨?_, ?_, ?_, ?_, ?_, trivial⟩
        all_goals
          intro fu wx vals hC hp
          simp [predL, predE, Region.binds, PreV, VaV] at hp
          simp only [fillA, if_true, Act.put]
          simp
          have HCx := Lib.hid hC
          have hw := HQ.out.later hC
          have y0 := hw.read 0
          have y1 := hw.read 1
          have y2 := hw.read 2
          have y3 := hw.read 3
          have y4 := hw.read 4
          simp at y0 y1 y2 y3 y4
          have HR0 := Lib.hid (show QbR wx wx from Below.refl _ _)
          clear hC hw
        · go_wp2
          exact ⟨rfl, HCx.out.step (Below.refl _ _), HR0.out, rfl⟩
        · simp only [hp]
          clear hp
          go_wp2_with fail
          (with_reducible refine (HVa.out _).mono ?_); rintro e w' ⟨rfl, hb⟩
          have HB := Lib.hid hb
          clear hb y0 y1 y2 y3 y4
          go_wp2
          exact ⟨rfl, HCx.out.step HB.out, HB.out, rfl⟩
        · go_wp2
          exact ⟨rfl, HCx.out.step (Below.refl _ _), HR0.out, rfl⟩
        · simp only [hp]
          clear hp
          go_wp2_with fail
          (with_reducible refine (HVb.out _).mono ?_); rintro e w' ⟨rfl, hb⟩
          have HB := Lib.hid hb
          clear hb y0 y1 y2 y3 y4
          go_wp2
          exact ⟨rfl, HCx.out.step HB.out, HB.out, rfl⟩
        · have hgg : (g != g) = false := by simp
          simp only [hp]
          clear hp
          go_wp2
          exact ⟨rfl, HCx.out.step (Below.refl _ _), HR0.out, rfl⟩
      · intro wz vals hC hV
        have e4 := hV 4 (by simp)
        simp only [VaV] at e4
        simp only [fillA, if_true, Act.put]
        simp
        simp only [e4]
        have HS3 := Lib.hid (HS2.out.below hC)
        have HP3 := Lib.hid (HP2.out.later hC)
        clear e4 hV hC HS2 HP2 HC0
        go_wp2
        go_roundw
        case rel => exact ⟨j + 1, k', by omega, by go_num, by omega, HS3, HP3⟩
        case measure => simp [intOf]; omega
    · obtain rfl : j = 20 := by omega
      have hv1 := HV1.out p
      have hv2 := HV2.out p
      obtain ⟨g, hgq⟩ : ∃ g, pkOk p = g := ⟨_, rfl⟩
      rw [hgq] at hv1 hv2
      unfold aggP at hv1
      unfold aggP at hv2
      have HVa := Lib.hid hv1
      have HVb := Lib.hid hv2
      have HC0 := Lib.hid (show QbC wr 9 wr.drew from (Below.refl _ _).drew)
      have HBE := Lib.hid (show Below w.heap.size w wr from HB0.out.trans (HS.out.2.mono (by omega)))
      clear hv1 hv2 hgq HS
      go_wp2_with fail
      refine wp_region_loose 30 (by kernel_rfl) (by kernel_rfl) (QbC wr) QbR (VbV p.i p.f p.l p.a p.d g) rfl (fun i v w w' _ hv => hv) HC0.out ?_ ?_
      · simp only [OblAll]
        refine ⟨?_, ?_, ?_, ?_, ?_, ?_, ?_, ?_, ?_, trivial⟩
        all_goals
          intro fu wx vals hC hp
          simp [predL, predE, Region.binds, PreV, VbV] at hp
          simp only [fillA, if_true, Act.put]
          simp
          have HCx := Lib.hid hC
          have hw := HP.out.later hC
          have y0 := hw.read 0
          have y1 := hw.read 1
          have y2 := hw.read 2
          have y3 := hw.read 3
          have y4 := hw.read 4
          simp at y0 y1 y2 y3 y4
          have HR0 := Lib.hid (show QbR wx wx from Below.refl _ _)
          clear hC hw
        · go_wp2
          exact ⟨rfl, HCx.out.step (Below.refl _ _), HR0.out, rfl⟩
        · simp only [hp]
          clear hp
          go_wp2_with fail
          (with_reducible refine (HVa.out _).mono ?_); rintro e w' ⟨rfl, hb⟩
          have HB := Lib.hid hb
          clear hb y0 y1 y2 y3 y4
          go_wp2
          exact ⟨rfl, HCx.out.step HB.out, HB.out, rfl⟩
        · go_wp2
          exact ⟨rfl, HCx.out.step (Below.refl _ _), HR0.out, rfl⟩
        · simp only [hp]
          clear hp
          go_wp2_with fail
          (with_reducible refine (HVb.out _).mono ?_); rintro e w' ⟨rfl, hb⟩
          have HB := Lib.hid hb
          clear hb y0 y1 y2 y3 y4
          go_wp2
          exact ⟨rfl, HCx.out.step HB.out, HB.out, rfl⟩
        · have hgg : (g == g) = true := by simp
          simp only [hp]
          clear hp
          go_wp2
          exact ⟨rfl, HCx.out.step (Below.refl _ _), HR0.out, rfl⟩
        · simp only [hp]
          clear hp
          go_wp2
          exact ⟨rfl, HCx.out.step (Below.refl _ _), HR0.out, rfl⟩
        · simp only [hp]
          clear hp
          go_wp2_with fail
          (with_reducible refine (HAW.out _).mono ?_); rintro e w' ⟨rfl, hb⟩
          have HB := Lib.hid hb
          clear hb y0 y1 y2 y3 y4
          go_wp2
          exact ⟨rfl, HCx.out.step HB.out, HB.out, rfl⟩
        · simp only [hp]
          clear hp
          go_wp2
          exact ⟨rfl, HCx.out.step (Below.refl _ _), HR0.out, rfl⟩
        · simp only [hp]
          clear hp
          go_wp2
          exact ⟨rfl, HCx.out.step (Below.refl _ _), HR0.out, rfl⟩
      · intro wz vals hC hV
        have e4 := hV 8 (by simp)
        simp only [VbV] at e4
        simp only [fillA, if_true, Act.put]
        simp
        simp only [e4]
        have HE := Lib.hid (HBE.out.trans (Below.mono hC HBE.out.size))
        clear e4 hV hC
        go_wp2
        go_ret
        exact ⟨rfl, HE.out⟩
end Go.Proofs.Ytijdfkdfojiffaa

