/-
  Layer 14: the walk of the statement on pairs (FairnessPairs). Every input; no condition.
-/
import Derived.Test.YtcdeecigiijabaaFaSmp
import Derived.Deep.LoopGhost
import Derived.LoopTactic
namespace Go.Proofs.Ytcdeecigiijabaa
open Go.ChangeShapes Go.WideShapes Go.ChangeAt Go.RowKit
set_option linter.unusedVariables false

theorem elems_more {B C : Nat} {a : Option Addr} {len : Nat} {w : World} (h : Elems B a len w) (hc : B ≤ C) : Elems C a len w := by
  refine ⟨h.1, fun i hi => ?_⟩
  obtain ⟨b, off, z, e1, e2, e3, e4, e5⟩ := h.2 i hi
  exact ⟨b, off, z, e1, by omega, e3, e4, e5⟩
def FpC (B : Nat) (a : Option Addr) (len cap K : Nat) (w0 : World) (fu : Nat) (w : World) : Prop := ∃ k, k + 20 * fu ≤ K ∧ Has B a len cap k w0 w
def FpR (_ _ : World) : Prop := 0 = 0
def FpV (B : Nat) (a : Sp) (i : Nat) (v : Value) (_ : World) : Prop :=
  match i with
  | 0 => v = .pointer (some ⟨B, 0, none⟩)
  | 1 => ∃ s, v = aggSp s
  | 2 => v = .pointer (some ⟨B, 0, none⟩)
  | 3 => ∃ s, v = aggSp s
  | 4 => v = .bool true
  | 5 => v = .bool false
  | 6 => v = .bool false
  | 7 => v = aggSp a
  | 8 => v = .pointer (some ⟨B, 0, none⟩)
  | 9 => ∃ s, v = aggSp s
  | 10 => v = .bool true
  | 11 => v = .bool false
  | 12 => v = .bool false
  | _ => True
theorem FpV.keep {B : Nat} {a : Sp} (i : Nat) (v : Value) (w w' : World) (h : FpR w w') (hv : FpV B a i v w) : FpV B a i v w' := by
  unfold FpV at *
  split at hv <;> first | exact hv | trivial
theorem FpC.step {B : Nat} {a : Option Addr} {len cap K fu : Nat} {w0 w : World} (h : FpC B a len cap K w0 (fu + 1) w) : FpC B a len cap K w0 fu w := by
  obtain ⟨k, hk, h1⟩ := h; exact ⟨k, by omega, h1⟩
theorem FpC.below {B : Nat} {a : Option Addr} {len cap K fu : Nat} {w0 w w' : World} (h : FpC B a len cap K w0 (fu + 1) w) (hb : Below w.heap.size w w') : FpC B a len cap K w0 fu w' := by
  obtain ⟨k, hk, h1⟩ := h; exact ⟨k, by omega, h1.below hb⟩
theorem FpC.has {B : Nat} {a : Option Addr} {len cap K fu k k' : Nat} {w0 w' : World} (hk : k + 20 * (fu + 1) ≤ K) (hk' : k' ≤ k + 20) (h : Has B a len cap k' w0 w') : FpC B a len cap K w0 fu w' := ⟨k', by omega, h⟩
set_option maxRecDepth 100000 in
set_option maxHeartbeats 8000000 in
theorem walkPairs14 (A : Option Addr) (len cap : Nat) (a b : Sp) (w : World) (he : Elems w.heap.size A len w) :
    Calls Try.prog 3 #[.slice A len cap, aggSp a, aggSp b] w (Calm (.bool true) w) := by
  have HA := Lib.hid (two_sp a b 24 w)
  have HN := Lib.hid (fun a b w => pairs14_any a b w)
  have HAW := Lib.hid (fun w => awake14_any w)
  have HAB := pairs14_any a b
  have HSM := Lib.hid (fun B a len cap k w0 w h hk => sample_any B a len cap k w0 w h hk)
  obtain ⟨w2, hw2⟩ : ∃ w2, (w.alloc (.cells (spC a) 24)).alloc (.cells (spC b) 24) = w2 := ⟨_, rfl⟩
  have hel : Elems w2.heap.size A len w2 := by
    rw [← hw2]
    exact elems_more (he.kept (((Below.refl _ w).alloc (Nat.le_refl _) _).alloc (by simp) _)) (by simp; omega)
  have hs2 : w2.heap.size = w.heap.size + 2 := by rw [← hw2]; simp
  rw [hw2] at HA
  have HG := Lib.hid (Has.new (cap := cap) hel)
  clear he hel
  obtain ⟨a0, a1, a2⟩ := a
  obtain ⟨b0, b1, b2⟩ := b
  unfold spC at hw2
  unfold aggSp at HAB
  simp only at HAB
  have HAB := Lib.hid HAB
  obtain ⟨B, hB⟩ : ∃ B, w2.heap.size = B := ⟨_, rfl⟩
  rw [hB] at HG
  have HBE := Lib.hid hB
  unfold Calm aggSp
  clear hs2 hB
  go_enter Try.func3, Try.ntmps3
  go_wp2_with fail
  (with_reducible refine (new_any A len cap _).mono ?_); rintro e w' ⟨rfl, rfl⟩
  simp only [HBE.out]
  go_wp2
  go_loopw [8] (fun s8 wr => ∃ k q : Nat, k ≤ 6 ∧ s8 = .int .i64 k ∧ q ≤ 260 * k ∧ Hid (Has B A len cap q w2 wr)) (fun s8 _ => 6 - (intOf s8).toNat)
  case atStart => exact ⟨0, 0, by omega, rfl, by omega, HG⟩
  case round =>
    obtain ⟨k, q, hk, rfl, hq, HG⟩ := hrel
    by_cases hlt : k < 6
    · have hlt' : (k : Int) < 6 := by omega
      have HC0 := Lib.hid (show FpC B A len cap (q + 260) w2 13 wr.drew from ⟨q, by omega, HG.out.drew⟩)
      have HCE := Lib.hid (fun (W : World) (fu : Nat) (hC : FpC B A len cap (q + 260) w2 fu W) => (HA.out W (HBE.out ▸ hC.choose_spec.2.2)).1)
      clear HG
      go_wp2_with fail
      refine wp_region_loose 34 (by kernel_rfl) (by kernel_rfl) (FpC B A len cap (q + 260) w2) FpR (FpV B ⟨a0, a1, a2⟩) rfl (fun i v w w' h hv => FpV.keep i v w w' h hv) HC0.out ?_ ?_
      · simp only [OblAll]
        refine ⟨?_, ?_, ?_, ?_, ?_, ?_, ?_, ?_, ?_, ?_, ?_, ?_, ?_, trivial⟩
        · intro fu wx vals hC hp
          clear hp
          simp only [fillA, if_true, Act.put]
          simp
          have HC := Lib.hid hC
          clear hC
          go_wp2
          exact ⟨rfl, HC.out.step, rfl, rfl⟩
        · intro fu wx vals hC hp
          simp [predL, predE, Region.binds, PreV, FpV] at hp
          simp only [fillA, if_true, Act.put]
          simp
          have HC := Lib.hid hC
          simp only [hp]
          clear hp
          obtain ⟨kk, hkk, hg'⟩ := hC
          have HX := Lib.hid (HSM.out B A len cap kk w2 wx hg' (by omega))
          clear hg'
          go_wp2_with fail
          (with_reducible refine HX.out.mono ?_)
          rintro e w' ⟨s, k', rfl, hk', hs, ho⟩
          have HF := Lib.hid (FpC.has hkk hk' hs)
          clear hs ho HX
          go_wp2
          exact ⟨rfl, HF.out, rfl, s, rfl⟩
        · intro fu wx vals hC hp
          clear hp
          simp only [fillA, if_true, Act.put]
          simp
          have HC := Lib.hid hC
          clear hC
          go_wp2
          exact ⟨rfl, HC.out.step, rfl, rfl⟩
        · intro fu wx vals hC hp
          simp [predL, predE, Region.binds, PreV, FpV] at hp
          simp only [fillA, if_true, Act.put]
          simp
          have HC := Lib.hid hC
          simp only [hp]
          clear hp
          obtain ⟨kk, hkk, hg'⟩ := hC
          have HX := Lib.hid (HSM.out B A len cap kk w2 wx hg' (by omega))
          clear hg'
          go_wp2_with fail
          (with_reducible refine HX.out.mono ?_)
          rintro e w' ⟨s, k', rfl, hk', hs, ho⟩
          have HF := Lib.hid (FpC.has hkk hk' hs)
          clear hs ho HX
          go_wp2
          exact ⟨rfl, HF.out, rfl, s, rfl⟩
        · intro fu wx vals hC hp
          simp [predL, predE, Region.binds, PreV, FpV] at hp
          simp only [fillA, if_true, Act.put]
          simp
          have HC := Lib.hid hC
          obtain ⟨⟨s, e1⟩, ⟨t, e3⟩⟩ := hp
          simp only [e1, e3]
          clear e1 e3 hC
          go_wp2_with fail
          (with_reducible refine (HN.out _ _ _).mono ?_); rintro e w9 ⟨rfl, hb⟩
          have HX := Lib.hid (HC.out.below hb)
          clear hb
          go_wp2
          exact ⟨rfl, HX.out, rfl, rfl⟩
        · intro fu wx vals hC hp
          simp [predL, predE, Region.binds, PreV, FpV] at hp
          simp only [fillA, if_true, Act.put]
          simp
          have HC := Lib.hid hC
          simp only [hp]
          clear hp hC
          go_wp2
          exact ⟨rfl, HC.out.step, rfl, rfl⟩
        · intro fu wx vals hC hp
          simp [predL, predE, Region.binds, PreV, FpV] at hp
          simp only [fillA, if_true, Act.put]
          simp
          have HC := Lib.hid hC
          simp only [hp]
          clear hp hC
          go_wp2
          exact ⟨rfl, HC.out.step, rfl, rfl⟩
        · intro fu wx vals hC hp
          simp [predL, predE, Region.binds, PreV, FpV] at hp
          simp only [fillA, if_true, Act.put]
          simp
          have HC := Lib.hid hC
          have hcc := HCE.out wx _ hC
          have h0 := hcc.1
          have h1 := hcc.2.1
          have h2 := hcc.2.2.1
          simp only [hp]
          clear hp hC hcc
          go_wp2
          exact ⟨rfl, HC.out.step, rfl, rfl⟩
        · intro fu wx vals hC hp
          simp [predL, predE, Region.binds, PreV, FpV] at hp
          simp only [fillA, if_true, Act.put]
          simp
          have HC := Lib.hid hC
          simp only [hp]
          clear hp hC
          go_wp2
          exact ⟨rfl, HC.out.step, rfl, rfl⟩
        · intro fu wx vals hC hp
          simp [predL, predE, Region.binds, PreV, FpV] at hp
          simp only [fillA, if_true, Act.put]
          simp
          have HC := Lib.hid hC
          simp only [hp]
          clear hp
          obtain ⟨kk, hkk, hg'⟩ := hC
          have HX := Lib.hid (HSM.out B A len cap kk w2 wx hg' (by omega))
          clear hg'
          go_wp2_with fail
          (with_reducible refine HX.out.mono ?_)
          rintro e w' ⟨s, k', rfl, hk', hs, ho⟩
          have HF := Lib.hid (FpC.has hkk hk' hs)
          clear hs ho HX
          go_wp2
          exact ⟨rfl, HF.out, rfl, s, rfl⟩
        · intro fu wx vals hC hp
          simp [predL, predE, Region.binds, PreV, FpV] at hp
          simp only [fillA, if_true, Act.put]
          simp
          have HC := Lib.hid hC
          have hp7 := hp.1
          have hp9 := hp.2.1
          have hp6 := hp.2.2
          obtain ⟨t, e9⟩ := hp9
          simp only [hp6, hp7, e9]
          clear hp7 e9 hp6 hp hC
          go_wp2_with fail
          (with_reducible refine (HN.out ⟨a0, a1, a2⟩ _ _).mono ?_); rintro e w9 ⟨rfl, hb⟩
          have HX := Lib.hid (HC.out.below hb)
          clear hb
          go_wp2
          exact ⟨rfl, HX.out, rfl, rfl⟩
        · intro fu wx vals hC hp
          simp [predL, predE, Region.binds, PreV, FpV] at hp
          simp only [fillA, if_true, Act.put]
          simp
          have HC := Lib.hid hC
          simp only [hp]
          clear hp hC
          go_wp2
          exact ⟨rfl, HC.out.step, rfl, rfl⟩
        · intro fu wx vals hC hp
          simp [predL, predE, Region.binds, PreV, FpV] at hp
          simp only [fillA, if_true, Act.put]
          simp
          have HC := Lib.hid hC
          simp only [hp]
          clear hp hC
          go_wp2
          exact ⟨rfl, HC.out.step, rfl, rfl⟩
      · intro wz vals hC hV
        have e12 := hV 12 (by simp)
        simp only [FpV] at e12
        obtain ⟨k3, hk3, h3⟩ := hC
        have HG1 := Lib.hid h3
        simp only [fillA, if_true, Act.put]
        simp
        simp only [e12]
        clear e12 hV h3 HC0
        generalize vals 0 = u0 at *
        generalize vals 1 = u1 at *
        generalize vals 2 = u2 at *
        generalize vals 3 = u3 at *
        generalize vals 4 = u4 at *
        generalize vals 5 = u5 at *
        generalize vals 6 = u6 at *
        generalize vals 7 = u7 at *
        generalize vals 8 = u8 at *
        generalize vals 9 = u9 at *
        generalize vals 10 = u10 at *
        generalize vals 11 = u11 at *
        go_wp2
        go_roundw
        case rel => exact ⟨k + 1, k3, by omega, by go_num, by omega, HG1⟩
        case measure => simp [intOf]; omega
    · obtain rfl : k = 6 := by omega
      have hcc := (HA.out wr (HBE.out ▸ HG.out.2)).1
      obtain ⟨h0, h1, h2, h3, h4, h5⟩ := hcc
      go_wp2_with fail
      (with_reducible refine (HAB.out _).mono ?_); rintro e w3 ⟨rfl, hb⟩
      have HG3 := Lib.hid (HG.out.below hb)
      clear hb HG h0 h1 h2 h3 h4 h5
      go_wp2_with fail
      (with_reducible refine (HAW.out _).mono ?_); rintro e w4 ⟨rfl, hb⟩
      have HG4 := Lib.hid (HA.out w4 (HBE.out ▸ (HG3.out.below hb).2)).2
      clear hb HG3
      go_wp2
      go_ret
      exact ⟨rfl, HG4.out⟩
end Go.Proofs.Ytcdeecigiijabaa

