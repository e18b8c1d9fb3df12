/-
  Layer 12: the walk of the statement on costs (TagsCost). Every input; no condition.
-/
import Derived.Test.YthmcdnomphmbiaaTgHelp
import Derived.Test.YthmcdnomphmbiaaLenGen
import Derived.Test.YthmcdnomphmbiaaDrw
import Derived.Test.YthmcdnomphmbiaaLoose
import Derived.Deep.LoopGhost
import Derived.LoopTactic
namespace Go.Proofs.Ythmcdnomphmbiaa
open Go.ChangeShapes Go.WideShapes Go.ChangeAt Go.RowKit
set_option linter.unusedVariables false

def TcC (B : Nat) (a : Option Addr) (len cap K : Nat) (w0 : World) (fu : Nat) (w : World) : Prop := ∃ k, k + fu ≤ K ∧ Has B a len cap k w0 w
def TcV (B : Nat) (i : Nat) (v : Value) (w : World) : Prop :=
  match i with
  | 0 => RwV B 0 4097 5 v w
  | 1 => v = .pointer (some ⟨B, 0, none⟩)
  | 2 => InV 0 4 v
  | 3 => PtV B 0 4097 v w
  | 4 => InV 0 4097 v
  | 5 => v = .pointer (some ⟨B, 0, none⟩)
  | 6 => InV 0 17 v
  | 7 => InV 0 4097 v
  | 8 => InV 0 17 v
  | _ => True
theorem TcV.keep {B : Nat} (i : Nat) (v : Value) (w w' : World) (h : DrR B w w') (hv : TcV B i v w) : TcV B i v w' := by
  unfold TcV at *
  split at hv <;> first | exact hv | exact h.row hv | exact h.ptr hv | trivial
theorem TcC.step {B : Nat} {a : Option Addr} {len cap K fu : Nat} {w0 w : World} (h : TcC B a len cap K w0 (fu + 1) w) : TcC B a len cap K w0 fu w := by
  obtain ⟨k, hk, h1⟩ := h; exact ⟨k, by omega, h1⟩
theorem TcC.below {B : Nat} {a : Option Addr} {len cap K fu : Nat} {w0 w w' : World} (h : TcC B a len cap K w0 (fu + 1) w) (hb : Below w.heap.size w w') : TcC B a len cap K w0 fu w' := by
  obtain ⟨k, hk, h1⟩ := h; exact ⟨k, by omega, h1.below hb⟩
def stL : List Int := [0, 1, 1099511627776, 1099510907056, 12345, -1, 1099511627777]
set_option maxRecDepth 100000 in
set_option maxHeartbeats 8000000 in
theorem walkCost (A : Option Addr) (len cap : Nat) (s l x : Int) (w : World) (he : Elems w.heap.size A len w) :
    Calls Try.prog 3 #[.slice A len cap, .int .i64 s, .int .i64 l, .int .i64 x] w (Calm (.bool true) w) := by
  have HG := Lib.hid (Has.new (cap := cap) he)
  have HN := Lib.hid (fun s l x w => costs_any s l x w)
  have HA := Lib.hid (fun w => awake12_any w)
  clear he
  unfold Calm
  go_enter Try.func3, Try.ntmps3
  go_wp2_with fail
  (with_reducible refine (new_any A len cap _).mono ?_); rintro e w' ⟨rfl, rfl⟩
  go_wp2
  go_loopw [10] (fun s8 wr => ∃ k q : Nat, k ≤ 5 ∧ s8 = .int .i64 k ∧ q ≤ 20 * k ∧ Hid (Has w.heap.size A len cap q w wr)) (fun s8 _ => 5 - (intOf s8).toNat)
  case atStart => exact ⟨0, 0, by omega, rfl, by omega, HG⟩
  case round =>
    obtain ⟨k, q, hk, rfl, hq, HG⟩ := hrel
    by_cases hlt : k < 5
    · have hlt' : (k : Int) < 5 := by omega
      have HX := Lib.hid (has_next w.heap.size A len cap q 7 w (wr.alloc (.cells #[.int .i64 0, .int .i64 1, .int .i64 1099511627776, .int .i64 1099510907056, .int .i64 12345, .int .i64 (-1), .int .i64 1099511627777] 2)) (HG.out.alloc _) (by omega) (by omega) (by omega))
      have hlb := HG.out.1.lt
      clear HG
      go_wp2_with fail
      (with_reducible refine HX.out.mono ?_)
      rintro e w1 ⟨z, z0, z1, rfl, hg1, ho1⟩
      obtain ⟨zz, rfl⟩ := Int.eq_ofNat_of_zero_le z0
      obtain ⟨y, _, hc⟩ := pickN (L := stL) rfl ho1 hlb (n := zz) (by show zz < 7; omega)
      have HC0 := Lib.hid (show TcC w.heap.size A len cap (q + 1 + 9) w 9 w1.drew from ⟨q + 1, by omega, hg1.drew⟩)
      clear hg1 ho1 hlb HX
      go_wp2_with fail
      refine wp_region_loose 55 (by kernel_rfl) (by kernel_rfl) (TcC w.heap.size A len cap (q + 1 + 9) w) (DrR w.heap.size) (TcV w.heap.size) rfl (fun i v w w' h hv => TcV.keep i v w w' h hv) HC0.out ?_ ?_
      · simp only [OblAll]
        refine ⟨?_, ?_, ?_, ?_, ?_, ?_, ?_, ?_, ?_, trivial⟩
        all_goals
          intro fu wx vals hC hp
          simp [predL, predE, Region.binds, PreV, TcV] at hp
          simp only [fillA, if_true, Act.put]
          simp
          have HCx := Lib.hid hC
        · have hB := hC.choose_spec.2.1.lt
          clear hp
          go_wp2
          exact ⟨rfl, HCx.out.below ((Below.refl _ _).alloc (Nat.le_refl _) _), DrR.below ((Below.refl _ _).alloc (Nat.le_refl _) _), RwV.new hB (L := [0, 1, 100, 4096, 4097]) rfl (by decide) rfl _⟩
        · clear hp
          go_wp2
          exact ⟨rfl, HCx.out.step, DrR.refl _ _, rfl⟩
        · simp only [hp]
          clear hp
          obtain ⟨kk, hkk, hg'⟩ := hC
          have HX := Lib.hid (has_next w.heap.size A len cap kk 5 w wx hg' (by omega) (by omega) (by omega))
          clear hg'
          go_wp2_with fail
          (with_reducible refine HX.out.mono ?_)
          rintro e w' ⟨r, r0, r1, rfl, hs, ho⟩
          have HF := Lib.hid (And.intro (show TcC w.heap.size A len cap (q + 1 + 9) w fu w' from ⟨kk + 1, by omega, hs⟩) (DrR.only ho))
          clear hs ho
          go_wp2
          exact ⟨rfl, HF.out.1, HF.out.2, r, ⟨r0, by omega⟩, rfl⟩
        · obtain ⟨hrow, r, hr, e3⟩ := hp
          obtain ⟨n, rfl⟩ := Int.eq_ofNat_of_zero_le hr.1
          have hn' : n ≤ 4 := by omega
          obtain ⟨g, g1, g2, e1, hpt⟩ := hrow.at_ (i := n) (by omega)
          have HX := Lib.hid hpt
          simp only [e1, e3]
          clear e1 e3 hC hrow hpt hr
          go_wp2
          exact ⟨rfl, HCx.out.step, DrR.refl _ _, HX.out⟩
        · obtain ⟨g, o, g1, g2, e1, z, hz, hc⟩ := hp
          have HX := Lib.hid hz
          simp only [e1]
          clear e1 hC hz
          go_wp2
          exact ⟨rfl, HCx.out.step, DrR.refl _ _, z, HX.out, rfl⟩
        · clear hp
          go_wp2
          exact ⟨rfl, HCx.out.step, DrR.refl _ _, rfl⟩
        · replace hp := hp.1
          simp only [hp]
          clear hp
          obtain ⟨kk, hkk, hg'⟩ := hC
          have HX := Lib.hid (has_next w.heap.size A len cap kk 18 w wx hg' (by omega) (by omega) (by omega))
          clear hg'
          go_wp2_with fail
          (with_reducible refine HX.out.mono ?_)
          rintro e w' ⟨r, r0, r1, rfl, hs, ho⟩
          have HF := Lib.hid (And.intro (show TcC w.heap.size A len cap (q + 1 + 9) w fu w' from ⟨kk + 1, by omega, hs⟩) (DrR.only ho))
          clear hs ho
          go_wp2
          exact ⟨rfl, HF.out.1, HF.out.2, r, ⟨r0, by omega⟩, rfl⟩
        · obtain ⟨z, hz, e1⟩ := hp.1
          have HX := Lib.hid hz
          simp only [e1]
          clear e1 hC hz
          go_wp2
          exact ⟨rfl, HCx.out.step, DrR.refl _ _, z, HX.out, rfl⟩
        · obtain ⟨z, hz, e1⟩ := hp.1
          have HX := Lib.hid hz
          simp only [e1]
          clear e1 hC hz
          go_wp2
          exact ⟨rfl, HCx.out.step, DrR.refl _ _, z, HX.out, rfl⟩
      · intro wz vals hC hV
        have e7 := hV 7 (by simp)
        have e8 := hV 8 (by simp)
        simp only [TcV] at e7 e8
        obtain ⟨n1, hn1, e7⟩ := e7
        obtain ⟨n2, hn2, e8⟩ := e8
        obtain ⟨k3, hk3, h3⟩ := hC
        simp only [fillA, if_true, Act.put]
        simp
        simp only [e7, e8]
        have HG1 := Lib.hid h3
        clear e7 e8 hV h3 HC0
        generalize vals 0 = u0 at *
        generalize vals 1 = u1 at *
        generalize vals 2 = u2 at *
        generalize vals 3 = u3 at *
        generalize vals 4 = u4 at *
        generalize vals 5 = u5 at *
        generalize vals 6 = u6 at *
        go_wp2_with fail
        (with_reducible refine (HN.out _ _ _ _).mono ?_); rintro e w3 ⟨rfl, hb⟩
        have HX := Lib.hid (has_next w.heap.size A len cap k3 100 w w3 (HG1.out.below hb) (by omega) (by omega) (by omega))
        clear hb HG1
        go_wp2_with fail
        (with_reducible refine HX.out.mono ?_)
        rintro e w4 ⟨u, u0', u1', rfl, hg4, ho4⟩
        have hw1 : IntKind.i64.wrap (1 + u) = 1 + u := IntWalk.i64_in _ (by omega)
        have HX := Lib.hid (has_next w.heap.size A len cap (k3 + 1) 16 w w4 hg4 (by omega) (by omega) (by omega))
        clear hg4 ho4
        go_wp2_with fail
        (with_reducible refine HX.out.mono ?_)
        rintro e w5 ⟨v, v0, v1, rfl, hg5, ho5⟩
        have hw2 : IntKind.i64.wrap (1 + v) = 1 + v := IntWalk.i64_in _ (by omega)
        have HG5 := Lib.hid hg5
        clear hg5 ho5
        go_wp2_with fail
        (with_reducible refine (HN.out _ _ _ _).mono ?_); rintro e w6 ⟨rfl, hb⟩
        have HG6 := Lib.hid (HG5.out.below hb)
        clear hb HG5
        go_wp2
        go_roundw
        case rel => exact ⟨k + 1, k3 + 1 + 1, by omega, by go_num, by omega, HG6⟩
        case measure => simp [intOf]; omega
    · obtain rfl : k = 5 := by omega
      go_wp2_with fail
      (with_reducible refine (HN.out _ _ _ _).mono ?_); rintro e w3 ⟨rfl, hb⟩
      have HG3 := Lib.hid (HG.out.below hb)
      clear hb HG
      go_wp2_with fail
      (with_reducible refine (HA.out _).mono ?_); rintro e w4 ⟨rfl, hb⟩
      have HG4 := Lib.hid (HG3.out.below hb)
      clear hb HG3
      go_wp2
      go_ret
      exact ⟨rfl, HG4.out.2⟩
end Go.Proofs.Ythmcdnomphmbiaa

