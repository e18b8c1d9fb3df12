/-
  Layer 12: the walks of the statements on the least tag and on rebased tags (TagsLeast, TagsRebase). Every input; no condition.
-/
import Derived.Test.YthmcdnomphmbiaaTgHelp
import Derived.Test.YthmcdnomphmbiaaTgList
namespace Go.Proofs.Ythmcdnomphmbiaa
open Go.ChangeShapes Go.WideShapes Go.ChangeAt Go.RowKit
set_option linter.unusedVariables false

/-- One contract for the program's and the reference's Valid and Least. -/
theorem valid_same (A : Option Addr) (c : Nat) (L : List Tg) (L1 B1 : Nat) (w : World) (hn : L.length ≤ 100000) (ha : SrAt csT 3 w L1 B1 A L) :
    Calls Try.prog 14 #[.slice A L.length c] w (Calm (.bool (vaB L)) w) :=
  (rvalidT_any A c L L1 B1 w hn ha).mono fun e w' ⟨h1, h2⟩ => ⟨h1, h2.below⟩
set_option maxRecDepth 100000 in
set_option maxHeartbeats 8000000 in
theorem walkLeast (A : Option Addr) (len cap : Nat) (R : Option Addr) (c : Nat) (L : List Tg) (w : World) (he : Elems w.heap.size A len w) (hl : L.length ≤ 9223372036854775807) (hr : SrAt csT 3 w 0 w.heap.size R L) :
    Calls Try.prog 4 #[.slice A len cap, .slice R L.length c] w (Calm (.bool true) w) := by
  have HG := Lib.hid (Has.new (cap := cap) he)
  have HA := Lib.hid (fun w => awake12_any w)
  have HR := Lib.hid hr
  clear he hr
  unfold Calm
  go_enter Try.func4, Try.ntmps4
  go_wp2_with fail
  (with_reducible refine (new_any A len cap _).mono ?_); rintro e w' ⟨rfl, rfl⟩
  go_wp2
  go_loopw [6] (fun s8 wr => ∃ k q : Nat, k ≤ 6 ∧ s8 = .int .i64 k ∧ q ≤ 50 * k ∧ Hid (Has w.heap.size A len cap q w wr)) (fun s8 _ => 6 - (intOf s8).toNat)
  case atStart => exact ⟨0, 0, by omega, rfl, by omega, HG⟩
  case round =>
    obtain ⟨k, q, hk, rfl, hq, HG⟩ := hrel
    by_cases hlt : k < 6
    · have hlt' : (k : Int) < 6 := by omega
      have HX := Lib.hid (list_any w.heap.size A len cap q w wr HG.out (by omega))
      clear HG
      unfold GaveT at HX
      go_wp2_with fail
      (with_reducible refine HX.out.mono ?_)
      rintro e w1 ⟨T, A1, c1, ht, rfl, ha, ⟨q1, hq1, hg⟩, _⟩
      have HV := Lib.hid (fun w' (h : Below w1.heap.size w1 w') => validT_any A1 c1 T _ _ w' h.size (by omega) (ha.below h (Nat.le_refl _)))
      have HV2 := Lib.hid (fun w' (h : Below w1.heap.size w1 w') => valid_same A1 c1 T _ _ w' (by omega) (ha.below h (Nat.le_refl _)))
      have HL := Lib.hid (fun w' (h : Below w1.heap.size w1 w') => leastT_any A1 c1 T _ _ w' h.size (by omega) (ha.below h (Nat.le_refl _)))
      have HL2 := Lib.hid (fun w' (h : Below w1.heap.size w1 w') => rleast_any A1 c1 T _ _ w' (by omega) (ha.below h (Nat.le_refl _)))
      have HG1 := Lib.hid hg
      clear ha hg
      generalize vaB T = v at *
      generalize ltI T = l at *
      go_wp2_with fail
      (with_reducible refine (HV.out _ (Below.refl _ _)).mono ?_); rintro e w2 ⟨rfl, hb⟩
      have HB2 := Lib.hid hb
      clear hb
      go_wp2_with fail
      (with_reducible refine (HV2.out _ HB2.out).mono ?_); rintro e w3 ⟨rfl, hb⟩
      have HB3 := Lib.hid (HB2.out.trans (hb.mono HB2.out.size))
      clear hb HB2
      go_wp2_with fail
      (with_reducible refine (HL.out _ HB3.out).mono ?_); rintro e w4 ⟨rfl, hb⟩
      have HB4 := Lib.hid (HB3.out.trans (hb.mono HB3.out.size))
      clear hb HB3
      go_wp2_with fail
      (with_reducible refine (HL2.out _ HB4.out).mono ?_); rintro e w5 ⟨rfl, hb⟩
      have HG5 := Lib.hid (HG1.out.below (HB4.out.trans (hb.mono HB4.out.size)))
      clear hb HB4 HG1 HV HV2 HL HL2
      go_wp2
      go_roundw
      case rel => exact ⟨k + 1, q1, by omega, by go_num, by omega, HG5⟩
      case measure => simp [intOf]; omega
    · obtain rfl : k = 6 := by omega
      by_cases hlong : 60 < L.length
      · have hlong' : (60 : Int) < L.length := by omega
        go_wp2_with fail
        (with_reducible refine (HA.out _).mono ?_); rintro e w4 ⟨rfl, hb⟩
        have HG4 := Lib.hid (HG.out.below hb)
        clear hb HG
        go_wp2
        go_ret
        exact ⟨rfl, HG4.out.2⟩
      · have hlong' : ¬ (60 : Int) < L.length := by omega
        have HB1 := Lib.hid HG.out.2
        have HV := Lib.hid (fun w' (h : Below w.heap.size w w') => validT_any R c L _ _ w' h.size (by omega) (HR.out.below h (Nat.le_refl _)))
        have HV2 := Lib.hid (fun w' (h : Below w.heap.size w w') => valid_same R c L _ _ w' (by omega) (HR.out.below h (Nat.le_refl _)))
        have HL := Lib.hid (fun w' (h : Below w.heap.size w w') => leastT_any R c L _ _ w' h.size (by omega) (HR.out.below h (Nat.le_refl _)))
        have HL2 := Lib.hid (fun w' (h : Below w.heap.size w w') => rleast_any R c L _ _ w' (by omega) (HR.out.below h (Nat.le_refl _)))
        clear HG HR
        generalize vaB L = v at *
        generalize ltI L = l at *
        go_wp2_with fail
        (with_reducible refine (HV.out _ HB1.out).mono ?_); rintro e w2 ⟨rfl, hb⟩
        have HB2 := Lib.hid (HB1.out.trans (hb.mono HB1.out.size))
        clear hb HB1
        go_wp2_with fail
        (with_reducible refine (HV2.out _ HB2.out).mono ?_); rintro e w3 ⟨rfl, hb⟩
        have HB3 := Lib.hid (HB2.out.trans (hb.mono HB2.out.size))
        clear hb HB2
        have hvv : (v == v) = true := by simp
        go_wp2_with fail
        (with_reducible refine (HL.out _ HB3.out).mono ?_); rintro e w4 ⟨rfl, hb⟩
        have HB4 := Lib.hid (HB3.out.trans (hb.mono HB3.out.size))
        clear hb HB3
        go_wp2_with fail
        (with_reducible refine (HL2.out _ HB4.out).mono ?_); rintro e w5 ⟨rfl, hb⟩
        have HB5 := Lib.hid (HB4.out.trans (hb.mono HB4.out.size))
        clear hb HB4
        go_wp2_with fail
        (with_reducible refine (HA.out _).mono ?_); rintro e w6 ⟨rfl, hb⟩
        have HB6 := Lib.hid (HB5.out.trans (hb.mono HB5.out.size))
        clear hb HB5
        go_wp2
        go_ret
        exact ⟨rfl, HB6.out⟩
set_option maxRecDepth 100000 in
set_option maxHeartbeats 8000000 in
theorem walkRebase (A : Option Addr) (len cap : Nat) (R : Option Addr) (c : Nat) (L : List Tg) (by_ : Int) (w : World) (he : Elems w.heap.size A len w) (hl : L.length ≤ 9223372036854775807) (hr : SrAt csT 3 w 0 w.heap.size R L) :
    Calls Try.prog 5 #[.slice A len cap, .slice R L.length c, .int .i64 by_] w (Calm (.bool true) w) := by
  have HG := Lib.hid (Has.new (cap := cap) he)
  have HA := Lib.hid (fun w => awake12_any w)
  have HR := Lib.hid hr
  clear he hr
  unfold Calm
  go_enter Try.func5, Try.ntmps5
  go_wp2_with fail
  (with_reducible refine (new_any A len cap _).mono ?_); rintro e w' ⟨rfl, rfl⟩
  go_wp2
  go_loopw [8] (fun s8 wr => ∃ k q : Nat, k ≤ 6 ∧ s8 = .int .i64 k ∧ q ≤ 101 * k ∧ Hid (Has w.heap.size A len cap q w wr)) (fun s8 _ => 6 - (intOf s8).toNat)
  case atStart => exact ⟨0, 0, by omega, rfl, by omega, HG⟩
  case round =>
    obtain ⟨k, q, hk, rfl, hq, HG⟩ := hrel
    by_cases hlt : k < 6
    · have hlt' : (k : Int) < 6 := by omega
      have HX := Lib.hid (list_any w.heap.size A len cap q w wr HG.out (by omega))
      have hlb := HG.out.1.lt
      clear HG
      unfold GaveT at HX
      go_wp2_with fail
      (with_reducible refine HX.out.mono ?_)
      rintro e w1 ⟨T, A1, c1, ht, rfl, ha, ⟨q1, hq1, hg⟩, _⟩
      have HX := Lib.hid (has_next w.heap.size A len cap q1 5 w w1 hg (by omega) (by omega) (by omega))
      have HT := Lib.hid (fun w2 (ho : Only w.heap.size w1 w2) b => rebases_any A1 c1 T _ _ b w2 ho.size (by omega) (ha.only ho (Nat.le_refl _) (Or.inl hlb)))
      clear hg ha
      go_wp2_with fail
      (with_reducible refine HX.out.mono ?_)
      rintro e w2 ⟨v, v0, v1, rfl, hg2, ho2⟩
      have hw1 : IntKind.i64.wrap (v * 1000) = v * 1000 := IntWalk.i64_in _ (by omega)
      have hw2 : IntKind.i64.wrap (v * 1000 - 1000) = v * 1000 - 1000 := IntWalk.i64_in _ (by omega)
      have HT2 := Lib.hid (HT.out w2 ho2)
      have HG2 := Lib.hid hg2
      clear hg2 ho2 HT
      go_wp2_with fail
      (with_reducible refine (HT2.out _).mono ?_); rintro e w3 ⟨rfl, hb⟩
      have HG3 := Lib.hid (HG2.out.below hb)
      clear hb HG2 HT2
      have HX := Lib.hid (list_any w.heap.size A len cap (q1 + 1) w w3 HG3.out (by omega))
      clear HG3
      unfold GaveT at HX
      go_wp2_with fail
      (with_reducible refine HX.out.mono ?_)
      rintro e w4 ⟨T2, A2, c2, ht2, rfl, ha, ⟨q2, hq2, hg⟩, _⟩
      have HT := Lib.hid (rebases_any A2 c2 T2 _ _ by_ w4 (Nat.le_refl _) (by omega) ha)
      have HG4 := Lib.hid hg
      clear hg ha
      go_wp2_with fail
      (with_reducible refine HT.out.mono ?_); rintro e w5 ⟨rfl, hb⟩
      have HG5 := Lib.hid (HG4.out.below hb)
      clear hb HG4 HT
      go_wp2
      go_roundw
      case rel => exact ⟨k + 1, q2, by omega, by go_num, by omega, HG5⟩
      case measure => simp [intOf]; omega
    · obtain rfl : k = 6 := by omega
      by_cases hlong : 60 < L.length
      · have hlong' : (60 : Int) < L.length := by omega
        go_wp2_with fail
        (with_reducible refine (HA.out _).mono ?_); rintro e w4 ⟨rfl, hb⟩
        have HG4 := Lib.hid (HG.out.below hb)
        clear hb HG
        go_wp2
        go_ret
        exact ⟨rfl, HG4.out.2⟩
      · have hlong' : ¬ (60 : Int) < L.length := by omega
        have HT := Lib.hid (rebases_any R c L _ _ by_ wr HG.out.2.size (by omega) (HR.out.below HG.out.2 (Nat.le_refl _)))
        clear HR
        go_wp2_with fail
        (with_reducible refine HT.out.mono ?_); rintro e w5 ⟨rfl, hb⟩
        have HG5 := Lib.hid (HG.out.below hb)
        clear hb HG HT
        go_wp2_with fail
        (with_reducible refine (HA.out _).mono ?_); rintro e w6 ⟨rfl, hb⟩
        have HG6 := Lib.hid (HG5.out.below hb)
        clear hb HG5
        go_wp2
        go_ret
        exact ⟨rfl, HG6.out.2⟩
end Go.Proofs.Ythmcdnomphmbiaa

