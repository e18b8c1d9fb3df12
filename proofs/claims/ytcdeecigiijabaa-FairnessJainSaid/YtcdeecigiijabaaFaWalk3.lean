/-
  Layer 14: the walk of the statement on the pair that is least fair (FairnessWorst). Every input; no condition.
-/
import Derived.Test.YtcdeecigiijabaaFaRwo
namespace Go.Proofs.Ytcdeecigiijabaa
open Go.ChangeShapes Go.WideShapes Go.ChangeAt Go.RowKit
set_option linter.unusedVariables false

theorem worst14_any (A : Option Addr) (c : Nat) (L : List Sp) (L1 B1 : Nat) (w : World) (hB1 : B1 ≤ w.heap.size) (hn : L.length ≤ 100000) (ha : SrAt csP 3 w L1 B1 A L) :
    Calls Try.prog 12 #[.slice A L.length c] w (Calm (.bool true) w) := by
  have H1 := Lib.hid (pworst_any A c L L1 B1 w hB1 hn ha)
  have H2 := Lib.hid (fun (W : World) (hb : Below w.heap.size w W) => rworst_any A c L L1 B1 W (Nat.le_trans hB1 hb.size) hn (ha.below hb hB1))
  clear ha
  generalize woP L = p at *
  generalize woQ L = q at *
  generalize ckE L 2 = E at *
  unfold Calm at *
  go_enter Try.func12, Try.ntmps12
  go_wp2_with fail
  (with_reducible refine H1.out.mono ?_); rintro e w1 ⟨rfl, hb⟩
  have HX := Lib.hid (H2.out w1 hb)
  have HB1 := Lib.hid hb
  clear hb H1 H2
  go_wp2_with fail
  (with_reducible refine HX.out.mono ?_); rintro e w2 ⟨rfl, hb⟩
  have HB2 := Lib.hid (HB1.out.trans (hb.mono HB1.out.size))
  clear hb HB1
  go_wp2
  go_ret
  exact ⟨rfl, HB2.out⟩
def toSp (t : Tg) : Sp := ⟨t.f, t.w, t.s⟩
theorem sr_sp {w : World} {L B : Nat} {A : Option Addr} {l : List Tg} (h : SrAt csT 3 w L B A l) : SrAt csP 3 w L B A (l.map toSp) := fun i hi => by
  obtain ⟨b, off, e, h1, h2, h3⟩ := h i (by simpa using hi)
  refine ⟨b, off, e, h1, h2, fun k hk => (h3 k hk).trans ?_⟩
  rw [List.getElem_map]; rfl
set_option maxRecDepth 100000 in
set_option maxHeartbeats 8000000 in
theorem walkWorst (A : Option Addr) (len cap : Nat) (A1 : Option Addr) (cap1 : Nat) (T : List Tg) (w : World) (he : Elems w.heap.size A len w) (hn1 : T.length ≤ 9223372036854775807) (ha0 : SrAt csT 3 w 0 w.heap.size A1 T) :
    Calls Try.prog 4 #[.slice A len cap, .slice A1 T.length cap1] w (Calm (.bool true) w) := by
  have ha := sr_sp ha0
  obtain ⟨M, hM⟩ : ∃ M, T.map toSp = M := ⟨_, rfl⟩
  have hl : T.length = M.length := by rw [← hM, List.length_map]
  rw [hM] at ha
  rw [hl] at hn1 ⊢
  clear hM hl ha0
  have HG := Lib.hid (Has.new (cap := cap) he)
  have HAW := Lib.hid (fun w => awake14_any w)
  have HSL := Lib.hid (fun q w1 (h : Has w.heap.size A len cap q w w1) (hq : q ≤ 10000000) => (by have h9 := smplist_any w.heap.size A len cap q 6 w w1 h hq (by omega); rw [show ((6 : Nat) : Int) = 6 from rfl] at h9; exact h9 : Calls Try.prog 13 #[.pointer (some ⟨w.heap.size, 0, none⟩), .int .i64 6] w1 (GaveL w.heap.size A len cap q 6 w w1)))
  have HW := Lib.hid (fun A c L L1 B1 w hB1 hn ha => worst14_any A c L L1 B1 w hB1 hn ha)
  have HR := Lib.hid (fun (W : World) (hb : Below w.heap.size w W) => ha.below hb (Nat.le_refl _))
  clear he ha
  unfold Calm
  go_enter Try.func4, Try.ntmps4
  go_wp2_with fail
  (with_reducible refine (new_any A len cap _).mono ?_); rintro e w' ⟨rfl, rfl⟩
  go_wp2
  go_loopw [6] (fun s8 wr => ∃ k q : Nat, k ≤ 5 ∧ s8 = .int .i64 k ∧ q ≤ 130 * k ∧ Hid (Has w.heap.size A len cap q w wr)) (fun s8 _ => 5 - (intOf s8).toNat)
  case atStart => exact ⟨0, 0, by omega, rfl, by omega, HG⟩
  case round =>
    obtain ⟨k, q, hk, rfl, hq, HG⟩ := hrel
    by_cases hlt : k < 5
    · have hlt' : (k : Int) < 5 := by omega
      have HX := Lib.hid (HSL.out q wr HG.out (by omega))
      clear HG
      go_wp2_with fail
      (with_reducible refine HX.out.mono ?_)
      rintro e w1 ⟨L, A', c', q', hL, rfl, hrow, hq', hg1, ho1⟩
      have HX2 := Lib.hid (HW.out A' c' L wr.heap.size w1.heap.size w1 (Nat.le_refl _) (by omega) (SrAt.own csP_len hrow rfl))
      have HG1 := Lib.hid hg1
      clear hrow hg1 ho1 HX
      go_wp2_with fail
      (with_reducible refine HX2.out.mono ?_); rintro e w2 ⟨rfl, hb⟩
      have HG2 := Lib.hid (HG1.out.below hb)
      clear hb HG1 HX2
      go_wp2
      go_roundw
      case rel => exact ⟨k + 1, q', by omega, by go_num, by omega, HG2⟩
      case measure => simp [intOf]; omega
    · obtain rfl : k = 5 := by omega
      by_cases h40 : 40 < M.length
      · have h40' : (40 : Int) < M.length := by omega
        have h41 : decide ((40 : Int) < M.length) = true := decide_eq_true h40'
        go_wp2_with fail
        (with_reducible refine (HAW.out _).mono ?_); rintro e w4 ⟨rfl, hb⟩
        have HG4 := Lib.hid (HG.out.below hb)
        clear hb HG
        go_wp2
        go_ret
        exact ⟨rfl, HG4.out.2⟩
      · have h40' : ¬ (40 : Int) < M.length := by omega
        have HX2 := Lib.hid (HW.out A1 cap1 M 0 w.heap.size wr HG.out.2.size (by omega) (HR.out wr HG.out.2))
        go_wp2_with fail
        (with_reducible refine HX2.out.mono ?_); rintro e w3 ⟨rfl, hb⟩
        have HG3 := Lib.hid (HG.out.below hb)
        clear hb HG
        go_wp2_with fail
        (with_reducible refine (HAW.out _).mono ?_); rintro e w4 ⟨rfl, hb⟩
        have HG4 := Lib.hid (HG3.out.below hb)
        clear hb HG3
        go_wp2
        go_ret
        exact ⟨rfl, HG4.out.2⟩
end Go.Proofs.Ytcdeecigiijabaa

