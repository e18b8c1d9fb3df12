/-
  Layer 10: contracts of the program's New, AddFlow, Remove.
-/
import Derived.Test.YtgojbomdkdlclaaFlObj2
import Derived.Test.YtgojbomdkdlclaaFlRead
namespace Go.Proofs.Ytgojbomdkdlclaa
open Go.ChangeShapes Go.WideShapes Go.ChangeAt Go.RowKit
set_option linter.unusedVariables false

theorem new_num {c r : Int} (h : newE c r = 0) : (1 ≤ c ∧ c ≤ 512) ∧ (1 ≤ r ∧ r ≤ 12) := by
  unfold newE at h
  split at h
  · rename_i h1; simp only [Bool.and_eq_true, decide_eq_true_eq] at h1; omega
  · cases h
theorem new_one {c r : Int} (h : ¬ ((1 ≤ c ∧ c ≤ 512) ∧ (1 ≤ r ∧ r ≤ 12))) : newE c r = 1 := by
  unfold newE
  rw [if_neg]
  intro h1; simp only [Bool.and_eq_true, decide_eq_true_eq] at h1; omega
theorem pnew_no {c r : Int} (h : ¬ ((1 ≤ c ∧ c ≤ 512) ∧ (1 ≤ r ∧ r ≤ 12))) (w : World) :
    Calls Try.prog 9 #[.int .i64 c, .int .i64 r] w fun e w' => e = .returned (.tuple #[.pointer none, .int .i64 1]) ∧ w = w' := by
  by_cases h1 : c < 1
  · clear h
    go_enter Try.func9, Try.ntmps9
    go_wp2
    go_ret2
    exact ⟨rfl, rfl⟩
  · by_cases h2 : 512 < c
    · clear h
      go_enter Try.func9, Try.ntmps9
      go_wp2
      go_ret2
      exact ⟨rfl, rfl⟩
    · by_cases h3 : r < 1
      · clear h
        go_enter Try.func9, Try.ntmps9
        go_wp2
        go_ret2
        exact ⟨rfl, rfl⟩
      · have h4 : 12 < r := by omega
        clear h
        go_enter Try.func9, Try.ntmps9
        go_wp2
        go_ret2
        exact ⟨rfl, rfl⟩
/-- What New leaves where it answers a table. -/
def PNew (c r : Int) (w : World) (e : Ending) (w' : World) : Prop :=
  ∃ H S, e = .returned (.tuple #[.pointer (some ⟨H, 0, none⟩), .int .i64 0]) ∧ PO w.heap.size H S ⟨c, r, [], [], []⟩ w' ∧ Below w.heap.size w w'
theorem PNew.mk {c r : Int} (h : (1 ≤ c ∧ c ≤ 512) ∧ (1 ≤ r ∧ r ≤ 12)) (w : World) :
    PNew c r w (.returned (.tuple #[.pointer (some ⟨w.heap.size + 1, 0, none⟩), .int .i64 0])) ((w.alloc (.map #[] 0)).alloc (.cells #[.int .i64 c, .int .i64 r, .slice none 0 0, .slice none 0 0, .map (some w.heap.size)] 58)) := by
  have hE : newE c r = 0 := by
    unfold newE; rw [if_pos]; simp only [Bool.and_eq_true, decide_eq_true_eq]; omega
  have hm := NumMap.made w
  refine ⟨_, fun k => w.heap.size ≤ k ∧ k < w.heap.size + 2, rfl, ⟨TbOk.new hE, ⟨.slice none 0 0, .slice none 0 0, w.heap.size, ⟨by have := (MapKept.heap_alloc (w.alloc (.map #[] 0)) (.cells #[.int .i64 c, .int .i64 r, .slice none 0 0, .slice none 0 0, .map (some w.heap.size)] 58)).1; rw [show (w.alloc (.map #[] 0)).heap.size = w.heap.size + 1 by simp] at this; exact this, World.ownsRow_nil _ _ _ _, World.ownsRow_nil _ _ _ _, ?_, by simp⟩, ?_⟩, fun k hk => ?_⟩, ?_⟩
  · exact hm.keep (Below.heap_alloc _ _ _ (by simp))
  · rintro k (e | e | e | e)
    · omega
    · omega
    · cases e
    · cases e
  · simp; omega
  · exact ((Below.refl _ _).alloc (Nat.le_refl _) _).alloc (by simp) _
theorem pnew_any {c r : Int} (h : (1 ≤ c ∧ c ≤ 512) ∧ (1 ≤ r ∧ r ≤ 12)) (w : World) :
    Calls Try.prog 9 #[.int .i64 c, .int .i64 r] w (PNew c r w) := by
  have HF := Lib.hid (PNew.mk h w)
  obtain ⟨⟨h1, h2⟩, h3, h4⟩ := h
  have hmm := @run_makeMap Try.prog
  go_enter Try.func9, Try.ntmps9
  go_wp2
  go_ret2
  exact HF.out

theorem af_6 {t : Tb} {s w : Int} (h : hsB t s = false) : afE t s w = 6 ∧ afX t s w = 0 ∧ afT t s w = t := by
  have e : afE t s w = 6 := by unfold afE; rw [if_pos (by unfold hsB at h; exact h)]
  refine ⟨e, ?_, ?_⟩
  · unfold afX; rw [if_neg (by rw [e]; decide)]
  · unfold afT; rw [if_neg (by rw [e]; decide)]
theorem af_1 {t : Tb} {s w : Int} (h : hsB t s = true) (h1 : gwB w = false) : afE t s w = 1 ∧ afX t s w = 0 ∧ afT t s w = t := by
  have e : afE t s w = 1 := by unfold afE; rw [if_neg (by unfold hsB at h; rw [h]; decide), if_pos h1]
  refine ⟨e, ?_, ?_⟩
  · unfold afX; rw [if_neg (by rw [e]; decide)]
  · unfold afT; rw [if_neg (by rw [e]; decide)]
theorem af_4 {t : Tb} {s w : Int} (h : hsB t s = true) (h1 : gwB w = true) (h2 : 32 ≤ t.F.length) : afE t s w = 4 ∧ afX t s w = 0 ∧ afT t s w = t := by
  have e : afE t s w = 4 := by unfold afE; rw [if_neg (by unfold hsB at h; rw [h]; decide), if_neg (by rw [h1]; decide), if_pos h2]
  refine ⟨e, ?_, ?_⟩
  · unfold afX; rw [if_neg (by rw [e]; decide)]
  · unfold afT; rw [if_neg (by rw [e]; decide)]
theorem af_12 {t : Tb} {s w : Int} (h : hsB t s = true) (h1 : gwB w = true) (h2 : ¬ 32 ≤ t.F.length) (h3 : t.cap < t.tot + w) : afE t s w = 12 ∧ afX t s w = 0 ∧ afT t s w = t := by
  have e : afE t s w = 12 := by unfold afE; rw [if_neg (by unfold hsB at h; rw [h]; decide), if_neg (by rw [h1]; decide), if_neg h2, if_pos h3]
  refine ⟨e, ?_, ?_⟩
  · unfold afX; rw [if_neg (by rw [e]; decide)]
  · unfold afT; rw [if_neg (by rw [e]; decide)]
def newF (t : Tb) (s w : Int) : Flo := ⟨t.F.length, s, w, 64, 262144, 1099511627776, 1099511627776⟩
theorem af_0 {t : Tb} {s w : Int} (h : hsB t s = true) (h1 : gwB w = true) (h2 : ¬ 32 ≤ t.F.length) (h3 : ¬ t.cap < t.tot + w) : afE t s w = 0 ∧ afX t s w = t.F.length ∧ afT t s w = { t with F := t.F ++ [newF t s w], G := t.G ++ [false] } := by
  have e : afE t s w = 0 := by unfold afE; rw [if_neg (by unfold hsB at h; rw [h]; decide), if_neg (by rw [h1]; decide), if_neg h2, if_neg h3]
  refine ⟨e, ?_, ?_⟩
  · unfold afX; rw [if_pos e]
  · unfold afT; rw [if_pos e]; rfl
theorem ret_two {a b c d : Int} (h : a = c) (k : b = d) : Ending.returned (.tuple #[.int .i64 a, .int .i64 b]) = .returned (.tuple #[.int .i64 c, .int .i64 d]) := by rw [h, k]
set_option maxHeartbeats 1000000 in
theorem addFlow_any {C H : Nat} {S : Nat → Prop} {t : Tb} {w : World} (h : PO C H S t w) (s x : Int) :
    Calls Try.prog 17 #[.pointer (some ⟨H, 0, none⟩), .int .i64 s, .int .i64 x] w (PAns C H S (afT t s x) (.tuple #[.int .i64 (afX t s x), .int .i64 (afE t s x)]) w) := by
  have HS := hasStation_any h s
  have HW := isWeight_any x w
  have HD := Lib.hid (fun g a b => admits_any h g a b)
  unfold Quiet at HD
  have HST := Lib.hid (fun x w' (hb : Below w.heap.size w w') => PAns.stay (x := x) h hb)
  have HT := Lib.hid ((TbOk.addF h.1 s x))
  have hlo := h.lo
  obtain ⟨h0, ⟨vS, vF, mb, h1, hS⟩, hO⟩ := h
  cases k1 : hsB t s
  · obtain ⟨e1, e2, e3⟩ := af_6 (w := x) k1
    rw [e1, e2, e3]
    rw [k1] at HS
    have HS := Lib.hid HS
    clear e1 e2 e3 k1 HW h1 h0
    go_enter Try.func17, Try.ntmps17
    go_wp2_with fail
    (with_reducible refine HS.out.mono ?_); rintro e w' ⟨rfl, rfl⟩
    have HF := Lib.hid (fun x => HST.out x w (Below.refl _ _))
    go_wp2
    go_ret2
    exact HF.out _
  rw [k1] at HS
  have HS := Lib.hid HS
  cases k2 : gwB x
  · obtain ⟨e1, e2, e3⟩ := af_1 k1 k2
    rw [e1, e2, e3]
    rw [k2] at HW
    have HW := Lib.hid HW
    clear e1 e2 e3 k1 k2 h1 h0
    go_enter Try.func17, Try.ntmps17
    go_wp2_with fail
    (with_reducible refine HS.out.mono ?_); rintro e w' ⟨rfl, rfl⟩
    go_wp2_with fail
    (with_reducible refine HW.out.mono ?_); rintro e w' ⟨rfl, rfl⟩
    have HF := Lib.hid (fun x => HST.out x w (Below.refl _ _))
    go_wp2
    go_ret2
    exact HF.out _
  rw [k2] at HW
  have HW := Lib.hid HW
  obtain ⟨c0, c1, c2, c3, c4, f2, f3⟩ := h1.cells
  have hrow := h1.rowF
  obtain ⟨A, c, rfl⟩ := ow_shape h1.rowF
  have hf := h0.few
  have hx := gw_yes k2
  have hg := h0.sums
  by_cases k3 : 32 ≤ t.F.length
  · obtain ⟨e1, e2, e3⟩ := af_4 k1 k2 k3
    rw [e1, e2, e3]
    have k4 : t.F.length = 32 := by omega
    rw [k4] at c3
    clear e1 e2 e3 k1 k2 h1 h0 c0 c1 c2 c4 k3 hf
    go_enter Try.func17, Try.ntmps17
    go_wp2_with fail
    (with_reducible refine HS.out.mono ?_); rintro e w' ⟨rfl, rfl⟩
    go_wp2_with fail
    (with_reducible refine HW.out.mono ?_); rintro e w' ⟨rfl, rfl⟩
    have HF := Lib.hid (fun x => HST.out x w (Below.refl _ _))
    go_wp2
    go_ret2
    exact HF.out _
  have k4 : ((t.F.length : Int) == 32) = false := beq_eq_false_iff_ne.2 (by omega)
  by_cases k5 : t.cap < t.tot + x
  · obtain ⟨e1, e2, e3⟩ := af_12 k1 k2 k3 k5
    rw [e1, e2, e3]
    have HD := HD.out x (by omega) (by omega)
    rw [decide_eq_false (by omega)] at HD
    have HD := Lib.hid HD
    clear e1 e2 e3 k1 k2 h1 h0 c0 c1 c2 c4 k5
    go_enter Try.func17, Try.ntmps17
    go_wp2_with fail
    (with_reducible refine HS.out.mono ?_); rintro e w' ⟨rfl, rfl⟩
    go_wp2_with fail
    (with_reducible refine HW.out.mono ?_); rintro e w' ⟨rfl, rfl⟩
    go_wp2_with fail
    (with_reducible refine HD.out.mono ?_); rintro e w' ⟨rfl, hb⟩
    have HF := Lib.hid (fun x => HST.out x w' hb)
    go_wp2
    go_ret2
    exact HF.out _
  · obtain ⟨e1, e2, e3⟩ := af_0 k1 k2 k3 k5
    rw [e1, e2]
    rw [e3] at HT ⊢
    have HD := HD.out x (by omega) (by omega)
    rw [decide_eq_true (by omega)] at HD
    have HD := Lib.hid HD
    have HR := Lib.hid (pfl_snoc h0.len (newF t s x))
    have HC : C ≤ w.heap.size := by omega
    have h1h := Lib.hid h1
    clear e1 e2 e3 k1 k2 h1 c0 c1 c2 c4 k5 HST
    go_enter Try.func17, Try.ntmps17
    go_wp2_with fail
    (with_reducible refine HS.out.mono ?_); rintro e w' ⟨rfl, rfl⟩
    go_wp2_with fail
    (with_reducible refine HW.out.mono ?_); rintro e w' ⟨rfl, rfl⟩
    go_wp2_with fail
    (with_reducible refine HD.out.mono ?_); rintro e w1 ⟨rfl, hb⟩
    have c3' := (h1h.out.below hb).cells.2.2.2.1
    have HROW := Lib.hid (row_from hrow hb)
    have hb1 := hb.size
    have HB := Lib.hid hb
    clear c3 hrow hb
    go_wp2_with (at_builtin; refine wpList_append_one rfl (.tmp 31) (.tmp 36) 44 rfl Try.underlying44 info_flo rfl (by decide) (HROW.out.alloc _) rfl ⟨w1.heap.size, 0, none⟩ rfl (csF_len (newF t s x)) (newCells w1 _ _) (csF_one _) (by omega) (by decide) (by simp; omega) ?_; intro v2 w2 he2 hg2 hb2; obtain ⟨A2, c2, rfl⟩ := ow_shape he2; have q1 := (h1h.out.afterF (HB.out.alloc hb1 _) hg2).1; have d3 := (blk5 (q1.trans h1h.out.blk)).2.2.2.1; have df := (blk5 (q1.trans h1h.out.blk)).2.2.2.2.2 3; have HE2 := Lib.hid he2; have HG2 := Lib.hid hg2; have HB2 := Lib.hid hb2; clear he2 hg2 hb2 q1)
    rw [← srs_snoc, ← HR.out] at HE2
    obtain ⟨p1, p2, p3⟩ := h1h.out.pushF (t' := { t with F := t.F ++ [newF t s x], G := t.G ++ [false] }) (HB.out.alloc hb1 _) HG2.out (by simpa using HB2.out) (by simpa using HE2.out) rfl rfl rfl
    have HF := Lib.hid (PAns.done (x := .tuple #[.int .i64 t.F.length, .int .i64 0]) hO hS HT.out p1 p2 p3)
    go_ret2
    exact HF.out
end Go.Proofs.Ytgojbomdkdlclaa

