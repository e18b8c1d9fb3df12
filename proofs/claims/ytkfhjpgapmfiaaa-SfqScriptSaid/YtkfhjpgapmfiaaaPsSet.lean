/-
  Layer 13: contracts of the program's SetWeight and Leave.
-/
import Derived.Test.YtkfhjpgapmfiaaaPsUpd
import Derived.Test.YtkfhjpgapmfiaaaTail
namespace Go.Proofs.Ytkfhjpgapmfiaaa
open Go.ChangeShapes Go.WideShapes Go.ChangeAt Go.RowKit
set_option linter.unusedVariables false

set_option maxRecDepth 100000 in
set_option maxHeartbeats 2000000 in
theorem pssetw_any {T : Nat → Prop} {R : Nat} {s : Sf} {w : World} (h : PsO T R s w) {f : Int} (hf : -1000000 ≤ f ∧ f ≤ 1000000) (x : Int) :
    Calls Try.prog 29 #[.pointer (some ⟨R, 0, none⟩), .int .i64 f, .int .i64 x] w (PsAns T R (swT s f x) (.int .i64 (swE s f x)) w) := by
  have h' := h
  obtain ⟨hs, hT, hTR, a, o, hTa, hTo, hw⟩ := h
  obtain ⟨_, c1, _, _, _, _⟩ := hw.cells
  have hRl := hw.lts.1
  cases hh : s.here f
  · obtain ⟨e1, e2⟩ := sw_6 (x := x) hh
    rw [e1, e2]
    have hl := act_look_no hw.act hf hh
    have HF := Lib.hid (PsAns.same (x := .int .i64 6) h' (e := .returned (.int .i64 6)) rfl ((Below.refl w.heap.size w).alloc (Nat.le_refl _) (.cells #[.int .i64 0, .int .i64 0, .int .i64 0] 52)))
    clear e1 e2 h' hs hw hh hf hT
    go_enter Try.func29, Try.ntmps29
    go_wp2
    go_ret
    exact HF.out
  obtain ⟨n, rfl, hn, ho⟩ := here_nat hh
  have hl := act_look hw.act hn ho
  have hst := hs.st n ho
  have HV := pistag_any ⟨n, x, s.st n⟩
  have hd1 : decide ((0 : Int) ≤ (n : Int)) = true := decide_eq_true (by omega)
  have hd2 : decide ((n : Int) < 32) = true := decide_eq_true (by omega)
  have hva : vaB [(⟨n, x, s.st n⟩ : Tg)] = wtB x := by rw [va_one hst, hd1, hd2]; rfl
  rw [hva] at HV
  unfold Calm aggT at HV
  have HB0 := (Below.refl w.heap.size w).alloc (Nat.le_refl _) (.cells #[.int .i64 n, .int .i64 (s.wt n), .int .i64 (s.st n)] 52)
  have HW0 := Whole.fresh w 52 #[.int .i64 n, .int .i64 (s.wt n), .int .i64 (s.st n)]
  cases hx : wtB x
  · obtain ⟨e1, e2⟩ := sw_1 hn ho hx
    rw [e1, e2]
    rw [hx] at HV
    have HV := Lib.hid HV
    have HB1 := Lib.hid ((HB0.setCell (p := ⟨w.heap.size, 1, none⟩) (Nat.le_refl _) (.int .i64 x)))
    have HF := Lib.hid (fun w' hb => PsAns.same (x := .int .i64 1) h' (e := .returned (.int .i64 1)) (w' := w') rfl hb)
    clear e1 e2 h' hs hw hh hf hT hva HB0 HW0 hst hd1 hd2 hx
    go_enter Try.func29, Try.ntmps29
    go_wp2_with fail
    (with_reducible refine (HV.out _).mono ?_); rintro e w' ⟨rfl, hb⟩
    have HB2 := Lib.hid hb
    clear hb
    go_wp2
    go_ret
    refine HF.out _ ?_
    exact ((Below.refl w.heap.size w).alloc (Nat.le_refl _) _).trans (HB2.out.mono (by simp))
  · obtain ⟨e1, e2⟩ := sw_0 hn ho hx
    rw [e1, e2]
    rw [hx] at HV
    have HV := Lib.hid HV
    have hok := hs.sw (n : Int) x
    rw [e2] at hok
    have HW := Lib.hid hw
    have HOK := Lib.hid hok
    have HON := Lib.hid ho
    have HTS := Lib.hid (And.intro hTR (And.intro hTa hTo))
    have HW1 := Lib.hid (Whole.fresh w 52 #[.int .i64 n, .int .i64 x, .int .i64 (s.st n)])
    clear e1 e2 h' hs hw hh hf hT hva HB0 HW0 hst hd1 hd2 hx hok ho
    go_enter Try.func29, Try.ntmps29
    go_wp2_with fail
    (with_reducible refine (HV.out _).mono ?_); rintro e w' ⟨rfl, hb⟩
    have hb1 : Below w.heap.size w w' := ((Below.refl w.heap.size w).alloc (Nat.le_refl _) _).trans (hb.mono (by simp))
    have hW1 := HW1.out.later (w' := w') hb
    have hw1 := HW.out.later hb1
    obtain ⟨_, t1, _, _, _, _⟩ := hw1.cells
    have y0 := hW1.read 0
    have y1 := hW1.read 1
    have y2 := hW1.read 2
    simp at y0 y1 y2
    have hsw : iset (actF s) n (some (.agg #[.int .i64 n, .int .i64 x, .int .i64 (s.st n)])) = actF (s.setw n x) := act_setw hn HON.out x
    obtain ⟨w4, hrun, hw4, hg4, hz4⟩ := hw1.drew.actPut hn hsw ⟨rfl, rfl, rfl, rfl⟩
    have hc4 : Chg T w w4 := ((Chg.of_below hb1).drew).grownIn hg4 (.inl HTS.out.2.1)
    have HF := Lib.hid (PsAns.mk (x := .int .i64 0) (e := .returned (.int .i64 0)) rfl HOK.out hw4 HTS.out.1 (.inl HTS.out.2.1) (.inl HTS.out.2.2) hc4)
    clear hb hb1 hW1 hw1 hsw hw4 hg4 hz4 hc4 hl c1
    go_wp2_with fail
    refine region_tail 6 (by kernel_rfl) (by kernel_rfl) ?_
    simp only [List.take_succ_cons, List.take_zero, List.drop_succ_cons, List.drop_zero]
    repeat still_step
    refine wpStill_nil ?_
    go_wp2
    go_ret
    exact HF.out
/-- The state behind a flow's leaving, before the look whether any is left. -/
def Sf.gone (s : Sf) (n : Nat) : Sf := { s with on := fset s.on n false, om := fset s.om n (s.st n) }
theorem gone_left {s : Sf} {n : Nat} (h : ¬ (s.gone n).Idle) : s.Left n (s.gone n) := ⟨rfl, rfl, rfl, rfl, rfl, .inr ⟨h, rfl, rfl⟩⟩
theorem gone_idle {s : Sf} {n : Nat} (h : (s.gone n).Idle) : s.Left n { s.gone n with om := fun _ => 0, now := 0 } := ⟨rfl, rfl, rfl, rfl, rfl, .inl ⟨h, rfl, rfl⟩⟩
set_option maxRecDepth 100000 in
set_option maxHeartbeats 2000000 in
theorem psleave_any {T : Nat → Prop} {R : Nat} {s : Sf} {w : World} (h : PsO T R s w) {f : Int} (hf : -1000000 ≤ f ∧ f ≤ 1000000) :
    Calls Try.prog 19 #[.pointer (some ⟨R, 0, none⟩), .int .i64 f] w fun e w' => ∃ t, LvT s f t ∧ PsAns T R t (.int .i64 (lvE s f)) w e w' := by
  have h' := h
  obtain ⟨hs, hT, hTR, a, o, hTa, hTo, hw⟩ := h
  obtain ⟨_, c1, c2, _, _, _⟩ := hw.cells
  have hRl := hw.lts.1
  cases hh : s.here f
  · obtain ⟨e1, e2⟩ := lv_6 hh
    rw [e1]
    have hl := act_look_no hw.act hf hh
    have HF := Lib.hid (show ∃ t, LvT s f t ∧ PsAns T R t (.int .i64 6) w (.returned (.int .i64 6)) (w.alloc (.cells #[.int .i64 0, .int .i64 0, .int .i64 0] 52)) from ⟨s, (e2 s).2 rfl, PsAns.same (x := .int .i64 6) h' (e := .returned (.int .i64 6)) rfl ((Below.refl w.heap.size w).alloc (Nat.le_refl _) (.cells #[.int .i64 0, .int .i64 0, .int .i64 0] 52))⟩)
    clear e1 e2 h' hs hw hh hf hT
    go_enter Try.func19, Try.ntmps19
    go_wp2
    go_ret
    exact HF.out
  obtain ⟨n, rfl, hn, ho⟩ := here_nat hh
  obtain ⟨e1, e2⟩ := lv_0 hn ho
  rw [e1]
  have hl := act_look hw.act hn ho
  have hb0 := (Below.refl w.heap.size w).alloc (Nat.le_refl _) (.cells #[.int .i64 n, .int .i64 (s.wt n), .int .i64 (s.st n)] 52)
  have hw1 := hw.later hb0
  have hd : iset (actF s) n none = actF { s with on := fset s.on n false } := act_del hn (by simp only []; rw [fset_at]) (fun g hg => by simp only [Sf.tag]; rw [fset_ne _ _ hg]; exact ⟨rfl, trivial⟩)
  obtain ⟨w2, hrun2, hw2, hg2, hz2⟩ := hw1.actDel hn hd ⟨rfl, rfl, rfl, rfl⟩ 0
  obtain ⟨w3, hrun3, hw3, hg3, hz3⟩ := hw2.drew.remPut (t := s.gone n) hn rfl ⟨rfl, rfl, rfl⟩ ⟨rfl, rfl, rfl⟩
  have hc3 : Chg T w w3 := ((((Chg.of_below hb0).grownIn hg2 (.inl hTa)).drew).grownIn hg3 (.inl hTo))
  obtain ⟨_, t1, t2, _, _, _⟩ := hw2.cells
  obtain ⟨_, u1, u2, u3, _, uf⟩ := hw3.cells
  have hW1 : Whole w2 w.heap.size 52 #[.int .i64 n, .int .i64 (s.wt n), .int .i64 (s.st n)] := grown_blk (Whole.fresh w _ _) hg2 (by have := hw.lts.2.1; omega)
  have y2 := hW1.read 2
  simp at y2
  obtain ⟨N, hlen, hN, hz⟩ := hw3.act.len (P := Try.prog) (T := 58) (K := 3) (E := 52) Try.underlying58 3
  rw [act_idle] at hz
  have hRl3 := hw3.lts.1
  by_cases hi : (s.gone n).Idle
  · have h0 := hz.2 hi
    subst h0
    rw [show ((0 : Nat) : Int) = 0 from rfl] at hlen
    have hok : SfOk { s.gone n with om := fun _ => 0, now := 0 } := hs.left ho (gone_idle hi)
    have hsz : ((w3.setCell ⟨R, 2, none⟩ (.map (some w3.heap.size))).setCell ⟨R, 3, none⟩ (.int .i64 0)).heap.size = w3.heap.size := by simp
    have hblk := ((hw3.blk.put 2 (.map (some w3.heap.size))).put 3 (.int .i64 0)).alloc (.map #[] 0)
    have hm := MapI.made ((w3.setCell ⟨R, 2, none⟩ (.map (some w3.heap.size))).setCell ⟨R, 3, none⟩ (.int .i64 0))
    rw [hsz] at hm
    have kk : ∀ b, b ≠ R → b < w3.heap.size → (((w3.setCell ⟨R, 2, none⟩ (.map (some w3.heap.size))).setCell ⟨R, 3, none⟩ (.int .i64 0)).alloc (.map #[] 0)).heap[b]? = w3.heap[b]? := fun b hb hl =>
      ((MapKept.heap_alloc _ _).2 b (by rw [hsz]; exact hl)).trans ((Below.heap_setCell _ ⟨R, 3, none⟩ _ b hb).trans (Below.heap_setCell _ ⟨R, 2, none⟩ _ b hb))
    have hw4 : PsW (((w3.setCell ⟨R, 2, none⟩ (.map (some w3.heap.size))).setCell ⟨R, 3, none⟩ (.int .i64 0)).alloc (.map #[] 0)) R a w3.heap.size { s.gone n with om := fun _ => 0, now := 0 } :=
      ⟨hblk, hw3.act.keep (kk a hw3.aR hw3.act.lt), ⟨_, hm, fun n _ => rfl⟩, by have := hw3.act.lt; omega⟩
    have hc4 : Chg T w (((w3.setCell ⟨R, 2, none⟩ (.map (some w3.heap.size))).setCell ⟨R, 3, none⟩ (.int .i64 0)).alloc (.map #[] 0)) := ((hc3.setCell hTR 2 _).setCell hTR 3 _).alloc _
    have HF := Lib.hid (show ∃ t, LvT s n t ∧ PsAns T R t (.int .i64 0) w (.returned (.int .i64 0)) (((w3.setCell ⟨R, 2, none⟩ (.map (some w3.heap.size))).setCell ⟨R, 3, none⟩ (.int .i64 0)).alloc (.map #[] 0)) from
      ⟨_, (e2 _).2 (gone_idle hi), PsAns.mk rfl hok hw4 hTR (.inl hTa) (.inr hc3.size) hc4⟩)
    have hmm := @run_makeMap Try.prog
    clear e1 e2 h' hs hw hh hf hT hw1 hd hw2 hw3 hg2 hg3 hc3 hW1 hz hi hok hblk hm kk hw4 hc4 hb0 hz2 hz3 hsz
    go_enter Try.func19, Try.ntmps19
    go_wp2_with fail
    refine region_tail 7 (by kernel_rfl) (by kernel_rfl) ?_
    simp only [List.take_succ_cons, List.take_zero, List.drop_succ_cons, List.drop_zero]
    repeat still_step
    refine wpStill_nil ?_
    go_wp2
    go_ret
    exact HF.out
  · have h0 : N ≠ 0 := fun e => hi (hz.1 e)
    have hb : ((N : Int) == 0) = false := by simpa using h0
    have hok : SfOk (s.gone n) := hs.left ho (gone_left hi)
    have HF := Lib.hid (show ∃ t, LvT s n t ∧ PsAns T R t (.int .i64 0) w (.returned (.int .i64 0)) w3 from ⟨_, (e2 _).2 (gone_left hi), PsAns.mk rfl hok hw3 hTR (.inl hTa) (.inl hTo) hc3⟩)
    clear e1 e2 h' hs hw hh hf hT hw1 hd hw2 hw3 hg2 hg3 hc3 hW1 hz hi hok hb0 h0 hz2 hz3
    go_enter Try.func19, Try.ntmps19
    go_wp2_with fail
    refine region_tail 7 (by kernel_rfl) (by kernel_rfl) ?_
    simp only [List.take_succ_cons, List.take_zero, List.drop_succ_cons, List.drop_zero]
    repeat still_step
    refine wpStill_nil ?_
    go_wp2
    go_ret
    exact HF.out
end Go.Proofs.Ytkfhjpgapmfiaaa

