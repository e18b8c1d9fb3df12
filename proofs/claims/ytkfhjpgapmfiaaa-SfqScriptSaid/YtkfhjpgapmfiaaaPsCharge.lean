/-
  Layer 13: contract of the program's Charge. Written by gen_pscharge.py.
-/
import Derived.Test.YtkfhjpgapmfiaaaPsSub
import Derived.Test.YtkfhjpgapmfiaaaStA
namespace Go.Proofs.Ytkfhjpgapmfiaaa
open Go.ChangeShapes Go.WideShapes Go.ChangeAt Go.RowKit
set_option linter.unusedVariables false

/-- The state behind a charge of c, before the look whether it is to be rebased. -/
def Sf.paid (s : Sf) (n : Nat) (c : Int) : Sf := { s with now := max s.now (s.st n), st := fset s.st n (s.st n + c) }
theorem SfOk.paid {s : Sf} (h : SfOk s) {n : Nat} (ho : s.on n = true) {c : Int} (hc : 0 ≤ c) (hx : s.st n + c ≤ 1099511627776) : SfOk (s.paid n c) := by
  have hn := h.st n ho
  have hnow := h.now
  refine ⟨h.at_, ?_, h.away, h.lt, h.wt, fun g hg => ?_, h.om⟩
  · simp only [Sf.paid]; omega
  · simp only [Sf.paid]
    by_cases e : g = n
    · subst e; rw [fset_at]; omega
    · rw [fset_ne _ _ e]; exact h.st g hg
/-- What the program takes off, and what it leaves. -/
theorem paid_charged {s : Sf} {n : Nat} {c : Int} {q : Nat} (hq : (s.paid n c).Sel q) : 
    (s.at_ ≤ min (s.paid n c).now ((s.paid n c).st q) → s.Charged n c ((s.paid n c).sub (min (s.paid n c).now ((s.paid n c).st q)))) ∧
    (min (s.paid n c).now ((s.paid n c).st q) < s.at_ → s.Charged n c (s.paid n c)) := by
  have hm : IsMin s.on (fset s.st n (s.st n + c)) ((s.paid n c).st q) := ⟨⟨q, hq.1, hq.2.1, rfl⟩, fun g hg ho => (hq.2.2 g hg ho).1⟩
  have e : min (s.paid n c).now ((s.paid n c).st q) = min ((s.paid n c).st q) (max s.now (s.st n)) := by
    show min (max s.now (s.st n)) _ = _
    omega
  rw [e]
  constructor
  · intro h1
    refine ⟨rfl, rfl, rfl, _, _, hm, rfl, .inl ⟨h1, fun g hg => ?_, fun g => rfl, rfl, rfl⟩⟩
    show (if s.on g = true then _ else _) = _
    rw [if_pos hg]; rfl
  · intro h1
    exact ⟨rfl, rfl, rfl, _, _, hm, rfl, .inr ⟨h1, fun g hg => rfl, fun g => rfl, rfl, rfl⟩⟩
set_option maxRecDepth 100000 in
set_option maxHeartbeats 8000000 in
theorem pscharge_any {T : Nat → Prop} {R : Nat} {s : Sf} {w : World} (h : PsO T R s w) {f : Int} (hf : -1000000 ≤ f ∧ f ≤ 1000000) (l : Int) (haw : s.away ≤ 1000000000000000000) :
    Calls Try.prog 22 #[.pointer (some ⟨R, 0, none⟩), .int .i64 f, .int .i64 l] w fun e w' => ∃ t, ChT s f l t ∧ PsAns T R t (.int .i64 (chE s f l)) w e w' := by
  have h' := h
  obtain ⟨hs, hT, hTR, a, o, hTa, hTo, hw⟩ := h
  obtain ⟨_, c1, _, _, _, _⟩ := hw.cells
  have hRl := hw.lts.1
  cases hh : s.here f
  · obtain ⟨e1, e2⟩ := ch_6 (l := l) hh
    rw [e1]
    have hl := act_look_no hw.act hf hh
    have HF := Lib.hid (show ∃ t, ChT s f l t ∧ PsAns T R t (.int .i64 6) w (.returned (.int .i64 6)) (w.alloc (.cells #[.int .i64 0, .int .i64 0, .int .i64 0] 52)) from ⟨s, (e2 s).2 rfl, PsAns.same (x := .int .i64 6) h' (e := .returned (.int .i64 6)) rfl ((Below.refl w.heap.size w).alloc (Nat.le_refl _) (.cells #[.int .i64 0, .int .i64 0, .int .i64 0] 52))⟩)
    clear e1 e2 h' hs hw hh hf hT haw
    go_enter Try.func22, Try.ntmps22
    go_wp2
    go_ret
    exact HF.out
  obtain ⟨n, rfl, hn, ho⟩ := here_nat hh
  have hl := act_look hw.act hn ho
  have hst := hs.st n ho
  have hwt := hs.wt n ho
  have HFI := finish_any (s.st n) l (s.wt n)
  unfold Calm at HFI
  have hstB : stB (s.st n) = true := by unfold stB; simp; omega
  have hb0 := (Below.refl w.heap.size w).alloc (Nat.le_refl _) (.cells #[.int .i64 n, .int .i64 (s.wt n), .int .i64 (s.st n)] 52)
  by_cases hnok : leB l = true ∧ s.st n + l * unC (s.wt n) ≤ 1099511627776
  rotate_left 1
  · obtain ⟨er, herr, hE, hne, hT2⟩ : ∃ er, fiE (s.st n) l (s.wt n) = er ∧ chE s n l = er ∧ (er != 0) = true ∧ ∀ t, ChT s n l t ↔ t = s := by
      cases hle : leB l with
      | false =>
        obtain ⟨e1, e2⟩ := ch_1 hn ho hle
        exact ⟨1, (fi_1 (fun h => by rw [hle] at h; cases h.1)).1, e1, rfl, e2⟩
      | true =>
        have hx : ¬ s.st n + l * unC (s.wt n) ≤ 1099511627776 := fun h => hnok ⟨hle, h⟩
        obtain ⟨e1, e2⟩ := ch_2 hn ho hle hx
        exact ⟨2, (fi_2 hle (wt_of hwt) hstB hx).1, e1, rfl, e2⟩
    rw [hE]
    rw [herr] at HFI
    have HFI := Lib.hid HFI
    have HF := Lib.hid (fun (w' : World) (hb : Below w.heap.size w w') => show ∃ t, ChT s n l t ∧ PsAns T R t (.int .i64 er) w (.returned (.int .i64 er)) w' from ⟨s, (hT2 s).2 rfl, PsAns.same h' rfl hb⟩)
    have HB0 := Lib.hid hb0
    clear h' hs hw hh hf hT haw hst hwt hstB hb0 hnok herr hE hT2 ho
    go_enter Try.func22, Try.ntmps22
    go_wp2_with fail
    (with_reducible refine (HFI.out _).mono ?_); rintro e w' ⟨rfl, hb⟩
    have HB := Lib.hid (HB0.out.trans (hb.mono (by simp)))
    clear hb
    go_wp2
    go_ret
    exact HF.out _ HB.out
  obtain ⟨hle, hx⟩ := hnok
  obtain ⟨e1, e2⟩ := ch_0 hn ho hle hx
  obtain ⟨f1, f2⟩ := fi_0 hle (wt_of hwt) hstB hx
  have hcb := co_bd hle (wt_of hwt)
  rw [f1, f2] at HFI
  rw [e1]
  obtain ⟨c, hc⟩ : ∃ c, l * unC (s.wt n) = c := ⟨_, rfl⟩
  rw [hc] at hx hcb HFI e2
  have hok := hs.paid ho hcb.1 hx
  obtain ⟨f0, g0, hsel⟩ := sel_some hok
  obtain ⟨q, hq⟩ : ∃ q, (s.paid n c).Sel q := by
    rcases hsel with ⟨hi, _⟩ | ⟨q, hq, _⟩
    · have := hi n hn
      rw [show (s.paid n c).on n = s.on n from rfl, ho] at this; cases this
    · exact ⟨q, hq⟩
  obtain ⟨p1, p2⟩ := paid_charged hq
  have HFI := Lib.hid HFI
  have HW := Lib.hid hw
  have HOK := Lib.hid hok
  have HS := Lib.hid hs
  have HQ := Lib.hid hq
  have HP := Lib.hid (And.intro p1 p2)
  have HE2 := Lib.hid e2
  have HTS := Lib.hid (And.intro hTR (And.intro hTa hTo))
  have HTL := Lib.hid hT
  have HAW := Lib.hid haw
  have HON := Lib.hid ho
  have HX := Lib.hid (And.intro hcb hx)
  have HX0 := Lib.hid (Whole.fresh w 52 #[.int .i64 n, .int .i64 (s.wt n), .int .i64 (s.st n)])
  have HB0 := Lib.hid hb0
  have hact : iset (actF { s with now := max s.now (s.st n) }) n (some (.agg #[.int .i64 n, .int .i64 (s.wt n), .int .i64 (s.st n + c)])) = actF (s.paid n c) := by
    have : (s.paid n c).tag n = ⟨n, s.wt n, s.st n + c⟩ := by simp only [Sf.paid, Sf.tag]; rw [fset_at]
    have h9 := act_put (s := { s with now := max s.now (s.st n) }) (t := s.paid n c) hn ho (fun g hg => by simp only [Sf.paid, Sf.tag]; rw [fset_ne _ _ hg]; exact ⟨trivial, rfl⟩)
    rw [this] at h9
    exact h9
  have HAC := Lib.hid hact
  clear e1 e2 f1 f2 h' hs hw hh hf hT haw hst hwt hstB hb0 hle hx hcb hok hsel hq p1 p2 hTR hTa hTo ho hact
  go_enter Try.func22, Try.ntmps22
  go_wp2_with fail
  (with_reducible refine (HFI.out _).mono ?_); rintro e wB ⟨rfl, hb⟩
  have hbB := HB0.out.trans (hb.mono (by simp))
  have hXB := HX0.out.later hb
  have hwB := HW.out.later hbB
  obtain ⟨_, t1, _, t3, _, tf⟩ := hwB.cells
  have x0 := hXB.read 0
  have x1 := hXB.read 1
  have x2 := hXB.read 2
  simp at x0 x1 x2
  have xf := hXB.free
  have hRB : R ≠ w.heap.size := by have := HW.out.lts.1; omega
  -- the virtual time stored, then the tag's start
  have hwC := hwB.drew.nowPut (max s.now (s.st n))
  have hXC : Whole (wB.drew.setCell ⟨R, 3, none⟩ (.int .i64 (max s.now (s.st n)))) w.heap.size 52 #[.int .i64 n, .int .i64 (s.wt n), .int .i64 (s.st n)] := (show Whole wB.drew _ _ _ from hXB).other (Ne.symm hRB) 3 _
  have hXD := hXC.put 2 (.int .i64 (s.st n + c))
  have hkD : ∀ b, b ≠ w.heap.size → ((wB.drew.setCell ⟨R, 3, none⟩ (.int .i64 (max s.now (s.st n)))).setCell ⟨w.heap.size, 2, none⟩ (.int .i64 (s.st n + c))).heap[b]? = (wB.drew.setCell ⟨R, 3, none⟩ (.int .i64 (max s.now (s.st n)))).heap[b]? := fun b hb => Below.heap_setCell _ ⟨w.heap.size, 2, none⟩ _ b hb
  have hlts := HW.out.lts
  have hwD := hwC.keep (w' := (wB.drew.setCell ⟨R, 3, none⟩ (.int .i64 (max s.now (s.st n)))).setCell ⟨w.heap.size, 2, none⟩ (.int .i64 (s.st n + c))) (fun b hb => hkD b (by rcases hb with rfl | rfl | rfl <;> omega))
  have hcD : Chg T w ((wB.drew.setCell ⟨R, 3, none⟩ (.int .i64 (max s.now (s.st n)))).setCell ⟨w.heap.size, 2, none⟩ (.int .i64 (s.st n + c))) := (((Chg.of_below hbB).drew).setCell HTS.out.1 3 _).setNew (Nat.le_refl _) 2 _
  have HWD := Lib.hid hwD
  have HXD := Lib.hid hXD
  have HCD := Lib.hid hcD
  clear hb hbB hXB hwB hwC hXC hXD hkD hwD hcD hlts hl c1
  go_wp2_with fail
  refine region_tail 10 (by kernel_rfl) (by kernel_rfl) ?_
  simp only [List.take_succ_cons, List.take_zero, List.drop_succ_cons, List.drop_zero]
  repeat still_step
  refine wpStill_nil ?_
  go_wp2_with fail
  obtain ⟨wD, hwDe⟩ : ∃ wD, ((wB.setCell ⟨R, 3, none⟩ (.int .i64 (max s.now (s.st n)))).setCell ⟨w.heap.size, 2, none⟩ (.int .i64 (s.st n + c))).drew = wD := ⟨_, rfl⟩
  have hwD : PsW wD R a o { s with now := max s.now (s.st n) } := HWD.out.keep (fun b _ => by rw [← hwDe]; rfl)
  have hXD : Whole wD w.heap.size 52 #[.int .i64 n, .int .i64 (s.wt n), .int .i64 (s.st n + c)] := HXD.out.carry (by rw [← hwDe]; rfl)
  have hcD : Chg T w wD := by
    have h9 := HCD.out
    rw [← hwDe]
    exact ⟨h9.os, h9.tape, h9.output, h9.size, h9.block⟩
  rw [hwDe]
  clear hwDe HWD HXD HCD t1 t3 tf x0 x1 x2 xf hRB
  obtain ⟨_, t1, _, _, _, _⟩ := hwD.cells
  have x0 := hXD.read 0
  have x1 := hXD.read 1
  have x2 := hXD.read 2
  simp at x0 x1 x2
  obtain ⟨wE, hrun, hwE, hgE, hzE⟩ := hwD.drew.actPut (t := s.paid n c) hn HAC.out ⟨rfl, rfl, rfl, rfl⟩
  have hcE : Chg T w wE := (hcD.drew).grownIn hgE (.inl HTS.out.2.1)
  have HWE := Lib.hid hwE
  have HCE := Lib.hid hcE
  obtain ⟨_, _, _, t3, _, _⟩ := hwE.cells
  have hRE := hwE.lts.1
  have hpo : PsO T R (s.paid n c) wE := ⟨HOK.out, fun k hk => Nat.lt_of_lt_of_le (HTL.out k hk) hcE.size, HTS.out.1, a, o, HTS.out.2.1, HTS.out.2.2, hwE⟩
  have HPO := Lib.hid hpo
  clear hwD hXD hcD hwE hcE hgE hzE hpo HAC HX0 HB0
  go_wp2_with fail
  refine region_tail 6 (by kernel_rfl) (by kernel_rfl) ?_
  simp only [List.take_succ_cons, List.take_zero, List.drop_succ_cons, List.drop_zero]
  repeat still_step
  refine wpStill_nil ?_
  go_wp2_with fail
  clear t1 x0 x1 x2 hrun
  obtain ⟨nw, hnw⟩ : ∃ nw, (s.paid n c).now = nw := ⟨_, rfl⟩
  obtain ⟨q0, hq0⟩ : ∃ q0 : Int, (q : Int) = q0 := ⟨_, rfl⟩
  obtain ⟨q1, hq1⟩ : ∃ q1, (s.paid n c).wt q = q1 := ⟨_, rfl⟩
  obtain ⟨q2, hq2⟩ : ∃ q2, (s.paid n c).st q = q2 := ⟨_, rfl⟩
  have HT3 := Lib.hid (fun (W : World) (hb0 : Below wE.drew.heap.size wE.drew W) => have hb : Below wE.heap.size wE W := (Below.refl _ _).drew.trans hb0; show W.cell? ⟨R, 3, none⟩ = some (.int .i64 nw) from by rw [← hnw]; exact (hb.cell (p := ⟨R, 3, none⟩) hRE).trans t3)
  have HLE := Lib.hid (fun (W : World) (hb0 : Below wE.drew.heap.size wE.drew W) => have hb : Below wE.heap.size wE W := (Below.refl _ _).drew.trans hb0; show Calls Try.prog 37 #[.pointer (some ⟨R, 0, none⟩)] W (fun e w' => e = .returned (.agg #[.int .i64 q0, .int .i64 q1, .int .i64 q2]) ∧ Below W.heap.size W w') from by
    have h9 := psleast_any (HPO.out.below hb) HQ.out
    unfold Calm aggT at h9
    simp only [Sf.tag] at h9
    rw [hq0, hq1, hq2] at h9
    exact h9)
  have hfd := fld_start q0 q1 q2
  have HNQ := Lib.hid (And.intro hnw hq2)
  clear hnw hq0 hq1 hq2 t3
  refine wp_region_looseS 70 (by kernel_rfl) (by kernel_rfl) (StB wE.drew (fun i => [.pointer (some ⟨R, 0, none⟩), .pointer (some ⟨R, 0, none⟩), .pointer (some ⟨R, 3, none⟩), .int .i64 nw, .pointer (some ⟨R, 0, none⟩), .agg #[.int .i64 q0, .int .i64 q1, .int .i64 q2], .int .i64 q2, .int .i64 (min nw q2), .int .i64 (min nw q2)].getD i undef)) rfl StB.start ?_ ?_
  · simp only [OblAllS]
    refine ⟨?_, ?_, ?_, ?_, ?_, ?_, ?_, ?_, ?_, trivial⟩
    · intro L wx vals hi hu hcl hC
      have HCx := Lib.hid hC
      clear hC hcl hu hi
      simp only [fillA, if_true, Act.put]
      simp
      go_wp2
      exact ⟨rfl, HCx.out.quiet 0 rfl⟩
    · intro L wx vals hi hu hcl hC
      simp [predL, predE, Region.binds, UpL] at hu
      have e0 : vals 0 = .pointer (some ⟨R, 0, none⟩) := hC.v 0 (by simp [hu])
      have HCx := Lib.hid hC
      clear hC hcl hu hi
      simp only [fillA, if_true, Act.put]
      simp
      simp only [e0]
      clear e0
      go_wp2
      exact ⟨rfl, HCx.out.quiet 1 rfl⟩
    · intro L wx vals hi hu hcl hC
      simp [predL, predE, Region.binds, UpL] at hu
      have e1 : vals 1 = .pointer (some ⟨R, 0, none⟩) := hC.v 1 (by simp [hu])
      have HCx := Lib.hid hC
      clear hC hcl hu hi
      simp only [fillA, if_true, Act.put]
      simp
      simp only [e1]
      clear e1
      go_wp2
      exact ⟨rfl, HCx.out.quiet 2 rfl⟩
    · intro L wx vals hi hu hcl hC
      simp [predL, predE, Region.binds, UpL] at hu
      have e2 : vals 2 = .pointer (some ⟨R, 3, none⟩) := hC.v 2 (by simp [hu])
      have k3 := HT3.out wx hC.b
      have HCx := Lib.hid hC
      clear hC hcl hu hi
      simp only [fillA, if_true, Act.put]
      simp
      simp only [e2]
      clear e2
      go_wp2
      exact ⟨rfl, HCx.out.quiet 3 rfl⟩
    · intro L wx vals hi hu hcl hC
      have HCx := Lib.hid hC
      clear hC hcl hu hi
      simp only [fillA, if_true, Act.put]
      simp
      go_wp2
      exact ⟨rfl, HCx.out.quiet 4 rfl⟩
    · intro L wx vals hi hu hcl hC
      simp [predL, predE, Region.binds, UpL] at hu
      have e4 : vals 4 = .pointer (some ⟨R, 0, none⟩) := hC.v 4 (by simp [hu])
      have HL := Lib.hid (HLE.out wx hC.b)
      have HCx := Lib.hid hC
      clear hC hcl hu hi
      simp only [fillA, if_true, Act.put]
      simp
      simp only [e4]
      clear e4
      go_wp2_with fail
      (with_reducible refine HL.out.mono ?_); rintro e w9 ⟨rfl, hb⟩
      have HX := Lib.hid (HCx.out.step 5 (x := .agg #[.int .i64 q0, .int .i64 q1, .int .i64 q2]) rfl (HCx.out.b.trans (hb.mono HCx.out.b.size)))
      clear hb
      go_wp2
      exact ⟨rfl, HX.out⟩
    · intro L wx vals hi hu hcl hC
      simp [predL, predE, Region.binds, UpL] at hu
      have e5 : vals 5 = .agg #[.int .i64 q0, .int .i64 q1, .int .i64 q2] := hC.v 5 (by simp [hu])
      have HCx := Lib.hid hC
      clear hC hcl hu hi
      simp only [fillA, if_true, Act.put]
      simp
      simp only [e5]
      clear e5
      go_wp2
      exact ⟨rfl, HCx.out.quiet 6 rfl⟩
    · intro L wx vals hi hu hcl hC
      simp [predL, predE, Region.binds, UpL] at hu
      have e3 : vals 3 = .int .i64 nw := hC.v 3 (by simp [hu])
      have e6 : vals 6 = .int .i64 q2 := hC.v 6 (by simp [hu])
      have HCx := Lib.hid hC
      clear hC hcl hu hi
      simp only [fillA, if_true, Act.put]
      simp
      simp only [e3, e6]
      clear e3 e6
      go_wp2
      exact ⟨rfl, HCx.out.quiet 7 rfl⟩
    · intro L wx vals hi hu hcl hC
      simp [predL, predE, Region.binds, UpL] at hu
      have e7 : vals 7 = .int .i64 (min nw q2) := hC.v 7 (by simp [hu])
      have HCx := Lib.hid hC
      clear hC hcl hu hi
      simp only [fillA, if_true, Act.put]
      simp
      simp only [e7]
      clear e7
      go_wp2
      exact ⟨rfl, HCx.out.quiet 8 rfl⟩
  · intro wz vals L hC hall
    have e8 : vals 8 = .int .i64 (min nw q2) := hC.v 8 (hall 8 (by simp))
    have hbz : Below wE.heap.size wE wz := (Below.refl _ _).drew.trans hC.b
    simp only [fillA, if_true, Act.put]
    simp
    simp only [e8]
    have hpz := HPO.out.below hbz
    obtain ⟨_, _, _, a', o', _, _, hwz⟩ := hpz
    obtain ⟨u0, _, _, _, _, _⟩ := hwz.cells
    have hcz : Chg T w wz := HCE.out.trans (Chg.of_below hbz)
    have HPZ := Lib.hid (HPO.out.below hbz)
    have HCZ := Lib.hid hcz
    obtain ⟨p1, p2⟩ := HP.out
    rw [HNQ.out.1, HNQ.out.2] at p1 p2
    obtain ⟨at_, hat⟩ : ∃ at_, s.at_ = at_ := ⟨_, rfl⟩
    rw [show (s.paid n c).at_ = s.at_ from rfl, hat] at u0
    rw [hat] at p1 p2
    obtain ⟨m, hm⟩ : ∃ m, min nw q2 = m := ⟨_, rfl⟩
    rw [hm] at p1 p2 ⊢
    have hok := HOK.out
    have hatb := HS.out.at_
    by_cases hge : at_ ≤ m
    · have hch := p1 hge
      have hok2 := (HS.out.charged HON.out HX.out.1.1 HX.out.2 hch).1
      have hSB := pssub_any HPZ.out (b := m) (by omega) (by rw [HNQ.out.1]; omega) (fun g hg => by
        have := (HQ.out.2.2 g (hok.lt g hg) hg).1
        rw [HNQ.out.2] at this; omega) HAW.out hok2
      have HSB := Lib.hid hSB
      have HF := Lib.hid (fun (w' : World) (e : Ending) (h9 : PsAns T R ((s.paid n c).sub m) (.tuple #[]) wz e w') => show ∃ t, ChT s n l t ∧ PsAns T R t (.int .i64 0) w (.returned (.int .i64 0)) w' from
        ⟨_, (HE2.out _).2 hch, rfl, (by obtain ⟨T', k1, k2⟩ := h9.2.1; exact ⟨T', k1, fun k hk => (k2 k hk).imp id (fun h => Nat.le_trans hcz.size h)⟩), hcz.trans h9.2.2⟩)
      clear hC hall e8 hbz hwz hcz p1 p2 hat hm hok hatb hch hok2 hSB
      go_wp2_with fail
      (with_reducible refine HSB.out.mono ?_); rintro e w' h9
      obtain ⟨rfl, h10, h11⟩ := h9
      have HF2 := Lib.hid (HF.out w' _ ⟨rfl, h10, h11⟩)
      clear h10 h11
      go_wp2
      go_ret
      exact HF2.out
    · have hch := p2 (by omega)
      have HF := Lib.hid (show ∃ t, ChT s n l t ∧ PsAns T R t (.int .i64 0) w (.returned (.int .i64 0)) wz from
        ⟨_, (HE2.out _).2 hch, rfl, ⟨T, HPZ.out, fun k hk => .inl hk⟩, hcz⟩)
      clear hC hall e8 hbz hwz hcz p1 p2 hat hm hok hatb hch
      go_wp2
      go_ret
      exact HF.out
end Go.Proofs.Ytkfhjpgapmfiaaa

