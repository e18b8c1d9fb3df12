/-
  Layer 11: contract of the program's Push.
-/
import Derived.Test.YtijdfkdfojiffaaQpNew
namespace Go.Proofs.Ytijdfkdfojiffaa
open Go.ChangeShapes Go.WideShapes Go.ChangeAt Go.RowKit
set_option linter.unusedVariables false

set_option maxRecDepth 100000 in
theorem qpush_bad {C : Nat} {b : Qb} {q : Qu} {w : World} (h : QO C b q w) {p : Pk} (hv : pkOk p = false) :
    Calls Try.prog 23 #[.pointer (some ⟨b.H, 0, none⟩), aggP p] w (QAns C b q (.int .i64 1) w) := by
  have HST := Lib.hid (fun x w' (hb : Below w.heap.size w w') => QAns.stay (x := x) h hb)
  have HV := qvalid_any p
  rw [hv] at HV
  obtain ⟨i, f, l, a, d⟩ := p
  unfold aggP at HV ⊢
  simp only at HV ⊢
  have HV := Lib.hid HV
  have hb1 := (Below.refl w.heap.size w).alloc (Nat.le_refl _) (.cells #[.int .i64 i, .int .i64 f, .int .i64 l, .int .i64 a, .int .i64 d] 40)
  have HB1 := Lib.hid hb1
  clear hb1 h hv
  go_enter Try.func23, Try.ntmps23
  go_wp2_with fail
  (with_reducible refine (HV.out _).mono ?_); rintro e w1 ⟨rfl, hb⟩
  have HF := Lib.hid (fun x => HST.out x w1 (HB1.out.trans (hb.mono HB1.out.size)))
  clear hb
  go_wp2
  go_ret
  exact HF.out _
set_option maxRecDepth 100000 in
set_option maxHeartbeats 4000000 in
theorem qpush_many {C : Nat} {b : Qb} {q : Qu} {w : World} (h : QO C b q w) {p : Pk} (hv : pkOk p = true) (hm : q.mp < q.L.length + 1) :
    Calls Try.prog 23 #[.pointer (some ⟨b.H, 0, none⟩), aggP p] w (QAns C b q (.int .i64 4) w) := by
  have HST := Lib.hid (fun x w' (hb : Below w.heap.size w w') => QAns.stay (x := x) h hb)
  have HV := qvalid_any p
  rw [hv] at HV
  obtain ⟨i, f, l, a, d⟩ := p
  unfold aggP at HV ⊢
  simp only at HV ⊢
  have HV := Lib.hid HV
  have hb1 := (Below.refl w.heap.size w).alloc (Nat.le_refl _) (.cells #[.int .i64 i, .int .i64 f, .int .i64 l, .int .i64 a, .int .i64 d] 40)
  have HB1 := Lib.hid hb1
  have HWH := Lib.hid (Whole.fresh w 40 #[.int .i64 i, .int .i64 f, .int .i64 l, .int .i64 a, .int .i64 d])
  obtain ⟨h0, M, P, h1, h2⟩ := h
  have hn := h2.len
  have HK := Lib.hid (fun w' (hb : Below w.heap.size w w') => (h1.below hb).cells)
  have HL := Lib.hid (fun w' (hb : Below w.heap.size w w') => qlen_any (h1.below hb))
  rw [hn] at HL
  have hf := h0.few
  have hd : decide (q.mp < (q.L.length : Int) + 1) = true := decide_eq_true hm
  have hwr : IntKind.i64.wrap ((q.L.length : Int) + 1) = (q.L.length : Int) + 1 := IntWalk.i64_in _ (by omega)
  clear hb1 hv h0 h1 h2 hm hn
  generalize q.mp = mp at *
  generalize q.mb = mb at *
  go_enter Try.func23, Try.ntmps23
  go_wp2_with fail
  (with_reducible refine (HV.out _).mono ?_); rintro e w1 ⟨rfl, hb⟩
  have hb2 := HB1.out.trans (hb.mono HB1.out.size)
  obtain ⟨c0, c1, c2, c3, cf⟩ := HK.out w1 hb2
  have HF := Lib.hid (fun x n => HST.out x (w1.drewN n) (Below_drewN hb2 n))
  have HLN := Lib.hid (fun n => HL.out (w1.drewN n) (Below_drewN hb2 n))
  clear hb hb2 cf HK HL
  go_wp2_with fail
  go_quiet ((go_at_call 12; exact Calls.quiet_of_same ((HLN.out _).mono fun _ _ h => ⟨h.1, h.2.symm⟩)))
  go_wp2
  go_ret
  exact HF.out _ _
/-- The region that asks whether there is room: nothing old changes. -/
def QbC (W1 : World) (_ : Nat) (w : World) : Prop := Below W1.heap.size W1 w
def QbR (w w' : World) : Prop := Below w.heap.size w w'
def QbV (H B : Nat) (n : Nat) (mp mb sm l : Int) (g : Bool) : Nat → Value → World → Prop
  | 0, v, _ => v = .pointer (some ⟨H, 0, none⟩)
  | 1, v, _ => v = .int .i64 n
  | 2, v, _ => v = .int .i64 ((n : Int) + 1)
  | 3, v, _ => v = .pointer (some ⟨H, 0, none⟩)
  | 4, v, _ => v = .pointer (some ⟨H, 0, none⟩)
  | 5, v, _ => v = .pointer (some ⟨H, 0, none⟩)
  | 6, v, _ => v = .int .i64 mp
  | 7, v, _ => v = .bool false
  | 8, v, _ => v = .bool false
  | 9, v, _ => v = .pointer (some ⟨H, 0, none⟩)
  | 10, v, _ => v = .int .i64 sm
  | 11, v, _ => v = .pointer (some ⟨B, 2, none⟩)
  | 12, v, _ => v = .int .i64 l
  | 13, v, _ => v = .int .i64 (sm + l)
  | 14, v, _ => v = .pointer (some ⟨H, 0, none⟩)
  | 15, v, _ => v = .pointer (some ⟨H, 0, none⟩)
  | 16, v, _ => v = .pointer (some ⟨H, 1, none⟩)
  | 17, v, _ => v = .int .i64 mb
  | 18, v, _ => v = .bool g
  | 19, v, _ => v = .bool g
  | _, _, _ => True
theorem QbV.keep {H B n : Nat} {mp mb sm l : Int} {g : Bool} (i : Nat) (v : Value) (w w' : World) (hv : QbV H B n mp mb sm l g i v w) : QbV H B n mp mb sm l g i v w' := by
  unfold QbV at *
  split at hv <;> first | exact hv | trivial
theorem QbC.step {W1 w w' : World} {k k' : Nat} (h : QbC W1 k w) (hb : Below w.heap.size w w') : QbC W1 k' w' := Below.trans h (hb.mono (Below.size h))
/-- What Push leaves behind its store and the ring's push. -/
theorem QO.pushed {C : Nat} {b : Qb} {q : Qu} {w w5 w' : World} {p : Pk} {M : List Pk} {P : List Nat} (h0 : QuOk q) (he : puE q p = 0) (h2 : Pl M P q.L) (hv : ∀ p ∈ q.L, pkOk p = true) (h5 : QW w5 C b q.mp q.mb M P) (hb5 : Below w.heap.size w w5) {k : Nat} (hk : k < 64) (hz : M.getD k pk0 = pk0) {x : Value} {e : Ending} {n5 : Nat}
    (hr : RgAns C b.R b.N 64 (P.length + 1) (upd (plN P) P.length (k : Int)) x ((putP w5 b.G (k * 5) p).drewN n5) e w') : QAns C b (puT q p) (.int .i64 0) w (.returned (.int .i64 0)) w' := by
  have hq := h0.push p
  have e1 : puT q p = { q with L := q.L ++ [p] } := by unfold puT; rw [if_pos he]
  rw [e1] at hq ⊢
  obtain ⟨h6, h7⟩ := ((h5.put hk p).drewN n5).rung (P' := P ++ [k]) hr (by simp) (fun i hi => plN_snoc P k i (by simpa using hi))
  exact ⟨rfl, ⟨hq, M.set k p, P ++ [k], h6, h2.push hk (h2.not_in hv hz) p⟩, (((putP_chg (Chg.of_below hb5) (.inr (.inl rfl))).drewN n5).trans h7)⟩
set_option maxRecDepth 100000 in
set_option maxHeartbeats 8000000 in
theorem qpush_rest {C : Nat} {b : Qb} {q : Qu} {w : World} (h : QO C b q w) {p : Pk} (hv : pkOk p = true) (hm : ¬ q.mp < q.L.length + 1) :
    Calls Try.prog 23 #[.pointer (some ⟨b.H, 0, none⟩), aggP p] w (QAns C b (puT q p) (.int .i64 (puE q p)) w) := by
  have HST := Lib.hid (fun x w' (hb : Below w.heap.size w w') => QAns.stay (x := x) h hb)
  have HV := qvalid_any p
  have hsum := h.1.sums
  have hpl := pk_len hv
  have H1 := Lib.hid (fun (hx : ¬ q.mb < sumB q.L + p.l) => (pu_0 hv hm hx).1)
  have H4 := Lib.hid (fun (hx : q.mb < sumB q.L + p.l) => pu_4 hv (.inr hx))
  rw [hv] at HV
  have hb1 := (Below.refl w.heap.size w).alloc (Nat.le_refl _) (.cells #[.int .i64 p.i, .int .i64 p.f, .int .i64 p.l, .int .i64 p.a, .int .i64 p.d] 40)
  have HB1 := Lib.hid hb1
  have HWH := Lib.hid (Whole.fresh w 40 #[.int .i64 p.i, .int .i64 p.f, .int .i64 p.l, .int .i64 p.a, .int .i64 p.d])
  obtain ⟨h0, M, P, h1, h2⟩ := h
  have hn := h2.len
  have HK := Lib.hid (fun w' (hb : Below w.heap.size w w') => (h1.below hb).cells)
  have HL := Lib.hid (fun w' (hb : Below w.heap.size w w') => qlen_any (h1.below hb))
  have HBY := Lib.hid (fun w' (hb : Below w.heap.size w w') => qbytes_any (h1.below hb) (h2.lens h0.pks))
  unfold Calm at HBY
  rw [h2.bytes] at HBY
  have hf := h0.few
  have hmp := h0.mp
  have hlt : q.L.length < 64 := by omega
  have HI := Lib.hid (fun w' (hb : Below w.heap.size w w') => by
    obtain ⟨j, hj, hz⟩ := h2.room h0.pks hlt
    exact qindex_any (h1.below hb) hj hz (fun k => (h2.mem k).imp id fun hk => pk_id (h0.pks _ hk)))
  have HW := Lib.hid (fun w' (hb : Below w.heap.size w w') => h1.below hb)
  have HP := Lib.hid (fun (w5 w' : World) (he : puE q p = 0) (hb5 : Below w.heap.size w w5) (k : Nat) (hk : k < 64) (hz : M.getD k pk0 = pk0) (x : Value) (e : Ending) (n5 : Nat) hr => QO.pushed (e := e) (x := x) (w' := w') h0 he h2 h0.pks (h1.below hb5) hb5 hk hz (n5 := n5) hr)
  have HR := Lib.hid (fun (w5 : World) (hb5 : Below w.heap.size w w5) (k : Nat) (hk : k < 64) (n5 : Nat) => rgpush_ok ((((h1.below hb5).put hk p).drewN n5).ring) (by omega : P.length < 64) (k : Int))
  have hHlt := (h1.lt b.H (.inl rfl)).2
  have hGlt := (h1.lt b.G (.inr (.inl rfl))).2
  have hGH := h1.apart.1.symm
  obtain ⟨i, f, l, a, d⟩ := p
  unfold aggP at HV ⊢
  simp only at HV H1 H4 HB1 HWH hpl ⊢
  rw [hn] at HL
  have HV := Lib.hid HV
  have hd : decide (q.mp < (q.L.length : Int) + 1) = false := decide_eq_false hm
  obtain ⟨g, hg⟩ : ∃ g, decide (q.mb < sumB q.L + l) = g := ⟨_, rfl⟩
  have HG := Lib.hid hg
  have hwr2 : IntKind.i64.wrap (sumB q.L + l) = sumB q.L + l := IntWalk.i64_in _ (by omega)
  have hwr : IntKind.i64.wrap ((q.L.length : Int) + 1) = (q.L.length : Int) + 1 := IntWalk.i64_in _ (by omega)
  clear hb1 hv h1 h2 hm hsum hpl hn h0 hmp hf hlt
  obtain ⟨mp, hmp⟩ : ∃ mp, q.mp = mp := ⟨_, rfl⟩
  obtain ⟨mb, hmb⟩ : ∃ mb, q.mb = mb := ⟨_, rfl⟩
  obtain ⟨sm, hsm⟩ : ∃ sm, sumB q.L = sm := ⟨_, rfl⟩
  obtain ⟨n, hn⟩ : ∃ n, q.L.length = n := ⟨_, rfl⟩
  have HKK := Lib.hid (show ∀ w' (hb : Below w.heap.size w w'), w'.cell? ⟨b.H, 0, none⟩ = some (.int .i64 mp) ∧ w'.cell? ⟨b.H, 1, none⟩ = some (.int .i64 mb) ∧ w'.cell? ⟨b.H, 2, none⟩ = some (.slice (some ⟨b.G, 0, none⟩) 64 64) ∧ w'.cell? ⟨b.H, 3, none⟩ = some (.pointer (some ⟨b.R, 0, none⟩)) ∧ ∀ o, w'.frozen? ⟨b.H, o, none⟩ = false from fun w' hb => by have := HK.out w' hb; rwa [hmp, hmb] at this)
  have HBB := Lib.hid (show ∀ w' (hb : Below w.heap.size w w'), Calls Try.prog 13 #[.pointer (some ⟨b.H, 0, none⟩)] w' (fun e w2 => e = .returned (.int .i64 sm) ∧ Below w'.heap.size w' w2) from fun w' hb => by have := HBY.out w' hb; rwa [hsm] at this)
  have HLL := Lib.hid (show ∀ w' (hb : Below w.heap.size w w'), Calls Try.prog 12 #[.pointer (some ⟨b.H, 0, none⟩)] w' (fun e w2 => e = .returned (.int .i64 n) ∧ w' = w2) from fun w' hb => by have := HL.out w' hb; rwa [hn] at this)
  rw [hmb, hsm] at hg
  rw [hsm] at hwr2
  rw [hmp, hn] at hd
  rw [hn] at hwr
  have HQ := Lib.hid (And.intro hmb hsm)
  clear HK HBY HL hmp hmb hsm hn
  go_enter Try.func23, Try.ntmps23
  go_wp2_with fail
  (with_reducible refine (HV.out _).mono ?_); rintro e w1 ⟨rfl, hb⟩
  have HB2 := Lib.hid (HB1.out.trans (hb.mono HB1.out.size))
  have HWB := Lib.hid (HWH.out.later hb)
  have HWW := Lib.hid (fun W (h : Below w1.heap.size w1 W) => HB2.out.trans (h.mono HB2.out.size))
  have HB0 := Lib.hid (show QbC w1 20 w1.drew from (Below.refl _ _).drew)
  clear hb
  go_wp2_with fail
  refine wp_region_loose 48 (by kernel_rfl) (by kernel_rfl) (QbC w1) QbR (QbV b.H w.heap.size n mp mb sm l g) rfl (fun i v w w' _ hv => QbV.keep i v w w' hv) HB0.out ?_ ?_
  · simp only [OblAll]
    refine ⟨?_, ?_, ?_, ?_, ?_, ?_, ?_, ?_, ?_, ?_, ?_, ?_, ?_, ?_, ?_, ?_, ?_, ?_, ?_, ?_, trivial⟩
    all_goals
      intro fu wx vals hC hp
      simp [predL, predE, Region.binds, PreV, QbV] at hp
      simp only [fillA, if_true, Act.put]
      simp
      have HCx := Lib.hid hC
      have hbx := HWW.out wx hC
      obtain ⟨c0, c1, c2, c3, _⟩ := HKK.out wx hbx
      have k2 := (HWB.out.later hC).read 2
      simp at k2
      have HLx := Lib.hid (HLL.out wx hbx)
      have HBx := Lib.hid (HBB.out wx hbx)
      have HR0 := Lib.hid (show QbR wx wx from Below.refl _ _)
      clear hC hbx
    · go_wp2
      exact ⟨rfl, HCx.out.step (Below.refl _ _), HR0.out, rfl⟩
    · simp only [hp]
      clear hp
      go_wp2_with fail
      (with_reducible refine HLx.out.mono ?_); rintro e w' ⟨rfl, rfl⟩
      go_wp2
      exact ⟨rfl, HCx.out.step (Below.refl _ _), HR0.out, rfl⟩
    · simp only [hp]
      clear hp
      go_wp2
      exact ⟨rfl, HCx.out.step (Below.refl _ _), HR0.out, rfl⟩
    · go_wp2
      exact ⟨rfl, HCx.out.step (Below.refl _ _), HR0.out, rfl⟩
    · simp only [hp]
      clear hp
      go_wp2
      exact ⟨rfl, HCx.out.step (Below.refl _ _), HR0.out, rfl⟩
    · simp only [hp]
      clear hp
      go_wp2
      exact ⟨rfl, HCx.out.step (Below.refl _ _), HR0.out, rfl⟩
    · simp only [hp]
      clear hp
      go_wp2
      exact ⟨rfl, HCx.out.step (Below.refl _ _), HR0.out, rfl⟩
    · simp only [hp]
      clear hp
      go_wp2
      exact ⟨rfl, HCx.out.step (Below.refl _ _), HR0.out, rfl⟩
    · simp only [hp]
      clear hp
      go_wp2
      exact ⟨rfl, HCx.out.step (Below.refl _ _), HR0.out, rfl⟩
    · simp only [hp]
      clear hp
      go_wp2
      exact ⟨rfl, HCx.out.step (Below.refl _ _), HR0.out, rfl⟩
    · simp only [hp]
      clear hp
      go_wp2_with fail
      (with_reducible refine HBx.out.mono ?_); rintro e w' ⟨rfl, hb⟩
      have HB := Lib.hid hb
      clear hb
      go_wp2
      exact ⟨rfl, HCx.out.step HB.out, HB.out, rfl⟩
    · simp only [hp]
      clear hp
      go_wp2
      exact ⟨rfl, HCx.out.step (Below.refl _ _), HR0.out, rfl⟩
    · simp only [hp]
      clear hp
      go_wp2
      exact ⟨rfl, HCx.out.step (Below.refl _ _), HR0.out, rfl⟩
    · simp only [hp]
      clear hp
      go_wp2
      exact ⟨rfl, HCx.out.step (Below.refl _ _), HR0.out, rfl⟩
    · simp only [hp]
      clear hp
      go_wp2
      exact ⟨rfl, HCx.out.step (Below.refl _ _), HR0.out, rfl⟩
    · simp only [hp]
      clear hp
      go_wp2
      exact ⟨rfl, HCx.out.step (Below.refl _ _), HR0.out, rfl⟩
    · simp only [hp]
      clear hp
      go_wp2
      exact ⟨rfl, HCx.out.step (Below.refl _ _), HR0.out, rfl⟩
    · simp only [hp]
      clear hp
      go_wp2
      exact ⟨rfl, HCx.out.step (Below.refl _ _), HR0.out, rfl⟩
    · simp only [hp]
      clear hp
      go_wp2
      exact ⟨rfl, HCx.out.step (Below.refl _ _), HR0.out, rfl⟩
    · simp only [hp]
      clear hp
      go_wp2
      exact ⟨rfl, HCx.out.step (Below.refl _ _), HR0.out, rfl⟩
  · intro wz vals hC hV
    have e28 := hV 19 (by simp)
    simp only [QbV] at e28
    simp only [fillA, if_true, Act.put]
    simp
    simp only [e28]
    have HBz := Lib.hid (HWW.out wz hC)
    have HWz := Lib.hid (HWB.out.later hC)
    clear e28 hV hC
    cases g
    · have he : ¬ q.mb < sumB q.L + l := of_decide_eq_false HG.out
      have HE := Lib.hid (H1.out (Int.not_lt.1 he))
      obtain ⟨c0, c1, c2, c3, _⟩ := HKK.out wz HBz.out
      have HIz := Lib.hid (HI.out wz HBz.out)
      clear he c0 c1 hg
      go_wp2_with fail
      (with_reducible refine HIz.out.mono ?_); intro e w5 hx
      obtain ⟨k, hk, hz, rfl, hb5⟩ := hx
      have HB5 := Lib.hid (HBz.out.trans (hb5.mono HBz.out.size))
      have h5 := HW.out w5 HB5.out
      have hk' : (k : Int) < 64 := by omega
      obtain ⟨_, _, c2, c3, _⟩ := h5.cells
      obtain ⟨e0, e1, e2, e3, e4⟩ := h5.pk hk
      have f0 := h5.row.free (k * 5)
      have f1 := h5.row.free (k * 5 + 1)
      have f2 := h5.row.free (k * 5 + 2)
      have f3 := h5.row.free (k * 5 + 3)
      have f4 := h5.row.free (k * 5 + 4)
      have hbx := HWz.out.later hb5
      have y0 := hbx.read 0
      have y1 := hbx.read 1
      have y2 := hbx.read 2
      have y3 := hbx.read 3
      have y4 := hbx.read 4
      simp at y0 y1 y2 y3 y4
      have HRk := Lib.hid (fun n5 => HR.out w5 HB5.out k hk n5)
      have HF := Lib.hid (fun w' x e n5 => HP.out w5 w' HE.out HB5.out k hk hz x e n5)
      have HF := Lib.hid (show ∀ w' x e n5, RgAns C b.R b.N 64 (P.length + 1) (upd (plN P) P.length (k : Int)) x ((putP w5 b.G (k * 5) ⟨i, f, l, a, d⟩).drewN n5) e w' → QAns C b (puT q ⟨i, f, l, a, d⟩) (.int .i64 (puE q ⟨i, f, l, a, d⟩)) w (.returned (.int .i64 0)) w' from fun w' x e n5 hr => by rw [HE.out]; exact HF.out w' x e n5 hr)
      clear hz hb5 h5 hbx HIz HI
      go_wp2_with fail
      go_region
      all_goals
        go_wp2_with fail
        refine Calls.mono (HRk.out 1) ?_
        intro e w6 ha
        have HE6 := Lib.hid (HF.out w6 _ _ _ ha)
        obtain ⟨rfl, _⟩ := ha
        go_wp2
        go_ret
        exact HE6.out
    · have he : q.mb < sumB q.L + l := of_decide_eq_true HG.out
      have HF := Lib.hid (show QAns C b (puT q ⟨i, f, l, a, d⟩) (.int .i64 (puE q ⟨i, f, l, a, d⟩)) w (.returned (.int .i64 4)) wz by rw [(H4.out he).1, (H4.out he).2]; exact HST.out (.int .i64 4) wz HBz.out)
      clear he hg
      go_wp2
      go_ret
      exact HF.out
end Go.Proofs.Ytijdfkdfojiffaa

