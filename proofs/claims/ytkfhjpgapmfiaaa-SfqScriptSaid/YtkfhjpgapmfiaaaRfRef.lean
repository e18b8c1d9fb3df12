/-
  Layer 13: contracts of the reference's Select, SetWeight, New, Copy.
-/
import Derived.Test.YtkfhjpgapmfiaaaRfMem
namespace Go.Proofs.Ytkfhjpgapmfiaaa
open Go.ChangeShapes Go.WideShapes Go.ChangeAt Go.RowKit
set_option linter.unusedVariables false

theorem RfS.valid {r : Rf} {s : Sf} (h : RfS r s) (hs : SfOk s) : vaB r.L = true := h.rep.valid hs.wt hs.st
theorem RfS.idle {r : Rf} {s : Sf} (h : RfS r s) (hi : s.Idle) : ltI r.L = -1 := by
  rw [h.rep.idle.1 hi]; exact lt_no (fun h => absurd h.2 (by simp))
theorem RfS.sel {r : Rf} {s : Sf} (h : RfS r s) (hs : SfOk s) {n : Nat} (hn : s.Sel n) : ∃ m, ∃ hm : m < r.L.length, ltI r.L = (m : Int) ∧ r.L[m] = s.tag n := by
  obtain ⟨i, hi, _⟩ := h.rep.place hn.1 hn.2.1
  have h0 : 0 < r.L.length := by omega
  obtain ⟨f, hf, hk, e⟩ := h.rep.least h0
  have := hf.only hn
  subst this
  exact ⟨_, hk, lt_yes (h.valid hs) h0, e⟩
set_option maxHeartbeats 1000000 in
theorem rselect_any {T : Nat → Prop} {R : Nat} {s : Sf} {w : World} (h : RsO T R s w) {f g : Int} (ha : SelA s f g) :
    Calls Try.prog 32 #[.pointer (some ⟨R, 0, none⟩)] w fun e w' => e = .returned (.tuple #[.int .i64 f, .int .i64 g]) ∧ Below w.heap.size w w' := by
  obtain ⟨hs, r, ⟨_, _, vL, vO, hw⟩, hr⟩ := h
  obtain ⟨_, c1, _, _, _, _⟩ := hw.cells
  have hcell := fun k (hk : k < r.L.length) => hw.lsL.tg hk
  have hlt := hw.blk.size_lt
  obtain ⟨A, c, rfl, hlc, _⟩ := hw.lsL.shape
  have hfew := hr.few.1
  have HL := rleast_any A c r.L 0 w.heap.size w (by omega) (hw.lsL.at_ rfl)
  unfold Calm at HL
  rcases ha with ⟨hi, rfl, rfl⟩ | ⟨n, hn, rfl, rfl⟩
  · rw [hr.idle hi] at HL
    have HL := Lib.hid HL
    clear hs hr hi hw hcell
    go_enter Try.func32, Try.ntmps32
    go_wp2_with fail
    (with_reducible refine HL.out.mono ?_); rintro e w' ⟨rfl, hb⟩
    have HB := Lib.hid hb
    clear hb
    go_wp2
    go_ret2
    exact ⟨rfl, HB.out⟩
  · obtain ⟨m, hm, e1, e2⟩ := hr.sel hs hn
    obtain ⟨b, off, c', hv, _, _, hbl, _, e0, _, _⟩ := hcell m hm
    obtain ⟨rfl, rfl⟩ : A = some ⟨b, off, none⟩ ∧ c = c' := by simpa using hv
    rw [e1] at HL
    rw [e2] at e0
    simp only [Sf.tag] at e0
    have HL := Lib.hid HL
    have hm' : (m : Int) < r.L.length := by omega
    clear hs hr hn hw hcell e1 e2 hv
    go_enter Try.func32, Try.ntmps32
    go_wp2_with fail
    (with_reducible refine HL.out.mono ?_); rintro e w' ⟨rfl, hb⟩
    have HB := Lib.hid hb
    have d1 := (hb.cell (p := ⟨R, 1, none⟩) hlt).trans c1
    have d0 := (hb.cell (p := ⟨b, off + m * 3, none⟩) hbl).trans e0
    clear hb c1 e0
    go_wp2
    go_ret2
    exact ⟨rfl, HB.out⟩
set_option maxRecDepth 100000 in
set_option maxHeartbeats 4000000 in
theorem rsetw_any {T : Nat → Prop} {R : Nat} {s : Sf} {w : World} (h : RsO T R s w) (f x : Int) :
    Calls Try.prog 30 #[.pointer (some ⟨R, 0, none⟩), .int .i64 f, .int .i64 x] w (RsAns T R (swT s f x) (.int .i64 (swE s f x)) w) := by
  have h' := h
  obtain ⟨hs, r, ⟨hT, hTR, vL, vO, hw⟩, hr⟩ := h
  have hfew := hr.few.1
  have HI := rindex_any hw (by omega) f
  have HG := rweight_any x
  cases hf : s.here f
  · obtain ⟨e1, e2⟩ := sw_6 (x := x) hf
    rw [e1, e2]
    rw [hr.rep.no_place hf] at HI
    have HI := Lib.hid HI
    have HF := Lib.hid (fun e w' => RsAns.same (x := .int .i64 6) h' (e := e) (w' := w'))
    clear e1 e2 HG hs hw hr h' hf
    go_enter Try.func30, Try.ntmps30
    go_wp2_with fail
    (with_reducible refine HI.out.mono ?_); rintro e w' ⟨rfl, rfl⟩
    go_wp2
    go_ret
    exact HF.out _ _ rfl (Below.refl _ _)
  · obtain ⟨n, rfl, hn, ho⟩ := here_nat hf
    obtain ⟨i, hi, ei, et⟩ := hr.rep.one_place hn ho
    rw [ei] at HI
    have HI := Lib.hid HI
    cases hx : wtB x
    · obtain ⟨e1, e2⟩ := sw_1 hn ho hx
      rw [e1, e2]
      rw [hx] at HG
      have HG := Lib.hid HG
      have HF := Lib.hid (fun e w' => RsAns.same (x := .int .i64 1) h' (e := e) (w' := w'))
      clear e1 e2 hs hw hr h' hf hx et ei
      go_enter Try.func30, Try.ntmps30
      go_wp2_with fail
      (with_reducible refine HI.out.mono ?_); rintro e w' ⟨rfl, rfl⟩
      go_wp2_with fail
      (with_reducible refine (HG.out _).mono ?_); rintro e w' ⟨rfl, rfl⟩
      go_wp2
      go_ret
      exact HF.out _ _ rfl (Below.refl _ _)
    · obtain ⟨e1, e2⟩ := sw_0 hn ho hx
      rw [hx] at HG
      have HG := Lib.hid HG
      have hok := hs.sw (n : Int) x
      rw [e2] at hok
      rw [e1, e2]
      have hR2 := hr.setw (x := x) hi et
      have hlt := hw.blk.size_lt
      have hb0 := (Below.refl w.heap.size w).alloc (Nat.le_refl _) (.cells #[] 52)
      obtain ⟨v2, w2, hrun, hv2, hg2⟩ := run_append_list (P := Try.prog) 49 49 Try.underlying49 info_tg (own_empty w w.heap.size (Nat.le_refl _)) (hw.lsL.keep fun b hb => hb0.block b (hT b hb)) (by omega) (by omega) (by simp)
      rw [List.nil_append, Nat.zero_add] at hv2
      have hb2 : Below w.heap.size w w2 := below_grew hb0 (Nat.le_refl _) hg2 (fun k hk => by simp [Value.ownBlock] at hk; omega)
      obtain ⟨g, c2, rfl, hgl, hgs⟩ := ow_at hv2 (by omega)
      have hblk2 := hw.blk.later hb2
      have hng : R ≠ g := by omega
      have k1 := hblk2.read 1
      have k2 : ∀ o, w2.frozen? ⟨R, o, none⟩ = false := hblk2.free
      simp at k1
      have hv3 : (w2.setCell ⟨R, 1, none⟩ (.slice (some ⟨g, 0, none⟩) r.L.length c2)).ownsRow w.heap.size 52 3 (.slice (some ⟨g, 0, none⟩) r.L.length c2) r.L.length (srs csT r.L) := owk hv2 fun k hk => Below.heap_setCell _ _ _ _ (by simp [Value.ownBlock] at hk; simp; omega)
      have hv4 := row_cell csT_len hv3 hi ⟨r.L[i].f, x, r.L[i].s⟩ (.int .i64 x) (k := 1) (by omega) rfl
      have m1 := hv3.cellAt (i * 3 + 1) (by omega)
      rw [srs_at csT_len r.L i 1 hi (by omega)] at m1
      have m2 := hv3.frozenAt (i * 3 + 1)
      have hc4 : Chg (fun k => k = R) w ((w2.setCell ⟨R, 1, none⟩ (.slice (some ⟨g, 0, none⟩) r.L.length c2)).setCell ⟨g, i * 3 + 1, none⟩ (.int .i64 x)) := ((Chg.of_below (S := fun k => k = R) hb2).setCell (g := R) rfl 1 _).setNew hgl _ _
      have HF := Lib.hid (RsAns.mk (r := ⟨r.at_, r.L.set i ⟨r.L[i].f, x, r.L[i].s⟩, r.O, r.now, r.away⟩) (e := .returned (.int .i64 0)) (T := T) rfl ⟨((hblk2.put 1 (.slice (some ⟨g, 0, none⟩) r.L.length c2)).other hng (i * 3 + 1) (.int .i64 x)), LsV.fresh hv4 (by simp only [List.length_set]) (Nat.le_refl _), hw.lsO.old hT hw.blk hc4⟩ hTR hR2 hok hc4)
      obtain ⟨_, c1, _, _, _, _⟩ := hw.cells
      have hi' : (i : Int) < r.L.length := by omega
      have HB2 := Lib.hid hb2
      have hd1 : (w.alloc (.cells #[] 52)).cell? ⟨R, 1, none⟩ = some vL := (hb0.cell (p := ⟨R, 1, none⟩) hlt).trans c1
      clear e1 e2 hs hw hr h' hf hx et ei hR2 hok hb0 hv2 hg2 hb2 hv3 hv4 hc4 hblk2 hT hTR
      go_enter Try.func30, Try.ntmps30
      go_wp2_with fail
      (with_reducible refine HI.out.mono ?_); rintro e w' ⟨rfl, rfl⟩
      go_wp2_with fail
      (with_reducible refine (HG.out _).mono ?_); rintro e w' ⟨rfl, rfl⟩
      go_wp2_with (at_builtin; go_loud (refine wpList_append_run rfl (.tmp 17) (.tmp 21) 49 rfl rfl rfl hrun ?_))
      go_ret
      exact HF.out
/-- What New leaves: a reference of its own. -/
def RsNew (a : Int) (w : World) (e : Ending) (w' : World) : Prop := ∃ T R, e = .returned (.tuple #[.pointer (some ⟨R, 0, none⟩), .int .i64 0]) ∧ RsO T R (Sf.new a) w' ∧ (∀ k, T k → w.heap.size ≤ k) ∧ Below w.heap.size w w'
theorem rsnew_any {a : Int} (h : 1 ≤ a ∧ a ≤ 1099511627776) (w : World) : Calls Try.prog 11 #[.int .i64 a] w (RsNew a w) := by
  have HF := Lib.hid (show RsNew a w (.returned (.tuple #[.pointer (some ⟨w.heap.size, 0, none⟩), .int .i64 0])) (w.alloc (.cells #[.int .i64 a, .slice none 0 0, .slice none 0 0, .int .i64 0, .int .i64 0] 63)) from
    ⟨fun k => k = w.heap.size, w.heap.size, rfl, ⟨SfOk.new h, ⟨a, [], [], 0, 0⟩, ⟨fun k hk => by rw [hk]; simp, rfl, _, _, ⟨Whole.fresh w _ _, LsV.nil _ _, LsV.nil _ _⟩⟩, RfS.new a⟩, (fun k hk => by omega), (Below.refl _ _).alloc (Nat.le_refl _) _⟩)
  obtain ⟨h1, h2⟩ := h
  go_enter Try.func11, Try.ntmps11
  go_wp2
  go_ret2
  exact HF.out
theorem rsnew_no {a : Int} (h : ¬ (1 ≤ a ∧ a ≤ 1099511627776)) (w : World) : Calls Try.prog 11 #[.int .i64 a] w fun e w' => e = .returned (.tuple #[.pointer none, .int .i64 1]) ∧ w = w' := by
  rcases (by omega : a < 1 ∨ (¬ a < 1 ∧ 1099511627776 < a)) with h1 | ⟨h1, h2⟩
  all_goals
    clear h
    go_enter Try.func11, Try.ntmps11
    go_wp2
    go_ret2
    exact ⟨rfl, rfl⟩
/-- Copy: a struct of its own, the lists are shared. -/
def RsCopy (T : Nat → Prop) (R : Nat) (s : Sf) (w : World) (e : Ending) (w' : World) : Prop := e = .returned (.pointer (some ⟨w.heap.size, 0, none⟩)) ∧ RsO (fun k => (T k ∧ k ≠ R) ∨ k = w.heap.size) w.heap.size s w' ∧ Below w.heap.size w w'
theorem rscopy_any {T : Nat → Prop} {R : Nat} {s : Sf} {w : World} (h : RsO T R s w) : Calls Try.prog 15 #[.pointer (some ⟨R, 0, none⟩)] w (RsCopy T R s w) := by
  obtain ⟨hs, r, ⟨hT, hTR, vL, vO, hw⟩, hr⟩ := h
  obtain ⟨c0, c1, c2, c3, c4, _⟩ := hw.cells
  have hb := (Below.refl w.heap.size w).alloc (Nat.le_refl _) (.cells #[.int .i64 r.at_, vL, vO, .int .i64 r.now, .int .i64 r.away] 63)
  have HF := Lib.hid (show RsCopy T R s w (.returned (.pointer (some ⟨w.heap.size, 0, none⟩))) (w.alloc (.cells #[.int .i64 r.at_, vL, vO, .int .i64 r.now, .int .i64 r.away] 63)) from
    ⟨rfl, ⟨hs, r, ⟨fun k hk => by
      rcases hk with ⟨h1, _⟩ | h1
      · have := hT k h1; simp; omega
      · rw [h1]; simp, .inr rfl, vL, vO, ⟨Whole.fresh w _ _, ((hw.lsL.apart hw.blk ref_ne_tag).keep fun b hb2 => hb.block b (hT b hb2.1)).wider fun b hb2 => .inl hb2, ((hw.lsO.apart hw.blk ref_ne_tag).keep fun b hb2 => hb.block b (hT b hb2.1)).wider fun b hb2 => .inl hb2⟩⟩, hr⟩, hb⟩)
  have hsL : ∃ A c, vL = .slice A r.L.length c := by obtain ⟨A, c, e, _⟩ := hw.lsL.shape; exact ⟨A, c, e⟩
  have hsO : ∃ A c, vO = .slice A r.O.length c := by obtain ⟨A, c, e, _⟩ := hw.lsO.shape; exact ⟨A, c, e⟩
  obtain ⟨A1, d1, rfl⟩ := hsL
  obtain ⟨A2, d2, rfl⟩ := hsO
  clear hs hr hw hb hT hTR
  go_enter Try.func15, Try.ntmps15
  go_wp2
  go_ret
  exact HF.out
end Go.Proofs.Ytkfhjpgapmfiaaa

