/-
  Layer 11: contract of the reference's Expire.
-/
import Derived.Test.YtijdfkdfojiffaaQuRef
namespace Go.Proofs.Ytijdfkdfojiffaa
open Go.ChangeShapes Go.WideShapes Go.ChangeAt Go.RowKit
set_option linter.unusedVariables false

/-- Two rows of packets that a call fills: those that b takes, those that it leaves, of the first k. -/
structure TwoR (w wr : World) (L : List Pk) (b : Pk → Bool) (k : Nat) (v5 v6 : Value) (n5 n6 : Nat) : Prop where
  e5 : n5 = ((L.take k).filter b).length
  e6 : n6 = ((L.take k).filter fun p => !b p).length
  r5 : wr.ownsRow w.heap.size 40 5 v5 n5 (srs csP ((L.take k).filter b))
  r6 : wr.ownsRow w.heap.size 40 5 v6 n6 (srs csP ((L.take k).filter fun p => !b p))
  ap : ∀ g, v5.ownBlock = some g → v6.ownBlock ≠ some g
  bl : Below w.heap.size w wr
theorem TwoR.start (w : World) (L : List Pk) (b : Pk → Bool) : TwoR w w L b 0 (.slice none 0 0) (.slice none 0 0) 0 0 :=
  ⟨by simp, by simp, by simpa [srs] using World.ownsRow_nil w w.heap.size 40 5, by simpa [srs] using World.ownsRow_nil w w.heap.size 40 5, (fun g e => by cases e), Below.refl _ _⟩
section
variable {w wr w2 : World} {L : List Pk} {b : Pk → Bool} {k : Nat} {v5 v6 v' : Value} {n5 n6 : Nat}
theorem TwoR.take5 (h : TwoR w wr L b k v5 v6 n5 n6) (hk : k < L.length) (hb : b L[k] = true) (o : Obj)
    (hr : w2.ownsRow w.heap.size 40 5 v' (n5 + 1) (srs csP ((L.take k).filter b) ++ csP L[k])) (hg : (wr.alloc o).grownBy w2 v5.ownBlock) (hv : v'.ownBlock = v5.ownBlock ∨ ∃ g, v'.ownBlock = some g ∧ (wr.alloc o).heap.size ≤ g) :
    TwoR w w2 L b (k + 1) v' v6 (n5 + 1) n6 := by
  have hs := h.bl.size
  refine ⟨?_, ?_, ?_, ?_, ?_, ?_⟩
  · rw [flt_take b hk, hb, List.length_append, ← h.e5]; rfl
  · rw [flt_take (fun p => !b p) hk]; simp only [hb, Bool.not_true]; simpa using h.e6
  · rw [flt_take b hk, hb]; simp only [if_true]; rw [srs_snoc]; exact hr
  · rw [flt_take (fun p => !b p) hk]; simp only [hb, Bool.not_true, Bool.false_eq_true, if_false, List.append_nil]
    exact owk (h.r6.alloc o) fun g e => hg.block g (World.ownsRow.lt (h.r6.alloc o) g e).2 (fun e' => h.ap g e'.symm e)
  · intro g e e'
    rcases hv with h1 | ⟨g', h1, h2⟩
    · exact h.ap g (by rw [← h1]; exact e) e'
    · rw [h1] at e; obtain rfl : g' = g := by simpa using e
      have := (World.ownsRow.lt h.r6 g' e').2
      simp at h2; omega
  · exact below_grew (h.bl.alloc hs o) (Nat.le_refl _) hg fun g e => (World.ownsRow.lt h.r5 g e).1
theorem TwoR.take6 (h : TwoR w wr L b k v5 v6 n5 n6) (hk : k < L.length) (hb : b L[k] = false) (o : Obj)
    (hr : w2.ownsRow w.heap.size 40 5 v' (n6 + 1) (srs csP ((L.take k).filter fun p => !b p) ++ csP L[k])) (hg : (wr.alloc o).grownBy w2 v6.ownBlock) (hv : v'.ownBlock = v6.ownBlock ∨ ∃ g, v'.ownBlock = some g ∧ (wr.alloc o).heap.size ≤ g) :
    TwoR w w2 L b (k + 1) v5 v' n5 (n6 + 1) := by
  have hs := h.bl.size
  refine ⟨?_, ?_, ?_, ?_, ?_, ?_⟩
  · rw [flt_take b hk, hb]; simpa using h.e5
  · rw [flt_take (fun p => !b p) hk, List.length_append, ← h.e6]; simp [hb]
  · rw [flt_take b hk, hb]; simp only [Bool.false_eq_true, if_false, List.append_nil]
    exact owk (h.r5.alloc o) fun g e => hg.block g (World.ownsRow.lt (h.r5.alloc o) g e).2 (fun e' => h.ap g e e'.symm)
  · rw [flt_take (fun p => !b p) hk]; simp only [hb, Bool.not_false, if_true]; rw [srs_snoc]; exact hr
  · intro g e e'
    rcases hv with h1 | ⟨g', h1, h2⟩
    · exact h.ap g e (by rw [← h1]; exact e')
    · rw [h1] at e'; obtain rfl : g' = g := by simpa using e'
      have := (World.ownsRow.lt h.r5 g' e).2
      simp at h2; omega
  · exact below_grew (h.bl.alloc hs o) (Nat.le_refl _) hg fun g e => (World.ownsRow.lt h.r6 g e).1
end
/-- What Expire leaves. -/
theorem RQO.expired {C R : Nat} {S : Nat → Prop} {q : Qu} {w wr : World} {s : Int} (h : RQO C R S q w) {A5 A6 : Option Addr} {n5 c5 n6 c6 : Nat} (ht : TwoR w wr q.L (lateB s) q.L.length (.slice A5 n5 c5) (.slice A6 n6 c6) n5 n6) :
    RQGot C R S (exT q s) (exL q s) w (.returned (.slice A5 n5 c5)) (wr.setCell ⟨R, 2, none⟩ (.slice A6 n6 c6)) := by
  have hlo := h.lo
  obtain ⟨e5, e6, r5, r6, ap, bl⟩ := ht
  rw [flt_all] at e5 r5
  rw [flt_all] at e6 r6
  obtain ⟨A, c, h1, h2⟩ := h.2.1
  have hblk := (bl.block R hlo.2).trans h1.blk
  have row5 : SrAt csP 5 wr w.heap.size wr.heap.size A5 (exL q s) := SrAt.own csP_len r5 e5
  have row6 : SrAt csP 5 wr w.heap.size wr.heap.size A6 (exT q s).L := SrAt.own csP_len r6 e6
  have hcap : n6 ≤ c6 := by
    rcases r6.2 with ⟨e, e0⟩ | ⟨g, cap, cur, e, _, _, e2, e3, _⟩
    · omega
    · simp only [Value.slice.injEq] at e; obtain ⟨_, _, rfl⟩ := e; omega
  obtain rfl : n5 = (exL q s).length := e5
  obtain rfl : n6 = (exT q s).L.length := e6
  refine ⟨A5, c5, rfl, h.turn (h.1.expire s) bl (A' := A6) (c' := c6) (by simp [World.setCell]) (fun k hk => Below.heap_setCell _ ⟨R, 2, none⟩ _ k hk) rfl rfl rfl (by rw [heap_setCell_same wr R 2 _ _ _ hblk]; rfl) (row6.wider (by omega) (Nat.le_refl _)) hcap ?_, ?_⟩
  · rintro k (e | ⟨e, o, f, e'⟩)
    · exact .inl (h2 k (.inl e))
    · obtain ⟨b, off, e2, h3, _⟩ := row6 0 (List.length_pos_iff.mpr e)
      rw [e2] at e'; obtain ⟨rfl, _⟩ : b = k ∧ _ := by simpa using e'
      exact .inr h3
  · have := (row5.setCell (g := R) (.inl hlo.2) 2 (.slice A6 (exT q s).L.length c6)).wider (L' := C) (by omega) (Nat.le_refl _)
    simpa [World.setCell] using this
set_option maxRecDepth 100000 in
set_option maxHeartbeats 4000000 in
theorem rqexpire_any {C R : Nat} {S : Nat → Prop} {q : Qu} {w : World} (h : RQO C R S q w) (s : Int) :
    Calls Try.prog 30 #[.pointer (some ⟨R, 0, none⟩), .int .i64 s] w (RQGot C R S (exT q s) (exL q s) w) := by
  have HX := Lib.hid (fun (wr : World) (A5 A6 : Option Addr) (n5 c5 n6 c6 : Nat) ht => h.expired (s := s) (wr := wr) (A5 := A5) (A6 := A6) (n5 := n5) (c5 := c5) (n6 := n6) (c6 := c6) ht)
  have hlo := h.lo
  obtain ⟨h0, ⟨A, c, h1, h2⟩, h3⟩ := h
  have hf := h0.few
  have HK := Lib.hid (fun w' (hb : Below w.heap.size w w') => (h1.below hb).cells)
  have HC := Lib.hid (fun w' (hb : Below w.heap.size w w') k (hk : k < q.L.length) => (h1.below hb).row.pk hk)
  have HL5 := Lib.hid (fun k => Nat.le_trans (flt_len (lateB s) (q.L.take k)) (List.length_take_le _ _))
  have HL6 := Lib.hid (fun k => Nat.le_trans (flt_len (fun p => !lateB s p) (q.L.take k)) (List.length_take_le _ _))
  have HS := Lib.hid (TwoR.start w q.L (lateB s))
  clear h0 h1 h2 h3
  go_enter Try.func30, Try.ntmps30
  go_wp2
  go_loopw [5, 6, 7] (fun s5 s6 s7 wr => ∃ (k : Nat) (A5 A6 : Option Addr) (n5 c5 n6 c6 : Nat), k ≤ q.L.length ∧ s7 = .int .i64 k ∧ s5 = .slice A5 n5 c5 ∧ s6 = .slice A6 n6 c6 ∧ Hid (TwoR w wr q.L (lateB s) k (.slice A5 n5 c5) (.slice A6 n6 c6) n5 n6)) (fun s5 s6 s7 _ => q.L.length - (intOf s7).toNat)
  case atStart => exact ⟨0, none, none, 0, 0, 0, 0, Nat.zero_le _, rfl, rfl, rfl, HS⟩
  case round =>
    obtain ⟨k, A5, A6, n5, c5, n6, c6, hk, rfl, rfl, rfl, HR⟩ := hrel
    have hbw := HR.out.bl
    obtain ⟨z0, z1, z2, zf⟩ := HK.out wr hbw
    by_cases hlt : k < q.L.length
    · obtain ⟨b, off, rfl, hb1, hb2, e0, e1, e2, e3, e4⟩ := HC.out wr hbw k hlt
      have l5 : n5 ≤ 64 := by have := HL5.out k; rw [← HR.out.e5] at this; omega
      have l6 : n6 ≤ 64 := by have := HL6.out k; rw [← HR.out.e6] at this; omega
      have hsw := hbw.size
      have h5 := HR.out.r5
      have h6 := HR.out.r6
      have HT5 := Lib.hid (fun (hb : lateB s q.L[k] = true) (w2 : World) (v' : Value) o hr hg hv => HR.out.take5 (w2 := w2) (v' := v') hlt hb o hr hg hv)
      have HT6 := Lib.hid (fun (hb : lateB s q.L[k] = false) (w2 : World) (v' : Value) o hr hg hv => HR.out.take6 (w2 := w2) (v' := v') hlt hb o hr hg hv)
      obtain ⟨x, hx⟩ : ∃ x, q.L[k] = x := ⟨_, rfl⟩
      rw [hx] at HT5 HT6 e0 e1 e2 e3 e4
      obtain ⟨i, f, l, a, d⟩ := x
      simp only at e0 e1 e2 e3 e4
      have H5 := Lib.hid (h5.alloc (.cells #[.int .i64 i, .int .i64 f, .int .i64 l, .int .i64 a, .int .i64 d] 40))
      have H6 := Lib.hid (h6.alloc (.cells #[.int .i64 i, .int .i64 f, .int .i64 l, .int .i64 a, .int .i64 d] 40))
      have HCL := Lib.hid (newCells wr (csP ⟨i, f, l, a, d⟩) 40)
      clear HC HK HL5 HL6 h5 h6 hx hbw z0 z1 zf HR HS HX
      by_cases hd : d = -1
      · have hl : lateB s ⟨i, f, l, a, d⟩ = false := by unfold lateB; simp [hd]
        subst hd
        replace HT6 := Lib.hid (HT6.out hl)
        clear HT5 H5 hl
        go_wp2_with (at_builtin; go_loud (refine wpList_append_one rfl (.tmp 48) (.tmp 56) 35 rfl Try.underlying35 info_pk rfl (by decide) H6.out rfl ⟨wr.heap.size, 0, none⟩ rfl (csP_len ⟨i, f, l, a, -1⟩) HCL.out (csP_one _) (by omega) (by decide) (by simp; omega) ?_); intro v2 w2 he2 hg2 hb2; obtain ⟨A2, c2, rfl⟩ := ow_shape he2; have HE2 := Lib.hid he2; have HG2 := Lib.hid hg2; have HB2 := Lib.hid hb2; clear he2 hg2 hb2)
        have HN := Lib.hid (HT6.out w2 _ _ HE2.out HG2.out HB2.out)
        go_roundw
        case rel => exact ⟨k + 1, A5, A2, n5, c5, n6 + 1, c2, by omega, by go_num, rfl, rfl, HN⟩
        case measure => simp [intOf]; omega
      · by_cases hds : d < s
        · have hl : lateB s ⟨i, f, l, a, d⟩ = true := by unfold lateB; simp [hd, hds]
          have hdb : (d == -1) = false := by simpa using hd
          replace HT5 := Lib.hid (HT5.out hl)
          clear HT6 H6 hl
          go_wp2_with (at_builtin; go_loud (refine wpList_append_one rfl (.tmp 38) (.tmp 46) 35 rfl Try.underlying35 info_pk rfl (by decide) H5.out rfl ⟨wr.heap.size, 0, none⟩ rfl (csP_len ⟨i, f, l, a, d⟩) HCL.out (csP_one _) (by omega) (by decide) (by simp; omega) ?_); intro v2 w2 he2 hg2 hb2; obtain ⟨A2, c2, rfl⟩ := ow_shape he2; have HE2 := Lib.hid he2; have HG2 := Lib.hid hg2; have HB2 := Lib.hid hb2; clear he2 hg2 hb2)
          have HN := Lib.hid (HT5.out w2 _ _ HE2.out HG2.out HB2.out)
          go_roundw
          case rel => exact ⟨k + 1, A2, A6, n5 + 1, c2, n6, c6, by omega, by go_num, rfl, rfl, HN⟩
          case measure => simp [intOf]; omega
        · have hl : lateB s ⟨i, f, l, a, d⟩ = false := by unfold lateB; simp [hds]
          have hdb : (d == -1) = false := by simpa using hd
          replace HT6 := Lib.hid (HT6.out hl)
          clear HT5 H5 hl
          go_wp2_with (at_builtin; go_loud (refine wpList_append_one rfl (.tmp 48) (.tmp 56) 35 rfl Try.underlying35 info_pk rfl (by decide) H6.out rfl ⟨wr.heap.size, 0, none⟩ rfl (csP_len ⟨i, f, l, a, d⟩) HCL.out (csP_one _) (by omega) (by decide) (by simp; omega) ?_); intro v2 w2 he2 hg2 hb2; obtain ⟨A2, c2, rfl⟩ := ow_shape he2; have HE2 := Lib.hid he2; have HG2 := Lib.hid hg2; have HB2 := Lib.hid hb2; clear he2 hg2 hb2)
          have HN := Lib.hid (HT6.out w2 _ _ HE2.out HG2.out HB2.out)
          go_roundw
          case rel => exact ⟨k + 1, A5, A2, n5, c5, n6 + 1, c2, by omega, by go_num, rfl, rfl, HN⟩
          case measure => simp [intOf]; omega
    · obtain rfl : k = q.L.length := by omega
      have HF := Lib.hid (HX.out wr A5 A6 n5 c5 n6 c6 HR.out)
      have f2 := zf 2
      clear HC HK HL5 HL6 hbw z0 z1 zf HR HS HX
      go_wp2
      go_ret
      exact HF.out
end Go.Proofs.Ytijdfkdfojiffaa

