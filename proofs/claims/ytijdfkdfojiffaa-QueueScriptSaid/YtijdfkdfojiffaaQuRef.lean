/-
  Layer 11: contracts of the reference's goodCaps, NewQueue, SetCaps, Bytes, Clear, Pop.
-/
import Derived.Test.YtijdfkdfojiffaaQuMem
import Derived.Test.YtijdfkdfojiffaaOpen
namespace Go.Proofs.Ytijdfkdfojiffaa
open Go.ChangeShapes Go.WideShapes Go.ChangeAt Go.RowKit
set_option linter.unusedVariables false

theorem capsR_any (p b : Int) (w : World) : Calls Try.prog 28 #[.int .i64 p, .int .i64 b] w fun e w' => e = .returned (.bool (cpB p b)) ∧ w = w' := by
  by_cases h1 : 1 ≤ p
  · by_cases h2 : p ≤ 64
    · by_cases h3 : 1 ≤ b
      · have e : cpB p b = decide (b ≤ 262144) := by unfold cpB; simp [h1, h2, h3]
        rw [e]
        clear e
        go_enter Try.func28, Try.ntmps28
        go_wp2
        go_ret
        exact ⟨rfl, rfl⟩
      · have e : cpB p b = false := by unfold cpB; simp [h3]
        rw [e]
        clear e
        go_enter Try.func28, Try.ntmps28
        go_wp2
        go_ret
        exact ⟨rfl, rfl⟩
    · have e : cpB p b = false := by unfold cpB; simp [h2]
      rw [e]
      clear e
      go_enter Try.func28, Try.ntmps28
      go_wp2
      go_ret
      exact ⟨rfl, rfl⟩
  · have e : cpB p b = false := by unfold cpB; simp [h1]
    rw [e]
    clear e
    go_enter Try.func28, Try.ntmps28
    go_wp2
    go_ret
    exact ⟨rfl, rfl⟩
theorem rqnew_no {p b : Int} (h : cpB p b = false) (w : World) :
    Calls Try.prog 10 #[.int .i64 p, .int .i64 b] w fun e w' => e = .returned (.tuple #[.pointer none, .int .i64 1]) ∧ w = w' := by
  have HG := capsR_any p b w
  rw [h] at HG
  have HG := Lib.hid HG
  go_enter Try.func10, Try.ntmps10
  go_wp2_with fail
  (with_reducible refine HG.out.mono ?_); rintro e w' ⟨rfl, rfl⟩
  go_wp2
  go_ret2
  exact ⟨rfl, rfl⟩
def RQNew (p b : Int) (w : World) (e : Ending) (w' : World) : Prop :=
  ∃ R S, e = .returned (.tuple #[.pointer (some ⟨R, 0, none⟩), .int .i64 0]) ∧ RQO w.heap.size R S ⟨p, b, []⟩ w' ∧ Below w.heap.size w w'
theorem RQNew.mk {p b : Int} (h : cpB p b = true) (w : World) :
    RQNew p b w (.returned (.tuple #[.pointer (some ⟨w.heap.size, 0, none⟩), .int .i64 0])) (w.alloc (.cells #[.int .i64 p, .int .i64 b, .slice none 0 0] 37)) := by
  refine ⟨_, fun k => k = w.heap.size, rfl, ⟨QuOk.new h, ⟨none, 0, ⟨(MapKept.heap_alloc _ _).1, SrAt.nil, Nat.le_refl _, Nat.le_refl _⟩, ?_⟩, fun k hk => ?_⟩, (Below.refl _ _).alloc (Nat.le_refl _) _⟩
  · rintro k (e | ⟨e, _⟩)
    · exact e
    · exact absurd rfl e
  · have hk : k = w.heap.size := hk
    subst hk; simp
theorem rqnew_any {p b : Int} (h : cpB p b = true) (w : World) :
    Calls Try.prog 10 #[.int .i64 p, .int .i64 b] w (RQNew p b w) := by
  have HF := Lib.hid (RQNew.mk h w)
  have HG := capsR_any p b w
  rw [h] at HG
  have HG := Lib.hid HG
  clear h
  go_enter Try.func10, Try.ntmps10
  go_wp2_with fail
  (with_reducible refine HG.out.mono ?_); rintro e w' ⟨rfl, rfl⟩
  go_wp2
  go_ret2
  exact HF.out
theorem rqsetCaps_any {C R : Nat} {S : Nat → Prop} {q : Qu} {w : World} (h : RQO C R S q w) (p b : Int) :
    Calls Try.prog 18 #[.pointer (some ⟨R, 0, none⟩), .int .i64 p, .int .i64 b] w (RQAns C R S (qcT q p b) (.int .i64 (qcE q p b)) w) := by
  have HG := capsR_any p b w
  have HQ := QuOk.caps h.1 p b
  cases hc : cpB p b
  · have e1 : qcE q p b = 1 := by unfold qcE qnE; rw [hc]; rfl
    have e2 : qcT q p b = q := by unfold qcT qnE; rw [hc]; rfl
    rw [e1, e2]
    rw [hc] at HG
    have HG := Lib.hid HG
    have HF := Lib.hid (RQAns.stay (x := .int .i64 1) h (Below.refl _ w))
    clear e1 e2 hc HQ h
    go_enter Try.func18, Try.ntmps18
    go_wp2_with fail
    (with_reducible refine HG.out.mono ?_); rintro e w' ⟨rfl, rfl⟩
    go_wp2
    go_ret
    exact HF.out
  · have e1 : qcE q p b = 0 := by unfold qcE qnE; rw [hc]; rfl
    have e2 : qcT q p b = { q with mp := p, mb := b } := by unfold qcT qnE; rw [hc]; rfl
    rw [e1]
    rw [e2] at HQ ⊢
    rw [hc] at HG
    have HG := Lib.hid HG
    have hh := h
    obtain ⟨h0, ⟨A, c, h1, h2⟩, h3⟩ := h
    obtain ⟨c0, c1, c2, cf⟩ := h1.cells
    have f0 := cf 0
    have f1 := cf 1
    have HF : Hid (RQAns C R S { q with mp := p, mb := b } (.int .i64 0) w (.returned (.int .i64 0)) ((w.setCell ⟨R, 0, none⟩ (.int .i64 p)).setCell ⟨R, 1, none⟩ (.int .i64 b))) := Lib.hid ⟨rfl, hh.turn HQ (Below.refl _ w) (A' := A) (c' := c) (by simp [World.setCell]) (fun k hk => (Below.heap_setCell _ ⟨R, 1, none⟩ _ k hk).trans (Below.heap_setCell _ ⟨R, 0, none⟩ _ k hk)) rfl rfl rfl (by
      have b0 := heap_setCell_same w R 0 _ _ (.int .i64 p) h1.blk
      have b1 := heap_setCell_same (w.setCell ⟨R, 0, none⟩ (.int .i64 p)) R 1 _ _ (.int .i64 b) b0
      rw [b1]; rfl) h1.row h1.fit (fun k hk => .inl (h2 k hk))⟩
    clear e1 e2 hc HQ hh h0 h1 h2 h3 cf
    go_enter Try.func18, Try.ntmps18
    go_wp2_with fail
    (with_reducible refine HG.out.mono ?_); rintro e w' ⟨rfl, rfl⟩
    go_wp2
    go_ret
    exact HF.out
set_option maxHeartbeats 2000000 in
theorem rqbytes_any {C R : Nat} {S : Nat → Prop} {q : Qu} {w : World} (h : RQO C R S q w) :
    Calls Try.prog 14 #[.pointer (some ⟨R, 0, none⟩)] w fun e w' => e = .returned (.int .i64 (sumB q.L)) ∧ w = w' := by
  obtain ⟨h0, ⟨A, c, h1, h2⟩, h3⟩ := h
  obtain ⟨c0, c1, c2, _⟩ := h1.cells
  have hf := h0.few
  have HC := Lib.hid (fun k (hk : k < q.L.length) => h1.row.pk hk)
  have HT := Lib.hid (fun k (hk : k < q.L.length) => sumB_take hk)
  have HB := Lib.hid (fun k => sumB_bd (q.L.take k) (fun p hp => pk_len (h0.pks p (List.mem_of_mem_take hp))))
  have HP := Lib.hid (fun k (hk : k < q.L.length) => pk_len (h0.pks _ (List.getElem_mem hk)))
  have HE := Lib.hid (show sumB (q.L.take q.L.length) = sumB q.L by rw [List.take_length])
  clear h1 h0 h2 h3
  go_enter Try.func14, Try.ntmps14
  go_wp2
  go_loopw [3, 4] (fun s3 s4 wr => ∃ (k : Nat) (z : Int), k ≤ q.L.length ∧ s4 = .int .i64 k ∧ s3 = .int .i64 z ∧ Hid (z = sumB (q.L.take k)) ∧ w = wr) (fun s3 s4 _ => q.L.length - (intOf s4).toNat)
  case atStart => exact ⟨0, 0, Nat.zero_le _, rfl, rfl, Lib.hid rfl, rfl⟩
  case round =>
    obtain ⟨k, z, hk, rfl, rfl, HZ, rfl⟩ := hrel
    by_cases hlt : k < q.L.length
    · obtain ⟨b, off, rfl, _, _, e0, e1, e2, e3, e4⟩ := HC.out k hlt
      have hp := HP.out k hlt
      have hb := HB.out k
      have ht := HT.out k hlt
      rw [← HZ.out] at hb ht
      rw [List.length_take] at hb
      generalize hx : q.L[k].l = x at *
      have hw : IntKind.i64.wrap (z + x) = z + x := IntWalk.i64_in _ (by omega)
      have HZ2 : Hid (z + x = sumB (q.L.take (k + 1))) := Lib.hid ht.symm
      clear HC HP ht hb hx e0 e1 e3 e4 HZ
      go_wp2
      go_roundw
      case rel => exact ⟨k + 1, z + x, by omega, by go_num, by first | rfl | rw [hw] | go_num, HZ2, trivial⟩
      case measure => simp [intOf]; omega
    · obtain rfl : k = q.L.length := by omega
      have HF : Hid (z = sumB q.L) := Lib.hid (HZ.out.trans HE.out)
      clear HZ
      go_wp2
      go_ret
      exact ⟨ret_int HF.out, rfl⟩
theorem rqclear_any {C R : Nat} {S : Nat → Prop} {q : Qu} {w : World} (h : RQO C R S q w) :
    Calls Try.prog 33 #[.pointer (some ⟨R, 0, none⟩)] w (RQGot C R S (clT q) q.L w) := by
  have hh := h
  obtain ⟨h0, ⟨A, c, h1, h2⟩, h3⟩ := h
  obtain ⟨c0, c1, c2, cf⟩ := h1.cells
  have f2 := cf 2
  have HF : Hid (RQGot C R S (clT q) q.L w (.returned (.slice A q.L.length c)) (w.setCell ⟨R, 2, none⟩ (.slice none 0 0))) := Lib.hid ⟨A, c, rfl, hh.turn h0.clear (Below.refl _ w) (A' := none) (c' := 0) (by simp [World.setCell]) (fun k hk => Below.heap_setCell _ ⟨R, 2, none⟩ _ k hk) rfl rfl rfl (by
      rw [heap_setCell_same w R 2 _ _ (.slice none 0 0) h1.blk]; rfl) SrAt.nil (Nat.le_refl _) (by
      rintro k (e | ⟨e, _⟩)
      · exact .inl (h2 k (.inl e))
      · exact absurd rfl e), by
      have := (h1.row.setCell (g := R) (.inl (by omega)) 2 (.slice none 0 0)).wider (L' := C) (by have := h1.lo; omega) (Nat.le_refl _)
      simpa [World.setCell] using this⟩
  clear hh h0 h1 h2 h3 cf c0 c1
  go_enter Try.func33, Try.ntmps33
  go_wp2
  go_ret
  exact HF.out
end Go.Proofs.Ytijdfkdfojiffaa

