/-
  Layer 13: the two drawn regions of the reference's Leave. Written by gen_rfleave.py.
-/
import Derived.Test.YtkfhjpgapmfiaaaRfLv
namespace Go.Proofs.Ytkfhjpgapmfiaaa
open Go.ChangeShapes Go.WideShapes Go.ChangeAt Go.RowKit
set_option linter.unusedVariables false

theorem ix18 : Ix 1 6 14 15 18 := ⟨by decide, by decide, by decide, by decide, by decide, by decide, by decide, by decide, by decide, by decide⟩
theorem ix19 : Ix 1 8 99 16 19 := ⟨by decide, by decide, by decide, by decide, by decide, by decide, by decide, by decide, by decide, by decide⟩
def LvA (R : Nat) (vO : Value) (m bb off n c i : Nat) (t0 t1 t2 : Int) (γ : Gl) (i_ : Nat) (v : Value) (_ : World) : Prop :=
  match i_ with
  | 0 => v = .pointer (some ⟨R, 0, none⟩)
  | 1 => v = .slice (some ⟨γ.g, 0, none⟩) 0 0
  | 2 => v = .pointer (some ⟨R, 0, none⟩)
  | 3 => v = .pointer (some ⟨R, 0, none⟩)
  | 4 => v = .pointer (some ⟨R, 2, none⟩)
  | 5 => v = vO
  | 6 => v = .slice γ.A1 m γ.c1
  | 7 => v = .pointer (some ⟨R, 0, none⟩)
  | 8 => v = .pointer (some ⟨R, 0, none⟩)
  | 9 => v = .pointer (some ⟨R, 1, none⟩)
  | 10 => v = .slice (some ⟨bb, off, none⟩) n c
  | 11 => v = .int .i64 (i : Nat)
  | 12 => v = .pointer (some ⟨bb, off + i * 3, none⟩)
  | 13 => v = .agg #[.int .i64 t0, .int .i64 t1, .int .i64 t2]
  | 14 => v = .slice (some ⟨γ.x, 0, none⟩) 1 1
  | 15 => v = .slice γ.A2 (m + 1) γ.c2
  | 16 => v = .pointer (some ⟨R, 0, none⟩)
  | 17 => v = .pointer (some ⟨R, 2, none⟩)
  | _ => True
theorem LvA.kg {R : Nat} {vO : Value} {m bb off n c i : Nat} {t0 t1 t2 : Int} {γ : Gl} {z : Nat} {i_ : Nat} {v : Value} {w w' : World} (hi : i_ ≠ 1) (h : LvA R vO m bb off n c i t0 t1 t2 γ i_ v w) : LvA R vO m bb off n c i t0 t1 t2 { γ with g := z } i_ v w' := by
  unfold LvA at h ⊢
  split at h <;> first | exact h | exact absurd rfl hi | trivial
theorem LvA.kp {R : Nat} {vO : Value} {m bb off n c i : Nat} {t0 t1 t2 : Int} {γ : Gl} {z : Option Addr} {z2 : Nat} {i_ : Nat} {v : Value} {w w' : World} (hi : i_ ≠ 6) (h : LvA R vO m bb off n c i t0 t1 t2 γ i_ v w) : LvA R vO m bb off n c i t0 t1 t2 { γ with A1 := z, c1 := z2 } i_ v w' := by
  unfold LvA at h ⊢
  split at h <;> first | exact h | exact absurd rfl hi | trivial
theorem LvA.kx {R : Nat} {vO : Value} {m bb off n c i : Nat} {t0 t1 t2 : Int} {γ : Gl} {z : Nat} {i_ : Nat} {v : Value} {w w' : World} (hi : i_ ≠ 14) (h : LvA R vO m bb off n c i t0 t1 t2 γ i_ v w) : LvA R vO m bb off n c i t0 t1 t2 { γ with x := z } i_ v w' := by
  unfold LvA at h ⊢
  split at h <;> first | exact h | exact absurd rfl hi | trivial
theorem LvA.kq {R : Nat} {vO : Value} {m bb off n c i : Nat} {t0 t1 t2 : Int} {γ : Gl} {z : Option Addr} {z2 : Nat} {i_ : Nat} {v : Value} {w w' : World} (hi : i_ ≠ 15) (h : LvA R vO m bb off n c i t0 t1 t2 γ i_ v w) : LvA R vO m bb off n c i t0 t1 t2 { γ with A2 := z, c2 := z2 } i_ v w' := by
  unfold LvA at h ⊢
  split at h <;> first | exact h | exact absurd rfl hi | trivial
def LvB (R bb off n c i m k : Nat) (vD : Value) (γ : Gl) (i_ : Nat) (v : Value) (_ : World) : Prop :=
  match i_ with
  | 0 => v = .pointer (some ⟨R, 0, none⟩)
  | 1 => v = .slice (some ⟨γ.g, 0, none⟩) 0 0
  | 2 => v = .pointer (some ⟨R, 0, none⟩)
  | 3 => v = .pointer (some ⟨R, 0, none⟩)
  | 4 => v = .pointer (some ⟨R, 1, none⟩)
  | 5 => v = .slice (some ⟨bb, off, none⟩) n c
  | 6 => v = .int .i64 (i : Nat)
  | 7 => v = .slice (some ⟨bb, off, none⟩) i c
  | 8 => v = .slice γ.A1 m γ.c1
  | 9 => v = .pointer (some ⟨R, 0, none⟩)
  | 10 => v = .pointer (some ⟨R, 0, none⟩)
  | 11 => v = .pointer (some ⟨R, 1, none⟩)
  | 12 => v = .slice (some ⟨bb, off, none⟩) n c
  | 13 => v = .int .i64 (i : Nat)
  | 14 => v = .int .i64 ((i : Nat) + 1)
  | 15 => v = vD
  | 16 => v = .slice γ.A2 (m + k) γ.c2
  | 17 => v = .pointer (some ⟨R, 0, none⟩)
  | 18 => v = .pointer (some ⟨R, 1, none⟩)
  | _ => True
theorem LvB.kg {R bb off n c i m k : Nat} {vD : Value} {γ : Gl} {z : Nat} {i_ : Nat} {v : Value} {w w' : World} (hi : i_ ≠ 1) (h : LvB R bb off n c i m k vD γ i_ v w) : LvB R bb off n c i m k vD { γ with g := z } i_ v w' := by
  unfold LvB at h ⊢
  split at h <;> first | exact h | exact absurd rfl hi | trivial
theorem LvB.kp {R bb off n c i m k : Nat} {vD : Value} {γ : Gl} {z : Option Addr} {z2 : Nat} {i_ : Nat} {v : Value} {w w' : World} (hi : i_ ≠ 8) (h : LvB R bb off n c i m k vD γ i_ v w) : LvB R bb off n c i m k vD { γ with A1 := z, c1 := z2 } i_ v w' := by
  unfold LvB at h ⊢
  split at h <;> first | exact h | exact absurd rfl hi | trivial
theorem LvB.kq {R bb off n c i m k : Nat} {vD : Value} {γ : Gl} {z : Option Addr} {z2 : Nat} {i_ : Nat} {v : Value} {w w' : World} (hi : i_ ≠ 16) (h : LvB R bb off n c i m k vD γ i_ v w) : LvB R bb off n c i m k vD { γ with A2 := z, c2 := z2 } i_ v w' := by
  unfold LvB at h ⊢
  split at h <;> first | exact h | exact absurd rfl hi | trivial

set_option maxRecDepth 100000 in
set_option maxHeartbeats 16000000 in
theorem rleave_any {T : Nat → Prop} {R : Nat} {s t : Sf} {w : World} (h : RsO T R s w) {f : Int} (ht : LvT s f t) :
    Calls Try.prog 28 #[.pointer (some ⟨R, 0, none⟩), .int .i64 f] w (RsAns T R t (.int .i64 (lvE s f)) w) := by
  have h' := h
  obtain ⟨hs, r, ⟨hT, hTR, vL, vO, hw⟩, hr⟩ := h
  obtain ⟨hfL, hfO⟩ := hr.few
  have HI := rindex_any hw (by omega) f
  cases hf : s.here f
  · obtain ⟨e1, e2⟩ := lv_6 hf
    have e3 := (e2 t).1 ht
    subst e3
    rw [e1]
    rw [hr.rep.no_place hf] at HI
    have HI := Lib.hid HI
    have HF := Lib.hid (fun e w' => RsAns.same (x := .int .i64 6) h' (e := e) (w' := w'))
    clear e1 e2 ht hs hw hr h' hf
    go_enter Try.func28, Try.ntmps28
    go_wp2_with fail
    (with_reducible refine HI.out.mono ?_); rintro e w' ⟨rfl, rfl⟩
    go_wp2
    go_ret
    exact HF.out _ _ rfl (Below.refl _ _)
  obtain ⟨n0, rfl, hn, ho⟩ := here_nat hf
  obtain ⟨e1, e2⟩ := lv_0 hn ho
  have hleft := (e2 t).1 ht
  obtain ⟨i, hi, ei, et⟩ := hr.rep.one_place hn ho
  rw [ei] at HI
  rw [e1]
  have hRS := hr.left hs hn ho hi et hleft
  have hok := hs.left ho hleft
  obtain ⟨c0, c1, c2, c3, c4, cf⟩ := hw.cells
  obtain ⟨bb, off, c, hvL, hlc, hTb, hbw, _, q0, q1, q2⟩ := hw.lsL.tg hi
  subst hvL
  obtain ⟨L, hLe⟩ : ∃ L, r.L = L := ⟨_, rfl⟩
  obtain ⟨O, hOe⟩ : ∃ O, r.O = O := ⟨_, rfl⟩
  have hlsL := hw.lsL
  have hlsO := hw.lsO
  have hblk := hw.blk
  have hRlt := hw.blk.size_lt
  simp only [hLe, hOe] at hRS hlsL hlsO hblk hi et q0 q1 q2 hlc hfL hfO
  obtain ⟨⟨t0, t1, t2⟩, htg⟩ : ∃ x, L[i] = x := ⟨_, rfl⟩
  rw [htg] at hRS q0 q1 q2
  simp only at q0 q1 q2
  obtain ⟨n, hne⟩ : ∃ n, L.length = n := ⟨_, rfl⟩
  have hin : i < n := by omega
  have hin' : (i : Int) < n := by omega
  have hmO : O.length ≤ 100000 := by omega
  rw [hne] at hblk hlc
  have HBK := Lib.hid hblk
  have HLO := Lib.hid hlsO
  have HLL := Lib.hid hlsL
  have HT := Lib.hid hT
  have HE := Lib.hid (And.intro q0 (And.intro q1 q2))
  have HI := Lib.hid HI
  have HRS := Lib.hid (And.intro hRS hok)
  have HTR := Lib.hid hTR
  have HNE := Lib.hid (And.intro hne hfL)
  clear e1 e2 ht hs hw hr h' hf hleft ei et hRS hok c0 c1 c2 c3 c4 cf q0 q1 q2 hlsL hlsO hblk hT hTR hLe hOe htg hne hTb hi hfL ho
  go_enter Try.func28, Try.ntmps28
  go_wp2_with fail
  (with_reducible refine HI.out.mono ?_); rintro e w' ⟨rfl, rfl⟩
  go_wp2_with fail
  refine wp_region_looseG 60 (by kernel_rfl) (by kernel_rfl) (LvC w R 2 O [⟨t0, t1, t2⟩] ⟨t0, t1, t2⟩ 1 6 14 15 18) (LvA R vO O.length bb off n c i t0 t1 t2) ⟨0, none, 0, 0, none, 0⟩ rfl (LvC.start (Below.refl _ _).drew _) ?_ ?_
  · simp only [OblAllG]
    refine ⟨?_, ?_, ?_, ?_, ?_, ?_, ?_, ?_, ?_, ?_, ?_, ?_, ?_, ?_, ?_, ?_, ?_, ?_, ?_, trivial⟩
    · intro γ U wx vals hi hu hcl hC hp
      simp [ClosedL, UpL, predL, predE, Region.binds] at hcl
      have hst : U 18 = false := by clear hC hp; cases h : U 18 with | false => rfl | true => exfalso; simp_all
      have HCx := Lib.hid hC
      simp only [fillA, if_true, Act.put]
      simp
      clear hp hC hcl hu hi hst
      go_wp2
      exact ⟨rfl, γ, HCx.out.quiet (by decide) (by decide) (by decide) (by decide) (by decide), rfl, fun _ _ _ h => h⟩
    · intro γ U wx vals hi hu hcl hC hp
      simp [ClosedL, UpL, predL, predE, Region.binds] at hcl
      have hst : U 18 = false := by clear hC hp; cases h : U 18 with | false => rfl | true => exfalso; simp_all
      have hpf : U 6 = false := by clear hC hp; cases h : U 6 with | false => rfl | true => exfalso; simp_all
      have hqf : U 15 = false := by clear hC hp; cases h : U 15 with | false => rfl | true => exfalso; simp_all
      have HCx := Lib.hid hC
      simp only [fillA, if_true, Act.put]
      simp
      have HM := Lib.hid (hC.mk_e ix18 hpf hqf hst)
      clear hp hC hcl hu hst hpf hqf
      go_wp2
      exact ⟨rfl, _, HM.out, rfl, fun jj u hj h => LvA.kg (fun e => by rw [e, hi] at hj; cases hj) h⟩
    · intro γ U wx vals hi hu hcl hC hp
      simp [ClosedL, UpL, predL, predE, Region.binds] at hcl
      have hst : U 18 = false := by clear hC hp; cases h : U 18 with | false => rfl | true => exfalso; simp_all
      have HCx := Lib.hid hC
      simp only [fillA, if_true, Act.put]
      simp
      clear hp hC hcl hu hi hst
      go_wp2
      exact ⟨rfl, γ, HCx.out.quiet (by decide) (by decide) (by decide) (by decide) (by decide), rfl, fun _ _ _ h => h⟩
    · intro γ U wx vals hi hu hcl hC hp
      simp [ClosedL, UpL, predL, predE, Region.binds] at hcl
      simp [predL, predE, Region.binds, UpL] at hu
      simp [predL, predE, Region.binds, PreV, LvA] at hp
      have hst : U 18 = false := by clear hC hp; cases h : U 18 with | false => rfl | true => exfalso; simp_all
      have HCx := Lib.hid hC
      simp only [fillA, if_true, Act.put]
      simp
      simp only [hp]
      clear hp hC hcl hu hi hst
      go_wp2
      exact ⟨rfl, γ, HCx.out.quiet (by decide) (by decide) (by decide) (by decide) (by decide), rfl, fun _ _ _ h => h⟩
    · intro γ U wx vals hi hu hcl hC hp
      simp [ClosedL, UpL, predL, predE, Region.binds] at hcl
      simp [predL, predE, Region.binds, UpL] at hu
      simp [predL, predE, Region.binds, PreV, LvA] at hp
      have hst : U 18 = false := by clear hC hp; cases h : U 18 with | false => rfl | true => exfalso; simp_all
      have HCx := Lib.hid hC
      simp only [fillA, if_true, Act.put]
      simp
      simp only [hp]
      clear hp hC hcl hu hi hst
      go_wp2
      exact ⟨rfl, γ, HCx.out.quiet (by decide) (by decide) (by decide) (by decide) (by decide), rfl, fun _ _ _ h => h⟩
    · intro γ U wx vals hi hu hcl hC hp
      simp [ClosedL, UpL, predL, predE, Region.binds] at hcl
      simp [predL, predE, Region.binds, UpL] at hu
      simp [predL, predE, Region.binds, PreV, LvA] at hp
      have hst : U 18 = false := by clear hC hp; cases h : U 18 with | false => rfl | true => exfalso; simp_all
      have k2 := ((HBK.out.later (hC.bel hst)).read 2)
      simp at k2
      have HCx := Lib.hid hC
      simp only [fillA, if_true, Act.put]
      simp
      simp only [hp]
      clear hp hC hcl hu hi hst
      go_wp2
      exact ⟨rfl, γ, HCx.out.quiet (by decide) (by decide) (by decide) (by decide) (by decide), rfl, fun _ _ _ h => h⟩
    · intro γ U wx vals hi hu hcl hC hp
      simp [ClosedL, UpL, predL, predE, Region.binds] at hcl
      simp [predL, predE, Region.binds, UpL] at hu
      simp [predL, predE, Region.binds, PreV, LvA] at hp
      have hst : U 18 = false := by clear hC hp; cases h : U 18 with | false => rfl | true => exfalso; simp_all
      have hqf : U 15 = false := by clear hC hp; cases h : U 15 with | false => rfl | true => exfalso; simp_all
      have HCx := Lib.hid hC
      simp only [fillA, if_true, Act.put]
      simp
      obtain ⟨A1, c1, w2, hrun, hX⟩ := hC.mk_p ix18 (by simp [hu]) hi hqf hst HLO.out HT.out hmO
      have HM := Lib.hid hX
      simp only [hp]
      clear hp hC hcl hu hst hqf hX
      refine wpList_append_run rfl (.tmp 12) (.tmp 16) 49 rfl rfl rfl hrun ?_
      clear hrun
      go_wp2
      exact ⟨rfl, _, HM.out, rfl, fun jj u hj h => LvA.kp (fun e => by rw [e, hi] at hj; cases hj) h⟩
    · intro γ U wx vals hi hu hcl hC hp
      simp [ClosedL, UpL, predL, predE, Region.binds] at hcl
      have hst : U 18 = false := by clear hC hp; cases h : U 18 with | false => rfl | true => exfalso; simp_all
      have HCx := Lib.hid hC
      simp only [fillA, if_true, Act.put]
      simp
      clear hp hC hcl hu hi hst
      go_wp2
      exact ⟨rfl, γ, HCx.out.quiet (by decide) (by decide) (by decide) (by decide) (by decide), rfl, fun _ _ _ h => h⟩
    · intro γ U wx vals hi hu hcl hC hp
      simp [ClosedL, UpL, predL, predE, Region.binds] at hcl
      simp [predL, predE, Region.binds, UpL] at hu
      simp [predL, predE, Region.binds, PreV, LvA] at hp
      have hst : U 18 = false := by clear hC hp; cases h : U 18 with | false => rfl | true => exfalso; simp_all
      have HCx := Lib.hid hC
      simp only [fillA, if_true, Act.put]
      simp
      simp only [hp]
      clear hp hC hcl hu hi hst
      go_wp2
      exact ⟨rfl, γ, HCx.out.quiet (by decide) (by decide) (by decide) (by decide) (by decide), rfl, fun _ _ _ h => h⟩
    · intro γ U wx vals hi hu hcl hC hp
      simp [ClosedL, UpL, predL, predE, Region.binds] at hcl
      simp [predL, predE, Region.binds, UpL] at hu
      simp [predL, predE, Region.binds, PreV, LvA] at hp
      have hst : U 18 = false := by clear hC hp; cases h : U 18 with | false => rfl | true => exfalso; simp_all
      have HCx := Lib.hid hC
      simp only [fillA, if_true, Act.put]
      simp
      simp only [hp]
      clear hp hC hcl hu hi hst
      go_wp2
      exact ⟨rfl, γ, HCx.out.quiet (by decide) (by decide) (by decide) (by decide) (by decide), rfl, fun _ _ _ h => h⟩
    · intro γ U wx vals hi hu hcl hC hp
      simp [ClosedL, UpL, predL, predE, Region.binds] at hcl
      simp [predL, predE, Region.binds, UpL] at hu
      simp [predL, predE, Region.binds, PreV, LvA] at hp
      have hst : U 18 = false := by clear hC hp; cases h : U 18 with | false => rfl | true => exfalso; simp_all
      have k1 := ((HBK.out.later (hC.bel hst)).read 1)
      simp at k1
      have HCx := Lib.hid hC
      simp only [fillA, if_true, Act.put]
      simp
      simp only [hp]
      clear hp hC hcl hu hi hst
      go_wp2
      exact ⟨rfl, γ, HCx.out.quiet (by decide) (by decide) (by decide) (by decide) (by decide), rfl, fun _ _ _ h => h⟩
    · intro γ U wx vals hi hu hcl hC hp
      simp [ClosedL, UpL, predL, predE, Region.binds] at hcl
      have hst : U 18 = false := by clear hC hp; cases h : U 18 with | false => rfl | true => exfalso; simp_all
      have HCx := Lib.hid hC
      simp only [fillA, if_true, Act.put]
      simp
      clear hp hC hcl hu hi hst
      go_wp2
      exact ⟨rfl, γ, HCx.out.quiet (by decide) (by decide) (by decide) (by decide) (by decide), rfl, fun _ _ _ h => h⟩
    · intro γ U wx vals hi hu hcl hC hp
      simp [ClosedL, UpL, predL, predE, Region.binds] at hcl
      simp [predL, predE, Region.binds, UpL] at hu
      simp [predL, predE, Region.binds, PreV, LvA] at hp
      have hst : U 18 = false := by clear hC hp; cases h : U 18 with | false => rfl | true => exfalso; simp_all
      have HCx := Lib.hid hC
      simp only [fillA, if_true, Act.put]
      simp
      simp only [hp]
      clear hp hC hcl hu hi hst
      go_wp2
      exact ⟨rfl, γ, HCx.out.quiet (by decide) (by decide) (by decide) (by decide) (by decide), rfl, fun _ _ _ h => h⟩
    · intro γ U wx vals hi hu hcl hC hp
      simp [ClosedL, UpL, predL, predE, Region.binds] at hcl
      simp [predL, predE, Region.binds, UpL] at hu
      simp [predL, predE, Region.binds, PreV, LvA] at hp
      have hst : U 18 = false := by clear hC hp; cases h : U 18 with | false => rfl | true => exfalso; simp_all
      have k0 := ((hC.bel hst).cell (p := ⟨bb, off + i * 3, none⟩) hbw).trans HE.out.1
      have k1 := ((hC.bel hst).cell (p := ⟨bb, off + i * 3 + 1, none⟩) hbw).trans HE.out.2.1
      have k2 := ((hC.bel hst).cell (p := ⟨bb, off + i * 3 + 2, none⟩) hbw).trans HE.out.2.2
      have HCx := Lib.hid hC
      simp only [fillA, if_true, Act.put]
      simp
      simp only [hp]
      clear hp hC hcl hu hi hst
      go_wp2
      exact ⟨rfl, γ, HCx.out.quiet (by decide) (by decide) (by decide) (by decide) (by decide), rfl, fun _ _ _ h => h⟩
    · intro γ U wx vals hi hu hcl hC hp
      simp [ClosedL, UpL, predL, predE, Region.binds] at hcl
      simp [predL, predE, Region.binds, UpL] at hu
      simp [predL, predE, Region.binds, PreV, LvA] at hp
      have hst : U 18 = false := by clear hC hp; cases h : U 18 with | false => rfl | true => exfalso; simp_all
      have hqf : U 15 = false := by clear hC hp; cases h : U 15 with | false => rfl | true => exfalso; simp_all
      have HCx := Lib.hid hC
      simp only [fillA, if_true, Act.put]
      simp
      have HM := Lib.hid (hC.mk_x ix18 hqf hst)
      unfold csT at HM
      simp only [hp]
      clear hp hC hcl hu hst hqf
      go_wp2
      exact ⟨rfl, _, HM.out, rfl, fun jj u hj h => LvA.kx (fun e => by rw [e, hi] at hj; cases hj) h⟩
    · intro γ U wx vals hi hu hcl hC hp
      simp [ClosedL, UpL, predL, predE, Region.binds] at hcl
      simp [predL, predE, Region.binds, UpL] at hu
      simp [predL, predE, Region.binds, PreV, LvA] at hp
      have hst : U 18 = false := by clear hC hp; cases h : U 18 with | false => rfl | true => exfalso; simp_all
      have HCx := Lib.hid hC
      simp only [fillA, if_true, Act.put]
      simp
      obtain ⟨A2, c2, w2, hrun, hX⟩ := hC.mk_q ix18 (by simp [hu]) (by simp [hu]) hi hst hmO
      have HM := Lib.hid hX
      simp only [hp]
      clear hp hC hcl hu hst hX
      refine wpList_append_run rfl (.tmp 17) (.tmp 25) 49 rfl rfl rfl hrun ?_
      clear hrun
      go_wp2
      exact ⟨rfl, _, HM.out, rfl, fun jj u hj h => LvA.kq (fun e => by rw [e, hi] at hj; cases hj) h⟩
    · intro γ U wx vals hi hu hcl hC hp
      simp [ClosedL, UpL, predL, predE, Region.binds] at hcl
      simp [predL, predE, Region.binds, UpL] at hu
      simp [predL, predE, Region.binds, PreV, LvA] at hp
      have hst : U 18 = false := by clear hC hp; cases h : U 18 with | false => rfl | true => exfalso; simp_all
      have HCx := Lib.hid hC
      simp only [fillA, if_true, Act.put]
      simp
      simp only [hp]
      clear hp hC hcl hu hi hst
      go_wp2
      exact ⟨rfl, γ, HCx.out.quiet (by decide) (by decide) (by decide) (by decide) (by decide), rfl, fun _ _ _ h => h⟩
    · intro γ U wx vals hi hu hcl hC hp
      simp [ClosedL, UpL, predL, predE, Region.binds] at hcl
      simp [predL, predE, Region.binds, UpL] at hu
      simp [predL, predE, Region.binds, PreV, LvA] at hp
      have hst : U 18 = false := by clear hC hp; cases h : U 18 with | false => rfl | true => exfalso; simp_all
      have HCx := Lib.hid hC
      simp only [fillA, if_true, Act.put]
      simp
      simp only [hp]
      clear hp hC hcl hu hi hst
      go_wp2
      exact ⟨rfl, γ, HCx.out.quiet (by decide) (by decide) (by decide) (by decide) (by decide), rfl, fun _ _ _ h => h⟩
    · intro γ U wx vals hi hu hcl hC hp
      simp [ClosedL, UpL, predL, predE, Region.binds] at hcl
      simp [predL, predE, Region.binds, UpL] at hu
      simp [predL, predE, Region.binds, PreV, LvA] at hp
      have hst : U 18 = false := hi
      have HCx := Lib.hid hC
      simp only [fillA, if_true, Act.put]
      simp
      have HM := Lib.hid (hC.mk_s ix18 (by simp [hu]) hst)
      have hfr := (HBK.out.later (hC.bel hst)).free
      have hrd := (HBK.out.later (hC.bel hst)).read 2
      simp at hrd
      simp only [hp]
      clear hp hC hcl hu hst
      go_wp2
      exact ⟨rfl, γ, HM.out, trivial, fun _ _ _ h => h⟩
  · intro γ wz vals U hC hall hV
    obtain ⟨u, hbu, howu, rfl⟩ := hC.ss (hall 18 (by simp))
    simp only [fillA, if_true, Act.put]
    simp
    have hv18 := hV 15 (by simp)
    clear hV hC hall hv18
    have hsc : (w.drew).heap.size = w.heap.size := rfl
    obtain ⟨vO5, hvO5⟩ : ∃ vO5, Value.slice γ.A2 (O.length + 1) γ.c2 = vO5 := ⟨_, rfl⟩
    have hown : u.ownsRow w.heap.size 52 3 vO5 (O.length + 1) (srs csT (O ++ [⟨t0, t1, t2⟩])) := by rw [← hvO5]; exact howu
    have hcg : Chg (fun k => k = R) w (u.setCell ⟨R, 2, none⟩ vO5) := (Chg.of_below (S := fun k => k = R) hbu).setCell (g := R) rfl 2 _
    have hblk5 := (HBK.out.later hbu).put 2 vO5
    have hL5 := HLL.out.old HT.out HBK.out hcg
    have hown5 : (u.setCell ⟨R, 2, none⟩ vO5).ownsRow w.heap.size 52 3 vO5 (O.length + 1) (srs csT (O ++ [⟨t0, t1, t2⟩])) := owk hown fun k hk => Below.heap_setCell _ _ _ _ (by have := row_own hown k hk; simp only; omega)
    have hO5 : LsV (u.setCell ⟨R, 2, none⟩ vO5) (Tn T w (u.setCell ⟨R, 2, none⟩ vO5)) vO5 (O ++ [⟨t0, t1, t2⟩]) := LsV.fresh hown5 (by simp) (Nat.le_refl _)
    have hT5 : ∀ k, Tn T w (u.setCell ⟨R, 2, none⟩ vO5) k → k < (u.setCell ⟨R, 2, none⟩ vO5).heap.size := fun k hk => hk.1
    obtain ⟨AO, cO, hshape⟩ : ∃ A c, vO5 = .slice A (O.length + 1) c := ⟨_, _, hvO5.symm⟩
    obtain ⟨w5, hw5⟩ : ∃ w5, u.setCell ⟨R, 2, none⟩ vO5 = w5 := ⟨_, rfl⟩
    have HW5 := Lib.hid hw5
    rw [hw5] at hcg hblk5 hL5 hO5 hT5
    have hbT : Tn T w w5 bb := by
      refine ⟨Nat.lt_of_lt_of_le hbw hcg.size, ?_⟩
      obtain ⟨A9, c9, j1, _, _, j4⟩ := HLL.out
      rcases j4 with ⟨j4, _⟩ | ⟨b9, o9, _, j4, j5, _⟩
      · simp at j1; rw [← j1.1] at j4; cases j4
      · simp at j1; rw [← j1.1] at j4; simp at j4; rw [j4.1]; exact .inl j5
    obtain ⟨A9, c9, j1, j2, hM5⟩ := hL5.take (i := i) (by have := HNE.out.1; omega)
    obtain ⟨rfl, rfl⟩ : some (⟨bb, off, none⟩ : Addr) = A9 ∧ c = c9 := by simpa using j1
    have hN5 := hL5.drop (i := i + 1) (by have := HNE.out.1; omega)
    rw [HNE.out.1] at hN5
    have HRS5 := HRS.out
    obtain ⟨M, hM⟩ : ∃ M, L.take i = M := ⟨_, rfl⟩
    obtain ⟨N, hN⟩ : ∃ N, L.drop (i + 1) = N := ⟨_, rfl⟩
    obtain ⟨vD, hvD⟩ : ∃ vD, dropV (.slice (some ⟨bb, off, none⟩) n c) (i + 1) = vD := ⟨_, rfl⟩
    rw [hM] at hM5 HRS5
    rw [hN] at hN5 HRS5
    rw [hvD] at hN5
    have hmM : M.length ≤ 100000 := by rw [← hM, List.length_take]; have := HNE.out.2; omega
    have hmN : N.length ≤ 100000 := by rw [← hN, List.length_drop]; have := HNE.out.2; omega
    have hRlt5 := hblk5.size_lt
    have hic : (i : Int) ≤ c := by omega
    have hi32 : i < 32 := by have := HNE.out; omega
    have HBK0 := Lib.hid HBK.out
    have HT0 := Lib.hid HT.out
    have HCG := Lib.hid hcg
    clear HBK HT HLL HLO HE HRS HI
    have HBK := Lib.hid hblk5
    have HT := Lib.hid hT5
    have HLM := Lib.hid hM5
    have HLN := Lib.hid hN5
    have HO5 := Lib.hid hO5
    have HVD := Lib.hid hvD
    have HRS := Lib.hid HRS5
    have HSH := Lib.hid hshape
    have HVO := Lib.hid hvO5
    have hbw5 := hbT.1
    clear hblk5 hT5 hM5 hN5 hO5 hvD HRS5 hM hN j1 j2 hL5 hown5 hown hcg howu hbu hw5 hbT hsc hshape
    go_wp2_with fail
    rw [hvO5]
    have hw5 := HW5.out
    rw [hw5]
    clear hvO5 hw5
    refine wp_region_looseG 60 (by kernel_rfl) (by kernel_rfl) (LvC w5 R 1 M N ⟨0, 0, 0⟩ 1 8 99 16 19) (LvB R bb off n c i M.length N.length vD) ⟨0, none, 0, 0, none, 0⟩ rfl (LvC.start (Below.refl _ _).drew _) ?_ ?_
    · simp only [OblAllG]
      refine ⟨?_, ?_, ?_, ?_, ?_, ?_, ?_, ?_, ?_, ?_, ?_, ?_, ?_, ?_, ?_, ?_, ?_, ?_, ?_, ?_, trivial⟩
      · intro γ U wx vals hi hu hcl hC hp
        simp [ClosedL, UpL, predL, predE, Region.binds] at hcl
        have hst : U 19 = false := by clear hC hp; cases h : U 19 with | false => rfl | true => exfalso; simp_all
        have HCx := Lib.hid hC
        simp only [fillA, if_true, Act.put]
        simp
        clear hp hC hcl hu hi hst
        go_wp2
        exact ⟨rfl, γ, HCx.out.quiet (by decide) (by decide) (by decide) (by decide) (by decide), rfl, fun _ _ _ h => h⟩
      · intro γ U wx vals hi hu hcl hC hp
        simp [ClosedL, UpL, predL, predE, Region.binds] at hcl
        have hst : U 19 = false := by clear hC hp; cases h : U 19 with | false => rfl | true => exfalso; simp_all
        have hpf : U 8 = false := by clear hC hp; cases h : U 8 with | false => rfl | true => exfalso; simp_all
        have hqf : U 16 = false := by clear hC hp; cases h : U 16 with | false => rfl | true => exfalso; simp_all
        have HCx := Lib.hid hC
        simp only [fillA, if_true, Act.put]
        simp
        have HM := Lib.hid (hC.mk_e ix19 hpf hqf hst)
        clear hp hC hcl hu hst hpf hqf
        go_wp2
        exact ⟨rfl, _, HM.out, rfl, fun jj u hj h => LvB.kg (fun e => by rw [e, hi] at hj; cases hj) h⟩
      · intro γ U wx vals hi hu hcl hC hp
        simp [ClosedL, UpL, predL, predE, Region.binds] at hcl
        have hst : U 19 = false := by clear hC hp; cases h : U 19 with | false => rfl | true => exfalso; simp_all
        have HCx := Lib.hid hC
        simp only [fillA, if_true, Act.put]
        simp
        clear hp hC hcl hu hi hst
        go_wp2
        exact ⟨rfl, γ, HCx.out.quiet (by decide) (by decide) (by decide) (by decide) (by decide), rfl, fun _ _ _ h => h⟩
      · intro γ U wx vals hi hu hcl hC hp
        simp [ClosedL, UpL, predL, predE, Region.binds] at hcl
        simp [predL, predE, Region.binds, UpL] at hu
        simp [predL, predE, Region.binds, PreV, LvB] at hp
        have hst : U 19 = false := by clear hC hp; cases h : U 19 with | false => rfl | true => exfalso; simp_all
        have HCx := Lib.hid hC
        simp only [fillA, if_true, Act.put]
        simp
        simp only [hp]
        clear hp hC hcl hu hi hst
        go_wp2
        exact ⟨rfl, γ, HCx.out.quiet (by decide) (by decide) (by decide) (by decide) (by decide), rfl, fun _ _ _ h => h⟩
      · intro γ U wx vals hi hu hcl hC hp
        simp [ClosedL, UpL, predL, predE, Region.binds] at hcl
        simp [predL, predE, Region.binds, UpL] at hu
        simp [predL, predE, Region.binds, PreV, LvB] at hp
        have hst : U 19 = false := by clear hC hp; cases h : U 19 with | false => rfl | true => exfalso; simp_all
        have HCx := Lib.hid hC
        simp only [fillA, if_true, Act.put]
        simp
        simp only [hp]
        clear hp hC hcl hu hi hst
        go_wp2
        exact ⟨rfl, γ, HCx.out.quiet (by decide) (by decide) (by decide) (by decide) (by decide), rfl, fun _ _ _ h => h⟩
      · intro γ U wx vals hi hu hcl hC hp
        simp [ClosedL, UpL, predL, predE, Region.binds] at hcl
        simp [predL, predE, Region.binds, UpL] at hu
        simp [predL, predE, Region.binds, PreV, LvB] at hp
        have hst : U 19 = false := by clear hC hp; cases h : U 19 with | false => rfl | true => exfalso; simp_all
        have k1 := ((HBK.out.later (hC.bel hst)).read 1)
        simp at k1
        have HCx := Lib.hid hC
        simp only [fillA, if_true, Act.put]
        simp
        simp only [hp]
        clear hp hC hcl hu hi hst
        go_wp2
        exact ⟨rfl, γ, HCx.out.quiet (by decide) (by decide) (by decide) (by decide) (by decide), rfl, fun _ _ _ h => h⟩
      · intro γ U wx vals hi hu hcl hC hp
        simp [ClosedL, UpL, predL, predE, Region.binds] at hcl
        have hst : U 19 = false := by clear hC hp; cases h : U 19 with | false => rfl | true => exfalso; simp_all
        have HCx := Lib.hid hC
        simp only [fillA, if_true, Act.put]
        simp
        clear hp hC hcl hu hi hst
        go_wp2
        exact ⟨rfl, γ, HCx.out.quiet (by decide) (by decide) (by decide) (by decide) (by decide), rfl, fun _ _ _ h => h⟩
      · intro γ U wx vals hi hu hcl hC hp
        simp [ClosedL, UpL, predL, predE, Region.binds] at hcl
        simp [predL, predE, Region.binds, UpL] at hu
        simp [predL, predE, Region.binds, PreV, LvB] at hp
        have hst : U 19 = false := by clear hC hp; cases h : U 19 with | false => rfl | true => exfalso; simp_all
        have HCx := Lib.hid hC
        simp only [fillA, if_true, Act.put]
        simp
        simp only [hp]
        clear hp hC hcl hu hi hst
        go_wp2
        exact ⟨rfl, γ, HCx.out.quiet (by decide) (by decide) (by decide) (by decide) (by decide), rfl, fun _ _ _ h => h⟩
      · intro γ U wx vals hi hu hcl hC hp
        simp [ClosedL, UpL, predL, predE, Region.binds] at hcl
        simp [predL, predE, Region.binds, UpL] at hu
        simp [predL, predE, Region.binds, PreV, LvB] at hp
        have hst : U 19 = false := by clear hC hp; cases h : U 19 with | false => rfl | true => exfalso; simp_all
        have hqf : U 16 = false := by clear hC hp; cases h : U 16 with | false => rfl | true => exfalso; simp_all
        have HCx := Lib.hid hC
        simp only [fillA, if_true, Act.put]
        simp
        obtain ⟨A1, c1, w2, hrun, hX⟩ := hC.mk_p ix19 (by simp [hu]) hi hqf hst HLM.out HT.out hmM
        have HM := Lib.hid hX
        simp only [hp]
        clear hp hC hcl hu hst hqf hX
        refine wpList_append_run rfl (.tmp 30) (.tmp 36) 49 rfl rfl rfl hrun ?_
        clear hrun
        go_wp2
        exact ⟨rfl, _, HM.out, rfl, fun jj u hj h => LvB.kp (fun e => by rw [e, hi] at hj; cases hj) h⟩
      · intro γ U wx vals hi hu hcl hC hp
        simp [ClosedL, UpL, predL, predE, Region.binds] at hcl
        have hst : U 19 = false := by clear hC hp; cases h : U 19 with | false => rfl | true => exfalso; simp_all
        have HCx := Lib.hid hC
        simp only [fillA, if_true, Act.put]
        simp
        clear hp hC hcl hu hi hst
        go_wp2
        exact ⟨rfl, γ, HCx.out.quiet (by decide) (by decide) (by decide) (by decide) (by decide), rfl, fun _ _ _ h => h⟩
      · intro γ U wx vals hi hu hcl hC hp
        simp [ClosedL, UpL, predL, predE, Region.binds] at hcl
        simp [predL, predE, Region.binds, UpL] at hu
        simp [predL, predE, Region.binds, PreV, LvB] at hp
        have hst : U 19 = false := by clear hC hp; cases h : U 19 with | false => rfl | true => exfalso; simp_all
        have HCx := Lib.hid hC
        simp only [fillA, if_true, Act.put]
        simp
        simp only [hp]
        clear hp hC hcl hu hi hst
        go_wp2
        exact ⟨rfl, γ, HCx.out.quiet (by decide) (by decide) (by decide) (by decide) (by decide), rfl, fun _ _ _ h => h⟩
      · intro γ U wx vals hi hu hcl hC hp
        simp [ClosedL, UpL, predL, predE, Region.binds] at hcl
        simp [predL, predE, Region.binds, UpL] at hu
        simp [predL, predE, Region.binds, PreV, LvB] at hp
        have hst : U 19 = false := by clear hC hp; cases h : U 19 with | false => rfl | true => exfalso; simp_all
        have HCx := Lib.hid hC
        simp only [fillA, if_true, Act.put]
        simp
        simp only [hp]
        clear hp hC hcl hu hi hst
        go_wp2
        exact ⟨rfl, γ, HCx.out.quiet (by decide) (by decide) (by decide) (by decide) (by decide), rfl, fun _ _ _ h => h⟩
      · intro γ U wx vals hi hu hcl hC hp
        simp [ClosedL, UpL, predL, predE, Region.binds] at hcl
        simp [predL, predE, Region.binds, UpL] at hu
        simp [predL, predE, Region.binds, PreV, LvB] at hp
        have hst : U 19 = false := by clear hC hp; cases h : U 19 with | false => rfl | true => exfalso; simp_all
        have k1 := ((HBK.out.later (hC.bel hst)).read 1)
        simp at k1
        have HCx := Lib.hid hC
        simp only [fillA, if_true, Act.put]
        simp
        simp only [hp]
        clear hp hC hcl hu hi hst
        go_wp2
        exact ⟨rfl, γ, HCx.out.quiet (by decide) (by decide) (by decide) (by decide) (by decide), rfl, fun _ _ _ h => h⟩
      · intro γ U wx vals hi hu hcl hC hp
        simp [ClosedL, UpL, predL, predE, Region.binds] at hcl
        have hst : U 19 = false := by clear hC hp; cases h : U 19 with | false => rfl | true => exfalso; simp_all
        have HCx := Lib.hid hC
        simp only [fillA, if_true, Act.put]
        simp
        clear hp hC hcl hu hi hst
        go_wp2
        exact ⟨rfl, γ, HCx.out.quiet (by decide) (by decide) (by decide) (by decide) (by decide), rfl, fun _ _ _ h => h⟩
      · intro γ U wx vals hi hu hcl hC hp
        simp [ClosedL, UpL, predL, predE, Region.binds] at hcl
        simp [predL, predE, Region.binds, UpL] at hu
        simp [predL, predE, Region.binds, PreV, LvB] at hp
        have hst : U 19 = false := by clear hC hp; cases h : U 19 with | false => rfl | true => exfalso; simp_all
        have HCx := Lib.hid hC
        simp only [fillA, if_true, Act.put]
        simp
        simp only [hp]
        clear hp hC hcl hu hi hst
        go_wp2
        exact ⟨rfl, γ, HCx.out.quiet (by decide) (by decide) (by decide) (by decide) (by decide), rfl, fun _ _ _ h => h⟩
      · intro γ U wx vals hi hu hcl hC hp
        simp [ClosedL, UpL, predL, predE, Region.binds] at hcl
        simp [predL, predE, Region.binds, UpL] at hu
        simp [predL, predE, Region.binds, PreV, LvB] at hp
        have hst : U 19 = false := by clear hC hp; cases h : U 19 with | false => rfl | true => exfalso; simp_all
        have HCx := Lib.hid hC
        simp only [fillA, if_true, Act.put]
        simp
        simp only [hp]
        clear hp hC hcl hu hi hst
        by_cases hce : i + 1 = c
        · have hvd : vD = .slice (some ⟨bb, off, none⟩) 0 0 := by rw [← HVD.out]; unfold dropV; simp only [if_pos hce]
          have hn1 : n = i + 1 := by omega
          subst hn1
          have hci : ((i + 1 : Nat) : Int) = (i : Int) + 1 := by omega
          subst hce
          go_wp2
          exact ⟨rfl, γ, HCx.out.quiet (by decide) (by decide) (by decide) (by decide) (by decide), hvd.symm, fun _ _ _ h => h⟩
        · have hvd : vD = .slice (some ⟨bb, off + (i + 1) * 3, none⟩) (n - (i + 1)) (c - (i + 1)) := by rw [← HVD.out]; unfold dropV; simp only [if_neg hce, Addr.add_lit]
          have hlt9 : (i : Int) + 1 < c := by omega
          have hle9 : (i : Int) + 1 ≤ n := by omega
          go_wp2
          exact ⟨rfl, γ, HCx.out.quiet (by decide) (by decide) (by decide) (by decide) (by decide), hvd.symm, fun _ _ _ h => h⟩
      · intro γ U wx vals hi hu hcl hC hp
        simp [ClosedL, UpL, predL, predE, Region.binds] at hcl
        simp [predL, predE, Region.binds, UpL] at hu
        simp [predL, predE, Region.binds, PreV, LvB] at hp
        have hst : U 19 = false := by clear hC hp; cases h : U 19 with | false => rfl | true => exfalso; simp_all
        have HCx := Lib.hid hC
        simp only [fillA, if_true, Act.put]
        simp
        obtain ⟨A2, c2, w2, hrun, hX⟩ := hC.mk_ql ix19 (by simp [hu]) hi hst HLN.out HT.out hmM hmN
        have HM := Lib.hid hX
        simp only [hp]
        clear hp hC hcl hu hst hX
        refine wpList_append_run rfl (.tmp 37) (.tmp 44) 49 rfl rfl rfl hrun ?_
        clear hrun
        go_wp2
        exact ⟨rfl, _, HM.out, rfl, fun jj u hj h => LvB.kq (fun e => by rw [e, hi] at hj; cases hj) h⟩
      · intro γ U wx vals hi hu hcl hC hp
        simp [ClosedL, UpL, predL, predE, Region.binds] at hcl
        simp [predL, predE, Region.binds, UpL] at hu
        simp [predL, predE, Region.binds, PreV, LvB] at hp
        have hst : U 19 = false := by clear hC hp; cases h : U 19 with | false => rfl | true => exfalso; simp_all
        have HCx := Lib.hid hC
        simp only [fillA, if_true, Act.put]
        simp
        simp only [hp]
        clear hp hC hcl hu hi hst
        go_wp2
        exact ⟨rfl, γ, HCx.out.quiet (by decide) (by decide) (by decide) (by decide) (by decide), rfl, fun _ _ _ h => h⟩
      · intro γ U wx vals hi hu hcl hC hp
        simp [ClosedL, UpL, predL, predE, Region.binds] at hcl
        simp [predL, predE, Region.binds, UpL] at hu
        simp [predL, predE, Region.binds, PreV, LvB] at hp
        have hst : U 19 = false := by clear hC hp; cases h : U 19 with | false => rfl | true => exfalso; simp_all
        have HCx := Lib.hid hC
        simp only [fillA, if_true, Act.put]
        simp
        simp only [hp]
        clear hp hC hcl hu hi hst
        go_wp2
        exact ⟨rfl, γ, HCx.out.quiet (by decide) (by decide) (by decide) (by decide) (by decide), rfl, fun _ _ _ h => h⟩
      · intro γ U wx vals hi hu hcl hC hp
        simp [ClosedL, UpL, predL, predE, Region.binds] at hcl
        simp [predL, predE, Region.binds, UpL] at hu
        simp [predL, predE, Region.binds, PreV, LvB] at hp
        have hst : U 19 = false := hi
        have HCx := Lib.hid hC
        simp only [fillA, if_true, Act.put]
        simp
        have HM := Lib.hid (hC.mk_s ix19 (by simp [hu]) hst)
        have hfr := (HBK.out.later (hC.bel hst)).free
        have hrd := (HBK.out.later (hC.bel hst)).read 1
        simp at hrd
        simp only [hp]
        clear hp hC hcl hu hst
        go_wp2
        exact ⟨rfl, γ, HM.out, trivial, fun _ _ _ h => h⟩
    · intro γ wz vals U hC hall hV
      obtain ⟨u2, hbu, howu, rfl⟩ := hC.ss (hall 19 (by simp))
      simp only [fillA, if_true, Act.put]
      simp
      clear hV hC hall
      obtain ⟨v6, hv6⟩ : ∃ v6, Value.slice γ.A2 (M.length + N.length) γ.c2 = v6 := ⟨_, rfl⟩
      rw [hv6] at howu
      have hcg6 : Chg (fun k => k = R) w5 (u2.setCell ⟨R, 1, none⟩ v6) := (Chg.of_below (S := fun k => k = R) hbu).setCell (g := R) rfl 1 _
      have hblk6 := (HBK.out.later hbu).put 1 v6
      have hz5 := HCG.out.size
      have hown6 : (u2.setCell ⟨R, 1, none⟩ v6).ownsRow w5.heap.size 52 3 v6 (M.length + N.length) (srs csT (M ++ N)) := owk howu fun k hk => Below.heap_setCell _ _ _ _ (by have := row_own howu k hk; simp only; omega)
      have hcgA := HCG.out.trans hcg6
      have hsz6 : w5.heap.size ≤ (u2.setCell ⟨R, 1, none⟩ v6).heap.size := hcg6.size
      have hL6 : LsV (u2.setCell ⟨R, 1, none⟩ v6) (Tn T w (u2.setCell ⟨R, 1, none⟩ v6)) v6 (M ++ N) := LsV.fresh hown6 (by simp) hz5
      have hO6 : LsV (u2.setCell ⟨R, 1, none⟩ v6) (Tn T w (u2.setCell ⟨R, 1, none⟩ v6)) vO5 (O ++ [⟨t0, t1, t2⟩]) := (HO5.out.old HT.out HBK.out hcg6).wider fun b hb => ⟨hb.1, by rcases hb.2 with h9 | h9; exact h9.2; exact .inr (by omega)⟩
      have hlen : ∃ A9 c9, v6 = .slice A9 (M.length + N.length) c9 := ⟨_, _, hv6.symm⟩
      obtain ⟨w6, hw6⟩ : ∃ w6, u2.setCell ⟨R, 1, none⟩ v6 = w6 := ⟨_, rfl⟩
      have HV6 := Lib.hid (And.intro hv6 hw6)
      rw [hw6] at hcgA hL6 hO6
      simp [hw6] at hblk6
      rw [hv6, hw6]
      by_cases h0 : M.length + N.length = 0
      · have hrs := HRS.out.1
        rw [if_pos (by rw [List.length_append]; exact h0)] at hrs
        have hcg7 : Chg (fun k => k = R) w ((w6.setCell ⟨R, 2, none⟩ (.slice none 0 0)).setCell ⟨R, 3, none⟩ (.int .i64 0)) := (hcgA.setCell (g := R) rfl 2 _).setCell (g := R) rfl 3 _
        have hb7 := (hblk6.put 2 (.slice none 0 0)).put 3 (.int .i64 0)
        have hL7 := (hL6.put hblk6 ref_ne_tag 2 (.slice none 0 0)).put (hblk6.put 2 (.slice none 0 0)) ref_ne_tag 3 (.int .i64 0)
        have HF := Lib.hid (show RsAns T R t (.int .i64 0) w (.returned (.int .i64 0)) ((w6.setCell ⟨R, 2, none⟩ (.slice none 0 0)).setCell ⟨R, 3, none⟩ (.int .i64 0)) from
          RsAns.mk (r := ⟨r.at_, M ++ N, [], 0, r.away⟩) (T := T) rfl ⟨hb7, hL7.wider (fun b hb => ⟨by simp; exact hb.1, hb.2⟩), LsV.nil _ _⟩ HTR.out hrs HRS.out.2 hcg7)
        have y1 := hblk6.read 1
        simp at y1
        have y2 := hblk6.read 2
        simp at y2
        have y3 := hblk6.read 3
        simp at y3
        have yf := hblk6.free
        have HR6 := Lib.hid hblk6
        obtain ⟨A9, c9, rfl⟩ := hlen
        rw [h0] at y1
        clear hrs hcg7 hb7 hL7 hv6 howu hcg6 hown6 hL6 hO6 hw6 hcgA hbu h0 hblk6 hz5 hsz6
        go_wp2
        go_ret
        exact HF.out
      · have hrs := HRS.out.1
        rw [if_neg (by rw [List.length_append]; exact h0)] at hrs
        have HF := Lib.hid (show RsAns T R t (.int .i64 0) w (.returned (.int .i64 0)) w6 from
          RsAns.mk (r := ⟨r.at_, M ++ N, O ++ [⟨t0, t1, t2⟩], r.now, r.away⟩) (T := T) rfl ⟨hblk6, hL6, hO6⟩ HTR.out hrs HRS.out.2 hcgA)
        have y1 := hblk6.read 1
        simp at y1
        obtain ⟨A9, c9, rfl⟩ := hlen
        obtain ⟨K, hK⟩ : ∃ K, M.length + N.length = K := ⟨_, rfl⟩
        rw [hK] at y1 h0
        have hb0 : ((K : Int) == 0) = false := by simpa using h0
        clear hrs hv6 howu hcg6 hown6 hL6 hO6 hw6 hcgA hbu hblk6 hz5 hsz6 hK
        go_wp2
        go_ret
        exact HF.out
end Go.Proofs.Ytkfhjpgapmfiaaa

