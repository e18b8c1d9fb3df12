/-
  Layer 16: contract of the reference's Drop. Written by gen_snref4.py.
-/
import Derived.Test.YtglhaclehdkagaaSnRef2
namespace Go.Proofs.Ytglhaclehdkagaa
open Go.ChangeShapes Go.WideShapes Go.ChangeAt Go.RowKit
set_option linter.unusedVariables false

def SnDv (R bb off n c i m k : Nat) (vD : Value) (γ : Gd) (i_ : Nat) (v : Value) (_ : World) : Prop :=
  match i_ with
  | 0 => v = .pointer (some ⟨R, 0, none⟩)
  | 1 => v = .slice (some ⟨γ.g, 0, none⟩) 0 0
  | 2 => v = .pointer (some ⟨R, 0, none⟩)
  | 3 => v = .pointer (some ⟨R, 0, none⟩)
  | 4 => v = .pointer (some ⟨R, 3, none⟩)
  | 5 => v = .slice (some ⟨bb, off, none⟩) n c
  | 6 => v = .int .i64 (i : Nat)
  | 7 => v = .slice (some ⟨bb, off, none⟩) i c
  | 8 => v = .slice γ.A1 m γ.c1
  | 9 => v = .pointer (some ⟨R, 0, none⟩)
  | 10 => v = .pointer (some ⟨R, 0, none⟩)
  | 11 => v = .pointer (some ⟨R, 3, none⟩)
  | 12 => v = .slice (some ⟨bb, off, none⟩) n c
  | 13 => v = .int .i64 (i : Nat)
  | 14 => v = .int .i64 ((i : Nat) + 1)
  | 15 => v = vD
  | 16 => v = .slice γ.A2 (m + k) γ.c2
  | 17 => v = .pointer (some ⟨R, 0, none⟩)
  | 18 => v = .pointer (some ⟨R, 3, none⟩)
  | _ => True
theorem SnDv.kg {R bb off n c i m k : Nat} {vD : Value} {γ : Gd} {z : Nat} {i_ : Nat} {v : Value} {w w' : World} (hi : i_ ≠ 1) (h : SnDv R bb off n c i m k vD γ i_ v w) : SnDv R bb off n c i m k vD { γ with g := z } i_ v w' := by
  unfold SnDv at h ⊢
  split at h <;> first | exact h | exact absurd rfl hi | trivial
theorem SnDv.kp {R bb off n c i m k : Nat} {vD : Value} {γ : Gd} {z : Option Addr} {z2 : Nat} {i_ : Nat} {v : Value} {w w' : World} (hi : i_ ≠ 8) (h : SnDv R bb off n c i m k vD γ i_ v w) : SnDv R bb off n c i m k vD { γ with A1 := z, c1 := z2 } i_ v w' := by
  unfold SnDv at h ⊢
  split at h <;> first | exact h | exact absurd rfl hi | trivial
theorem SnDv.kq {R bb off n c i m k : Nat} {vD : Value} {γ : Gd} {z : Option Addr} {z2 : Nat} {i_ : Nat} {v : Value} {w w' : World} (hi : i_ ≠ 16) (h : SnDv R bb off n c i m k vD γ i_ v w) : SnDv R bb off n c i m k vD { γ with A2 := z, c2 := z2 } i_ v w' := by
  unfold SnDv at h ⊢
  split at h <;> first | exact h | exact absurd rfl hi | trivial
theorem SnDv.ix : Ix4 1 8 16 19 := ⟨by decide, by decide, by decide, by decide, by decide, by decide⟩

theorem drp_end {S : Nat} {s : SnS} {q : Int} {T : Nat → Prop} {w u : World} {A2 : Option Addr} {n2 c2 : Nat} {vL : Value} (hok : SnOk s) (h1 : ∀ k, T k → k < w.heap.size) (h2 : T S) (hS : Whole w S 42 (snC s vL)) (hk : snK s.l q < s.l.length)
    (hr : u.ownsRow w.heap.size 38 3 (.slice A2 n2 c2) n2 (srs csN (s.l.take (snK s.l q) ++ s.l.drop (snK s.l q + 1)))) (hl : n2 = (s.l.take (snK s.l q) ++ s.l.drop (snK s.l q + 1)).length) (hb : Below w.heap.size w u) :
    (∃ T', RsP S (s.drp q) T' (u.setCell ⟨S, 3, none⟩ (.slice A2 n2 c2)) ∧ ∀ j, T' j → T j ∨ w.heap.size ≤ j) ∧ Chg T w (u.setCell ⟨S, 3, none⟩ (.slice A2 n2 c2)) := by
  have hSw := h1 S h2
  have eA : s.drp q = { s with l := s.l.take (snK s.l q) ++ s.l.drop (snK s.l q + 1) } := by unfold SnS.drp snCut; rw [if_pos hk]
  have hokA := hok.drp q
  rw [eA] at hokA ⊢
  have hS2 := hS.carry (hb.block S hSw)
  have hsz : (u.setCell ⟨S, 3, none⟩ (.slice A2 n2 c2)).heap.size = u.heap.size := by simp [World.setCell]
  have ls := snElt.row_ls hr hl
  refine ⟨⟨fun k => k = S ∨ (w.heap.size ≤ k ∧ k < u.heap.size), ⟨hokA, fun k hk => ?_, .inl rfl, .slice A2 n2 c2, hS2.put 3 (.slice A2 n2 c2), (ls.keep fun k hk => Below.heap_setCell _ _ _ _ (by show k ≠ S; omega)).wider fun k hk => .inr hk⟩, fun k hk => ?_⟩, (Chg.of_below hb).setCell h2 3 _⟩
  · rw [hsz]
    rcases hk with rfl | hk
    · exact hS2.size_lt
    · exact hk.2
  · rcases hk with rfl | hk
    · exact .inl h2
    · exact .inr hk.1
set_option maxRecDepth 100000 in
set_option maxHeartbeats 16000000 in
theorem rsdrp_any {S : Nat} {s : SnS} (hn : s.l.length ≤ 99999) {base : Nat} (q : Int) : Acts 29 #[.pointer (some ⟨S, 0, none⟩), .int .i64 q] base (RsP S s) (fun _ : Unit => .tuple #[.int .i64 (snDrV s q), .int .i64 (snDrE s q)]) fun _ => RsP S (s.drp q) := by
  intro T w hP hb hs
  have HAT := Lib.hid (rsat_any (by omega) hP q)
  by_cases hk : snK s.l q < s.l.length
  rotate_left 1
  · have hE : snDrE s q = 6 := by unfold snDrE; rw [if_neg hk]
    have hV : snDrV s q = 0 := by unfold snDrV snId; rw [dif_neg hk]
    have hA : s.drp q = s := by unfold SnS.drp; rw [if_neg hk]
    have hat : snAt s.l q = -1 := by unfold snAt; rw [if_neg hk]
    rw [hE, hV, hA]
    rw [hat] at HAT
    have HF := Lib.hid (show (∃ T', RsP S s T' w ∧ ∀ j, T' j → T j ∨ w.heap.size ≤ j) ∧ Chg T w w from ⟨⟨T, hP, fun k hk => .inl hk⟩, Chg.refl _ _⟩)
    clear hP hb hs hE hV hA hk hat
    go_enter Try.func29, Try.ntmps29
    go_wp2_with fail
    (with_reducible refine HAT.out.mono ?_); rintro e w1 ⟨rfl, rfl⟩
    go_wp2
    go_ret2
    first | exact ⟨rfl, HF.out⟩ | exact ⟨(), rfl, HF.out⟩
  have hat : snAt s.l q = (snK s.l q : Nat) := by unfold snAt; rw [if_pos hk]
  rw [hat] at HAT
  have hE : snDrE s q = 0 := by unfold snDrE; rw [if_pos hk]
  have hV : snDrV s q = s.l[snK s.l q].i := by unfold snDrV snId; rw [dif_pos hk]
  rw [hE, hV]
  obtain ⟨h0, h1, h2, vL, h3, h4⟩ := hP
  have d3 := h3.read 3
  simp [snC] at d3
  obtain ⟨bb, off, c, rfl, hlc, hTb, hbw, q0, q1, q2⟩ := h4.sn hk
  obtain ⟨A9, c9, e9, hic9, hM⟩ := h4.take (i := snK s.l q) (by omega)
  obtain ⟨rfl, rfl⟩ : some (⟨bb, off, none⟩ : Addr) = A9 ∧ c = c9 := by simpa using e9
  have hN := h4.drop (i := snK s.l q + 1) (by omega)
  have HEND := Lib.hid (fun (u : World) (A2 : Option Addr) (n2 c2 : Nat) hr hl hbw => drp_end (u := u) (A2 := A2) (n2 := n2) (c2 := c2) h0 h1 h2 h3 hk hr hl hbw)
  have hfew : s.l.length ≤ 99999 := hn
  have hmM : (s.l.take (snK s.l q)).length ≤ 100000 := by rw [List.length_take]; omega
  have hmN : (s.l.drop (snK s.l q + 1)).length ≤ 100000 := by rw [List.length_drop]; omega
  have HBK := Lib.hid h3
  have HT := Lib.hid h1
  unfold snC at HBK
  clear h0 h1 h2 h3 h4 hat hE hV e9 hb hs hTb q0 q2
  generalize s.l[snK s.l q] = x at *
  obtain ⟨xq, xi, xt⟩ := x
  simp only at q1 ⊢
  obtain ⟨M, hMe⟩ : ∃ M, s.l.take (snK s.l q) = M := ⟨_, rfl⟩
  obtain ⟨N, hNe⟩ : ∃ N, s.l.drop (snK s.l q + 1) = N := ⟨_, rfl⟩
  rw [hMe] at hM HEND hmM
  rw [hNe] at hN HEND hmN
  clear hMe hNe
  obtain ⟨i, hi_⟩ : ∃ i, snK s.l q = i := ⟨_, rfl⟩
  rw [hi_] at HAT hk hM hN q1 hic9
  clear hi_
  obtain ⟨n, hn_⟩ : ∃ n, s.l.length = n := ⟨_, rfl⟩
  rw [hn_] at hk hN hlc d3 HBK hfew hn
  clear hn_
  obtain ⟨vD, hvD⟩ : ∃ vD, dropG 3 (.slice (some ⟨bb, off, none⟩) n c) (i + 1) = vD := ⟨_, rfl⟩
  rw [hvD] at hN
  have HVD := Lib.hid hvD
  have HLM := Lib.hid hM
  have HLN := Lib.hid hN
  clear hvD hM hN
  have hin' : (i : Int) < n := by omega
  have hi0 : (0 : Int) ≤ i := by omega
  have hic : (i : Int) ≤ c := by omega
  have hwi : IntKind.i64.wrap ((i : Int) + 1) = (i : Int) + 1 := IntWalk.i64_in _ (by omega)
  go_enter Try.func29, Try.ntmps29
  go_wp2_with fail
  (with_reducible refine HAT.out.mono ?_); rintro e w1 ⟨rfl, rfl⟩
  go_wp2_with fail
  refine wp_region_looseG 41 (by kernel_rfl) (by kernel_rfl) (DvC csN 3 38 w S 3 M N 1 8 16 19) (SnDv S bb off n c i M.length N.length vD) ⟨0, none, 0, none, 0⟩ rfl (DvC.start (Below.refl _ _).drew _) ?_ ?_
  · simp only [OblAllG]
    refine ⟨?_, ?_, ?_, ?_, ?_, ?_, ?_, ?_, ?_, ?_, ?_, ?_, ?_, ?_, ?_, ?_, ?_, ?_, ?_, ?_, trivial⟩
    · intro γ U wx vals hi hu hcl hC hp
      simp [ClosedL, UpL, predL, predE, Region.binds] at hcl
      have hst : U 19 = false := by clear hC hp; cases h : U 19 with | false => rfl | true => exfalso; simp_all
      have HCx := Lib.hid hC
      simp only [fillA, if_true, Act.put]
      simp
      clear hp hC hcl hu hi hst
      go_wp2
      exact ⟨rfl, γ, HCx.out.quiet (by decide) (by decide) (by decide) (by decide), rfl, fun _ _ _ h => h⟩
    · intro γ U wx vals hi hu hcl hC hp
      simp [ClosedL, UpL, predL, predE, Region.binds] at hcl
      have hst : U 19 = false := by clear hC hp; cases h : U 19 with | false => rfl | true => exfalso; simp_all
      have hpf : U 8 = false := by clear hC hp; cases h : U 8 with | false => rfl | true => exfalso; simp_all
      have hqf : U 16 = false := by clear hC hp; cases h : U 16 with | false => rfl | true => exfalso; simp_all
      have HCx := Lib.hid hC
      simp only [fillA, if_true, Act.put]
      simp
      have HM := Lib.hid (hC.mk_e snElt SnDv.ix hpf hqf hst)
      clear hp hC hcl hu hst hpf hqf
      go_wp2
      exact ⟨rfl, _, HM.out, rfl, fun jj u hj h => SnDv.kg (fun e => by rw [e, hi] at hj; cases hj) h⟩
    · intro γ U wx vals hi hu hcl hC hp
      simp [ClosedL, UpL, predL, predE, Region.binds] at hcl
      have hst : U 19 = false := by clear hC hp; cases h : U 19 with | false => rfl | true => exfalso; simp_all
      have HCx := Lib.hid hC
      simp only [fillA, if_true, Act.put]
      simp
      clear hp hC hcl hu hi hst
      go_wp2
      exact ⟨rfl, γ, HCx.out.quiet (by decide) (by decide) (by decide) (by decide), rfl, fun _ _ _ h => h⟩
    · intro γ U wx vals hi hu hcl hC hp
      simp [ClosedL, UpL, predL, predE, Region.binds] at hcl
      simp [predL, predE, Region.binds, UpL] at hu
      simp [predL, predE, Region.binds, PreV, SnDv] at hp
      have hst : U 19 = false := by clear hC hp; cases h : U 19 with | false => rfl | true => exfalso; simp_all
      have HCx := Lib.hid hC
      simp only [fillA, if_true, Act.put]
      simp
      simp only [hp]
      clear hp hC hcl hu hi hst
      go_wp2
      exact ⟨rfl, γ, HCx.out.quiet (by decide) (by decide) (by decide) (by decide), rfl, fun _ _ _ h => h⟩
    · intro γ U wx vals hi hu hcl hC hp
      simp [ClosedL, UpL, predL, predE, Region.binds] at hcl
      simp [predL, predE, Region.binds, UpL] at hu
      simp [predL, predE, Region.binds, PreV, SnDv] at hp
      have hst : U 19 = false := by clear hC hp; cases h : U 19 with | false => rfl | true => exfalso; simp_all
      have HCx := Lib.hid hC
      simp only [fillA, if_true, Act.put]
      simp
      simp only [hp]
      clear hp hC hcl hu hi hst
      go_wp2
      exact ⟨rfl, γ, HCx.out.quiet (by decide) (by decide) (by decide) (by decide), rfl, fun _ _ _ h => h⟩
    · intro γ U wx vals hi hu hcl hC hp
      simp [ClosedL, UpL, predL, predE, Region.binds] at hcl
      simp [predL, predE, Region.binds, UpL] at hu
      simp [predL, predE, Region.binds, PreV, SnDv] at hp
      have hst : U 19 = false := by clear hC hp; cases h : U 19 with | false => rfl | true => exfalso; simp_all
      have k1 := ((HBK.out.later (hC.bel hst)).read 3)
      simp at k1
      have HCx := Lib.hid hC
      simp only [fillA, if_true, Act.put]
      simp
      simp only [hp]
      clear hp hC hcl hu hi hst
      go_wp2
      exact ⟨rfl, γ, HCx.out.quiet (by decide) (by decide) (by decide) (by decide), rfl, fun _ _ _ h => h⟩
    · intro γ U wx vals hi hu hcl hC hp
      simp [ClosedL, UpL, predL, predE, Region.binds] at hcl
      have hst : U 19 = false := by clear hC hp; cases h : U 19 with | false => rfl | true => exfalso; simp_all
      have HCx := Lib.hid hC
      simp only [fillA, if_true, Act.put]
      simp
      clear hp hC hcl hu hi hst
      go_wp2
      exact ⟨rfl, γ, HCx.out.quiet (by decide) (by decide) (by decide) (by decide), rfl, fun _ _ _ h => h⟩
    · intro γ U wx vals hi hu hcl hC hp
      simp [ClosedL, UpL, predL, predE, Region.binds] at hcl
      simp [predL, predE, Region.binds, UpL] at hu
      simp [predL, predE, Region.binds, PreV, SnDv] at hp
      have hst : U 19 = false := by clear hC hp; cases h : U 19 with | false => rfl | true => exfalso; simp_all
      have HCx := Lib.hid hC
      simp only [fillA, if_true, Act.put]
      simp
      simp only [hp]
      clear hp hC hcl hu hi hst
      go_wp2
      exact ⟨rfl, γ, HCx.out.quiet (by decide) (by decide) (by decide) (by decide), rfl, fun _ _ _ h => h⟩
    · intro γ U wx vals hi hu hcl hC hp
      simp [ClosedL, UpL, predL, predE, Region.binds] at hcl
      simp [predL, predE, Region.binds, UpL] at hu
      simp [predL, predE, Region.binds, PreV, SnDv] at hp
      have hst : U 19 = false := by clear hC hp; cases h : U 19 with | false => rfl | true => exfalso; simp_all
      have hqf : U 16 = false := by clear hC hp; cases h : U 16 with | false => rfl | true => exfalso; simp_all
      have HCx := Lib.hid hC
      simp only [fillA, if_true, Act.put]
      simp
      obtain ⟨A1, c1, w2, hrun, hX⟩ := hC.mk_p snElt SnDv.ix (by simp [hu]) hi hqf hst HLM.out HT.out hmM
      have HM := Lib.hid hX
      simp only [hp]
      clear hp hC hcl hu hst hqf hX
      refine wpList_append_run rfl (.tmp 22) (.tmp 28) 39 rfl rfl rfl hrun ?_
      clear hrun
      go_wp2
      exact ⟨rfl, _, HM.out, rfl, fun jj u hj h => SnDv.kp (fun e => by rw [e, hi] at hj; cases hj) h⟩
    · intro γ U wx vals hi hu hcl hC hp
      simp [ClosedL, UpL, predL, predE, Region.binds] at hcl
      have hst : U 19 = false := by clear hC hp; cases h : U 19 with | false => rfl | true => exfalso; simp_all
      have HCx := Lib.hid hC
      simp only [fillA, if_true, Act.put]
      simp
      clear hp hC hcl hu hi hst
      go_wp2
      exact ⟨rfl, γ, HCx.out.quiet (by decide) (by decide) (by decide) (by decide), rfl, fun _ _ _ h => h⟩
    · intro γ U wx vals hi hu hcl hC hp
      simp [ClosedL, UpL, predL, predE, Region.binds] at hcl
      simp [predL, predE, Region.binds, UpL] at hu
      simp [predL, predE, Region.binds, PreV, SnDv] at hp
      have hst : U 19 = false := by clear hC hp; cases h : U 19 with | false => rfl | true => exfalso; simp_all
      have HCx := Lib.hid hC
      simp only [fillA, if_true, Act.put]
      simp
      simp only [hp]
      clear hp hC hcl hu hi hst
      go_wp2
      exact ⟨rfl, γ, HCx.out.quiet (by decide) (by decide) (by decide) (by decide), rfl, fun _ _ _ h => h⟩
    · intro γ U wx vals hi hu hcl hC hp
      simp [ClosedL, UpL, predL, predE, Region.binds] at hcl
      simp [predL, predE, Region.binds, UpL] at hu
      simp [predL, predE, Region.binds, PreV, SnDv] at hp
      have hst : U 19 = false := by clear hC hp; cases h : U 19 with | false => rfl | true => exfalso; simp_all
      have HCx := Lib.hid hC
      simp only [fillA, if_true, Act.put]
      simp
      simp only [hp]
      clear hp hC hcl hu hi hst
      go_wp2
      exact ⟨rfl, γ, HCx.out.quiet (by decide) (by decide) (by decide) (by decide), rfl, fun _ _ _ h => h⟩
    · intro γ U wx vals hi hu hcl hC hp
      simp [ClosedL, UpL, predL, predE, Region.binds] at hcl
      simp [predL, predE, Region.binds, UpL] at hu
      simp [predL, predE, Region.binds, PreV, SnDv] at hp
      have hst : U 19 = false := by clear hC hp; cases h : U 19 with | false => rfl | true => exfalso; simp_all
      have k1 := ((HBK.out.later (hC.bel hst)).read 3)
      simp at k1
      have HCx := Lib.hid hC
      simp only [fillA, if_true, Act.put]
      simp
      simp only [hp]
      clear hp hC hcl hu hi hst
      go_wp2
      exact ⟨rfl, γ, HCx.out.quiet (by decide) (by decide) (by decide) (by decide), rfl, fun _ _ _ h => h⟩
    · intro γ U wx vals hi hu hcl hC hp
      simp [ClosedL, UpL, predL, predE, Region.binds] at hcl
      have hst : U 19 = false := by clear hC hp; cases h : U 19 with | false => rfl | true => exfalso; simp_all
      have HCx := Lib.hid hC
      simp only [fillA, if_true, Act.put]
      simp
      clear hp hC hcl hu hi hst
      go_wp2
      exact ⟨rfl, γ, HCx.out.quiet (by decide) (by decide) (by decide) (by decide), rfl, fun _ _ _ h => h⟩
    · intro γ U wx vals hi hu hcl hC hp
      simp [ClosedL, UpL, predL, predE, Region.binds] at hcl
      simp [predL, predE, Region.binds, UpL] at hu
      simp [predL, predE, Region.binds, PreV, SnDv] at hp
      have hst : U 19 = false := by clear hC hp; cases h : U 19 with | false => rfl | true => exfalso; simp_all
      have HCx := Lib.hid hC
      simp only [fillA, if_true, Act.put]
      simp
      simp only [hp]
      clear hp hC hcl hu hi hst
      go_wp2
      exact ⟨rfl, γ, HCx.out.quiet (by decide) (by decide) (by decide) (by decide), rfl, fun _ _ _ h => h⟩
    · intro γ U wx vals hi hu hcl hC hp
      simp [ClosedL, UpL, predL, predE, Region.binds] at hcl
      simp [predL, predE, Region.binds, UpL] at hu
      simp [predL, predE, Region.binds, PreV, SnDv] at hp
      have hst : U 19 = false := by clear hC hp; cases h : U 19 with | false => rfl | true => exfalso; simp_all
      have HCx := Lib.hid hC
      simp only [fillA, if_true, Act.put]
      simp
      simp only [hp]
      clear hp hC hcl hu hi hst
      by_cases hce : i + 1 = c
      · have hvd : vD = .slice (some ⟨bb, off, none⟩) 0 0 := by rw [← HVD.out]; unfold dropG; simp only [if_pos hce]
        have hn1 : n = i + 1 := by omega
        subst hn1
        have hci : ((i + 1 : Nat) : Int) = (i : Int) + 1 := by omega
        subst hce
        go_wp2
        exact ⟨rfl, γ, HCx.out.quiet (by decide) (by decide) (by decide) (by decide), hvd.symm, fun _ _ _ h => h⟩
      · have hvd : vD = .slice (some ⟨bb, off + (i + 1) * 3, none⟩) (n - (i + 1)) (c - (i + 1)) := by rw [← HVD.out]; unfold dropG; simp only [if_neg hce, Addr.add_lit]
        have hlt9 : (i : Int) + 1 < c := by omega
        have hle9 : (i : Int) + 1 ≤ n := by omega
        go_wp2
        exact ⟨rfl, γ, HCx.out.quiet (by decide) (by decide) (by decide) (by decide), hvd.symm, fun _ _ _ h => h⟩
    · intro γ U wx vals hi hu hcl hC hp
      simp [ClosedL, UpL, predL, predE, Region.binds] at hcl
      simp [predL, predE, Region.binds, UpL] at hu
      simp [predL, predE, Region.binds, PreV, SnDv] at hp
      have hst : U 19 = false := by clear hC hp; cases h : U 19 with | false => rfl | true => exfalso; simp_all
      have HCx := Lib.hid hC
      simp only [fillA, if_true, Act.put]
      simp
      obtain ⟨A2, c2, w2, hrun, hX⟩ := hC.mk_q snElt SnDv.ix (by simp [hu]) hi hst HLN.out HT.out hmM hmN
      have HM := Lib.hid hX
      simp only [hp]
      clear hp hC hcl hu hst hX
      refine wpList_append_run rfl (.tmp 29) (.tmp 36) 39 rfl rfl rfl hrun ?_
      clear hrun
      go_wp2
      exact ⟨rfl, _, HM.out, rfl, fun jj u hj h => SnDv.kq (fun e => by rw [e, hi] at hj; cases hj) h⟩
    · intro γ U wx vals hi hu hcl hC hp
      simp [ClosedL, UpL, predL, predE, Region.binds] at hcl
      simp [predL, predE, Region.binds, UpL] at hu
      simp [predL, predE, Region.binds, PreV, SnDv] at hp
      have hst : U 19 = false := by clear hC hp; cases h : U 19 with | false => rfl | true => exfalso; simp_all
      have HCx := Lib.hid hC
      simp only [fillA, if_true, Act.put]
      simp
      simp only [hp]
      clear hp hC hcl hu hi hst
      go_wp2
      exact ⟨rfl, γ, HCx.out.quiet (by decide) (by decide) (by decide) (by decide), rfl, fun _ _ _ h => h⟩
    · intro γ U wx vals hi hu hcl hC hp
      simp [ClosedL, UpL, predL, predE, Region.binds] at hcl
      simp [predL, predE, Region.binds, UpL] at hu
      simp [predL, predE, Region.binds, PreV, SnDv] at hp
      have hst : U 19 = false := by clear hC hp; cases h : U 19 with | false => rfl | true => exfalso; simp_all
      have HCx := Lib.hid hC
      simp only [fillA, if_true, Act.put]
      simp
      simp only [hp]
      clear hp hC hcl hu hi hst
      go_wp2
      exact ⟨rfl, γ, HCx.out.quiet (by decide) (by decide) (by decide) (by decide), rfl, fun _ _ _ h => h⟩
    · intro γ U wx vals hi hu hcl hC hp
      simp [ClosedL, UpL, predL, predE, Region.binds] at hcl
      simp [predL, predE, Region.binds, UpL] at hu
      simp [predL, predE, Region.binds, PreV, SnDv] at hp
      have hst : U 19 = false := hi
      have HCx := Lib.hid hC
      simp only [fillA, if_true, Act.put]
      simp
      have HM := Lib.hid (hC.mk_s (by simp [hu]) hst)
      have hfr := (HBK.out.later (hC.bel hst)).free
      have hrd := (HBK.out.later (hC.bel hst)).read 3
      simp at hrd
      simp only [hp]
      clear hp hC hcl hu hst
      go_wp2
      exact ⟨rfl, γ, HM.out, trivial, fun _ _ _ h => h⟩
  · intro γ wz vals U hC hall hV
    obtain ⟨u, hbu, howu, rfl⟩ := hC.ss (hall 19 (by simp))
    have HF := Lib.hid (HEND.out u γ.A2 (M.length + N.length) γ.c2 howu (by simp) hbu)
    simp only [fillA, if_true, Act.put]
    simp
    clear hV hC hall HEND HLM HLN HVD HBK HT howu hbu
    go_wp2
    go_ret2
    first | exact ⟨rfl, HF.out⟩ | exact ⟨(), rfl, HF.out⟩
end Go.Proofs.Ytglhaclehdkagaa

