/-
  Layer 16: contracts of the reference's Assign, Send, Exhausted. Written by gen_snref2.py.
-/
import Derived.Test.YtglhaclehdkagaaSnRef
import Derived.Test.YtglhaclehdkagaaLsP
namespace Go.Proofs.Ytglhaclehdkagaa
open Go.ChangeShapes Go.WideShapes Go.ChangeAt Go.RowKit
set_option linter.unusedVariables false

/-! ### Assign -/
theorem asg_mem {S : Nat} {s : SnS} {id : Int} {T : Nat → Prop} {w w1 : World} (hn : s.l.length ≤ 99999) (hP : RsP S s T w) (hb : Below w.heap.size w w1) (hE : snAsE s id = 0) :
    ∃ vL A2 c2 w2 A3 c3 w3, w1.cell? ⟨S, 2, none⟩ = some (.int .i64 s.nx) ∧ (w1.alloc (.cells #[] 38)).cell? ⟨S, 3, none⟩ = some vL ∧
      (Builtin.append_ #[39, 39] 39 #[.slice (some ⟨w1.heap.size, 0, none⟩) 0 0, vL]).run Try.prog (w1.alloc (.cells #[] 38)) = .ok (.slice A2 s.l.length c2) w2 ∧
      (Builtin.append_ #[39, 39] 39 #[.slice A2 s.l.length c2, .slice (some ⟨w2.heap.size, 0, none⟩) 1 1]).run Try.prog (w2.alloc (.cells #[.int .i64 s.nx, .int .i64 id, .int .i64 0] 38)) = .ok (.slice A3 (s.l.length + 1) c3) w3 ∧
      ((w3.cell? ⟨S, 3, none⟩ = some vL ∧ w3.cell? ⟨S, 2, none⟩ = some (.int .i64 s.nx)) ∧ w3.frozen? ⟨S, 3, none⟩ = false ∧ w3.frozen? ⟨S, 2, none⟩ = false) ∧
      (∃ T', RsP S (s.asg id) T' ((w3.setCell ⟨S, 3, none⟩ (.slice A3 (s.l.length + 1) c3)).setCell ⟨S, 2, none⟩ (.int .i64 ((s.nx + 1) % 65536))) ∧ ∀ j, T' j → T j ∨ w.heap.size ≤ j) ∧ Chg T w ((w3.setCell ⟨S, 3, none⟩ (.slice A3 (s.l.length + 1) c3)).setCell ⟨S, 2, none⟩ (.int .i64 ((s.nx + 1) % 65536))) := by
  have hok := hP.1.asg id
  obtain ⟨h0, h1, h2, vL, h3, h4⟩ := hP.later hb
  have hTw : ∀ k, T k → k < w.heap.size := hP.2.1
  obtain ⟨A2, c2, w2, A3, c3, w3, hrun1, hrun2, hv3, hb2, hb3⟩ := snElt.copy_one h4 h1 hn ⟨s.nx, id, 0⟩
  have hS3 := h3.carry (hb3.block S (h1 S h2))
  have k3 := hS3.read 3
  have k2 := hS3.read 2
  have d2 := h3.read 2
  have ka := (h3.alloc (.cells #[] 38)).read 3
  simp [snC] at k3 k2 d2 ka
  have hS4 := (hS3.put 3 (.slice A3 (s.l.length + 1) c3)).put 2 (.int .i64 ((s.nx + 1) % 65536))
  have hch3 : Chg T w w3 := Chg.of_below (hb.trans (hb3.mono hb.size))
  have hsz3 : w.heap.size ≤ w1.heap.size := hb.size
  refine ⟨vL, A2, c2, w2, A3, c3, w3, d2, ka, hrun1, hrun2, ⟨⟨k3, k2⟩, hS3.free 3, hS3.free 2⟩, ⟨fun k => (T k ∨ w1.heap.size ≤ k) ∧ k < w3.heap.size, ⟨hok, fun k hk => by simpa [World.setCell] using hk.2, ⟨.inl h2, hS3.size_lt⟩, .slice A3 (s.l.length + 1) c3, ?_, ?_⟩, fun j hj => hj.1.imp (fun h => h) (fun h => by omega)⟩, (hch3.setCell h2 3 _).setCell h2 2 _⟩
  · have e : snC (s.asg id) (.slice A3 (s.l.length + 1) c3) = #[.int .i64 s.w, .int .i64 s.t, .int .i64 ((s.nx + 1) % 65536), .slice A3 (s.l.length + 1) c3] := by unfold SnS.asg snC; rw [if_pos hE]
    rw [e]
    exact hS4
  · have e : (s.asg id).l = s.l ++ [⟨s.nx, id, 0⟩] := by unfold SnS.asg; rw [if_pos hE]
    rw [e]
    have h9 := snElt.row_ls hv3 (l := s.l ++ [⟨s.nx, id, 0⟩]) (by simp)
    exact (h9.keep fun b hb => by
      have hne : b ≠ S := by have := h1 S h2; omega
      rw [Below.heap_setCell _ _ _ _ (by simpa using hne), Below.heap_setCell _ _ _ _ (by simpa using hne)]).wider fun b hb => ⟨.inr hb.1, hb.2⟩
set_option maxRecDepth 100000 in
set_option maxHeartbeats 4000000 in
theorem rsasg_any {S : Nat} {s : SnS} (hn : s.l.length ≤ 99999) {base : Nat} (id : Int) : Acts 25 #[.pointer (some ⟨S, 0, none⟩), .int .i64 id] base (RsP S s) (fun _ : Unit => .tuple #[.int .i64 (snAsV s id), .int .i64 (snAsE s id)]) fun _ => RsP S (s.asg id) := by
  intro T w hP hb hs
  have HO := Lib.hid (rsopen_any hP)
  by_cases h1 : id < 1
  · have hE : snAsE s id = 1 := by unfold snAsE; rw [if_pos h1]
    have hV : snAsV s id = 0 := by unfold snAsV; rw [hE, if_neg (by omega)]
    have hA : s.asg id = s := by unfold SnS.asg; rw [hE, if_neg (by omega)]
    rw [hE, hV, hA]
    have HF := Lib.hid (show (∃ T', RsP S s T' w ∧ ∀ j, T' j → T j ∨ w.heap.size ≤ j) ∧ Chg T w w from ⟨⟨T, hP, fun k hk => .inl hk⟩, Chg.refl _ _⟩)
    clear hP hb hs hE hV hA HO
    go_enter Try.func25, Try.ntmps25
    go_wp2
    go_ret2
    first | exact ⟨rfl, HF.out⟩ | exact ⟨(), rfl, HF.out⟩
  have h1' : 1 ≤ id := by omega
  unfold Calm at HO
  cases hop : snOpen s
  · have hE : snAsE s id = 4 := by unfold snAsE; rw [if_neg h1, hop]; rfl
    have hV : snAsV s id = 0 := by unfold snAsV; rw [hE, if_neg (by omega)]
    have hA : s.asg id = s := by unfold SnS.asg; rw [hE, if_neg (by omega)]
    rw [hE, hV, hA]
    rw [hop] at HO
    have HF := Lib.hid (fun (W : World) (hw : Below w.heap.size w W) => show (∃ T', RsP S s T' W ∧ ∀ j, T' j → T j ∨ w.heap.size ≤ j) ∧ Chg T w W from ⟨⟨T, hP.later hw, fun k hk => .inl hk⟩, Chg.of_below hw⟩)
    clear hP hb hs hE hV hA hop h1
    go_enter Try.func25, Try.ntmps25
    go_wp2_with fail
    (with_reducible refine HO.out.mono ?_); rintro e w1 ⟨rfl, hb1⟩
    have HF2 := Lib.hid (HF.out w1 hb1)
    clear hb1 HF HO
    go_wp2
    go_ret2
    first | exact ⟨rfl, HF2.out⟩ | exact ⟨(), rfl, HF2.out⟩
  · have hE : snAsE s id = 0 := by unfold snAsE; rw [if_neg h1, hop]; rfl
    have hV : snAsV s id = s.nx := by unfold snAsV; rw [hE, if_pos rfl]
    rw [hV, hE]
    rw [hop] at HO
    have hnx := hP.1.nx
    have HM := Lib.hid (fun (W : World) (hw : Below w.heap.size w W) => asg_mem hn hP hw hE)
    have w1' : IntKind.i64.wrap (s.nx + 1) = s.nx + 1 := IntWalk.i64_in _ (by omega)
    have w2' : Int.tmod (s.nx + 1) 65536 = (s.nx + 1) % 65536 := Int.tmod_eq_emod_of_nonneg (by omega)
    obtain ⟨r, hr⟩ : ∃ r, (s.nx + 1) % 65536 = r := ⟨_, rfl⟩
    rw [hr] at w2' HM
    have w3' : IntKind.i64.wrap r = r := IntWalk.i64_in _ (by omega)
    clear hP hb hs hE hV hop h1 hr
    generalize s.l.length = n at *
    generalize s.nx = nx at *
    go_enter Try.func25, Try.ntmps25
    go_wp2_with fail
    (with_reducible refine HO.out.mono ?_); rintro e w1 ⟨rfl, hb1⟩
    obtain ⟨vL, A2, c2, w2, A3, c3, w3, d2, ka, hrun1, hrun2, ⟨⟨k3, k2⟩, z3, z2⟩, hR, hC⟩ := HM.out w1 hb1
    have HF := Lib.hid (And.intro hR hC)
    clear hR hC HM HO hb1
    go_wp2_with (at_builtin; first | refine wpList_append_run rfl (.tmp 17) (.tmp 21) 39 rfl rfl rfl hrun1 ?_ | refine wpList_append_run rfl (.tmp 22) (.tmp 26) 39 rfl rfl rfl hrun2 ?_)
    go_ret2
    first | exact ⟨rfl, HF.out⟩ | exact ⟨(), rfl, HF.out⟩
/-! ### Send -/
theorem snd_mem {S : Nat} {s : SnS} {q : Int} {T : Nat → Prop} {w w1 : World} (hn : s.l.length ≤ 99999) (hP : RsP S s T w) (hb : Below w.heap.size w w1) (hE : snSdE s q = 0) (hk : snK s.l q < s.l.length) :
    ∃ vL g c w2, (w1.alloc (.cells #[] 38)).cell? ⟨S, 3, none⟩ = some vL ∧
      (Builtin.append_ #[39, 39] 39 #[.slice (some ⟨w1.heap.size, 0, none⟩) 0 0, vL]).run Try.prog (w1.alloc (.cells #[] 38)) = .ok (.slice (some ⟨g, 0, none⟩) s.l.length c) w2 ∧
      (w2.cell? ⟨S, 3, none⟩ = some vL ∧ w2.frozen? ⟨S, 3, none⟩ = false) ∧ S ≠ g ∧
      ((w2.setCell ⟨S, 3, none⟩ (.slice (some ⟨g, 0, none⟩) s.l.length c)).cell? ⟨g, snK s.l q * 3 + 2, none⟩ = some (.int .i64 (snTr s.l q)) ∧ (w2.setCell ⟨S, 3, none⟩ (.slice (some ⟨g, 0, none⟩) s.l.length c)).frozen? ⟨g, snK s.l q * 3 + 2, none⟩ = false) ∧
      ((w2.setCell ⟨S, 3, none⟩ (.slice (some ⟨g, 0, none⟩) s.l.length c)).setCell ⟨g, snK s.l q * 3 + 2, none⟩ (.int .i64 (snTr s.l q + 1))).cell? ⟨S, 3, none⟩ = some (.slice (some ⟨g, 0, none⟩) s.l.length c) ∧
      (∃ T', RsP S (s.snd q) T' ((w2.setCell ⟨S, 3, none⟩ (.slice (some ⟨g, 0, none⟩) s.l.length c)).setCell ⟨g, snK s.l q * 3 + 2, none⟩ (.int .i64 (snTr s.l q + 1))) ∧ ∀ j, T' j → T j ∨ w.heap.size ≤ j) ∧ Chg T w ((w2.setCell ⟨S, 3, none⟩ (.slice (some ⟨g, 0, none⟩) s.l.length c)).setCell ⟨g, snK s.l q * 3 + 2, none⟩ (.int .i64 (snTr s.l q + 1))) := by
  have hok := hP.1.snd q
  obtain ⟨h0, h1, h2, vL, h3, h4⟩ := hP.later hb
  obtain ⟨A, c, w2, hrun1, hv2, hb2⟩ := snElt.copy h4 h1 (by omega)
  obtain ⟨g, c', e, hg1, hg2⟩ := ow_at hv2 (by omega)
  obtain ⟨rfl, rfl⟩ : A = some ⟨g, 0, none⟩ ∧ c = c' := by simpa using e
  have hSg : S ≠ g := by have := h1 S h2; omega
  have hS2 := h3.carry (hb2.block S (h1 S h2))
  have k3 := hS2.read 3
  have ka := (h3.alloc (.cells #[] 38)).read 3
  simp [snC] at k3 ka
  have hS3 := hS2.put 3 (.slice (some ⟨g, 0, none⟩) s.l.length c)
  have hv3 : (w2.setCell ⟨S, 3, none⟩ (.slice (some ⟨g, 0, none⟩) s.l.length c)).ownsRow w1.heap.size 38 3 (.slice (some ⟨g, 0, none⟩) s.l.length c) s.l.length (srs csN s.l) := owk hv2 fun k hk => by
    obtain rfl : g = k := by simpa [Value.ownBlock] using hk
    exact Below.heap_setCell _ _ _ _ (by simpa using hSg.symm)
  have hkk : snK s.l q * 3 + 2 < s.l.length * 3 := by omega
  have hcell : (w2.setCell ⟨S, 3, none⟩ (.slice (some ⟨g, 0, none⟩) s.l.length c)).cell? ⟨g, snK s.l q * 3 + 2, none⟩ = some (.int .i64 (snTr s.l q)) := by
    have h9 := hv3.cellAt (snK s.l q * 3 + 2) hkk
    rw [h9, srs_at snElt.len s.l (snK s.l q) 2 hk (by omega)]
    unfold snTr; rw [dif_pos hk]; rfl
  have hv4 := row_cell (a := { s.l[snK s.l q] with t := snTr s.l q + 1 }) (u := .int .i64 (snTr s.l q + 1)) (k := 2) snElt.len hv3 hk (by omega) (by unfold csN; rfl)
  have hS4 := hS3.other (g' := g) hSg (snK s.l q * 3 + 2) (.int .i64 (snTr s.l q + 1))
  have k4 := hS4.read 3
  simp [snC] at k4
  have hfz := hv3.frozenAt (snK s.l q * 3 + 2)
  have hch : Chg T w ((w2.setCell ⟨S, 3, none⟩ (.slice (some ⟨g, 0, none⟩) s.l.length c)).setCell ⟨g, snK s.l q * 3 + 2, none⟩ (.int .i64 (snTr s.l q + 1))) :=
    ((Chg.of_below (S := T) (hb.trans (hb2.mono hb.size))).setCell h2 3 _).setNew (by have := hb.size; omega) _ _
  have hsz : w.heap.size ≤ w1.heap.size := hb.size
  refine ⟨vL, g, c, w2, ka, hrun1, ⟨k3, hS2.free 3⟩, hSg, ⟨hcell, hfz⟩, k4, ⟨fun k => (T k ∨ w1.heap.size ≤ k) ∧ k < w2.heap.size, ⟨hok, fun k hk => by simpa [World.setCell] using hk.2, ⟨.inl h2, hS2.size_lt⟩, .slice (some ⟨g, 0, none⟩) s.l.length c, ?_, ?_⟩, fun j hj => hj.1.imp (fun h => h) (fun h => by omega)⟩, hch⟩
  · have e : snC (s.snd q) (.slice (some ⟨g, 0, none⟩) s.l.length c) = #[.int .i64 s.w, .int .i64 s.t, .int .i64 s.nx, .slice (some ⟨g, 0, none⟩) s.l.length c] := by unfold SnS.snd snC; rw [if_pos hE]
    rw [e]
    exact hS4
  · have e : (s.snd q).l = s.l.set (snK s.l q) { s.l[snK s.l q] with t := snTr s.l q + 1 } := by
      unfold SnS.snd; rw [if_pos hE]
      simp only [snUp, dif_pos hk, snTr]
    rw [e]
    exact (snElt.row_ls hv4 (by simp)).wider fun b hb => ⟨.inr hb.1, by simpa [World.setCell] using hb.2⟩
set_option maxRecDepth 100000 in
set_option maxHeartbeats 8000000 in
theorem rssnd_any {S : Nat} {s : SnS} (hn : s.l.length ≤ 99999) {base : Nat} (q : Int) : Acts 26 #[.pointer (some ⟨S, 0, none⟩), .int .i64 q] base (RsP S s) (fun _ : Unit => .tuple #[.int .i64 (snSdV s q), .int .i64 (snSdE s q)]) fun _ => RsP S (s.snd q) := by
  intro T w hP hb hs
  have HAT := Lib.hid (rsat_any (by omega) hP q)
  by_cases hk : snK s.l q < s.l.length
  rotate_left 1
  · have hE : snSdE s q = 6 := by unfold snSdE; rw [if_neg hk]
    have hV : snSdV s q = 0 := by unfold snSdV; rw [hE, if_neg (by omega)]
    have hA : s.snd q = s := by unfold SnS.snd; rw [hE, if_neg (by omega)]
    have hat : snAt s.l q = -1 := by unfold snAt; rw [if_neg hk]
    rw [hE, hV, hA]
    rw [hat] at HAT
    have HF := Lib.hid (show (∃ T', RsP S s T' w ∧ ∀ j, T' j → T j ∨ w.heap.size ≤ j) ∧ Chg T w w from ⟨⟨T, hP, fun k hk => .inl hk⟩, Chg.refl _ _⟩)
    clear hP hb hs hE hV hA hk hat
    go_enter Try.func26, Try.ntmps26
    go_wp2_with fail
    (with_reducible refine HAT.out.mono ?_); rintro e w1 ⟨rfl, rfl⟩
    go_wp2
    go_ret2
    first | exact ⟨rfl, HF.out⟩ | exact ⟨(), rfl, HF.out⟩
  have hat : snAt s.l q = (snK s.l q : Nat) := by unfold snAt; rw [if_pos hk]
  rw [hat] at HAT
  have hbt := hP.1.few
  have het := hP.1.e _ (List.getElem_mem hk)
  have hP' := hP
  obtain ⟨h0, h1, h2, vL, h3, h4⟩ := hP
  have d3 := h3.read 3
  have d1 := h3.read 1
  simp [snC] at d3 d1
  obtain ⟨b, off, c, rfl, hlc, hTb, hbw, q0, q1, q2⟩ := h4.sn hk
  have htr : snTr s.l q = s.l[snK s.l q].t := by unfold snTr; rw [dif_pos hk]
  rw [← htr] at q2 het
  have HC4 := Lib.hid (fun (W : World) (hw : Below w.drew.heap.size w.drew W) => And.intro ((((Below.refl _ w).drew.trans hw).cell (p := ⟨S, 3, none⟩) (h1 S h2)).trans d3) (And.intro ((((Below.refl _ w).drew.trans hw).cell (p := ⟨b, off + snK s.l q * 3 + 2, none⟩) hbw).trans q2) ((((Below.refl _ w).drew.trans hw).cell (p := ⟨S, 1, none⟩) (h1 S h2)).trans d1)))
  have hkI : ((snK s.l q : Nat) : Int) < (s.l.length : Int) := by omega
  have hk0 : (0 : Int) ≤ ((snK s.l q : Nat) : Int) := by omega
  by_cases htt : s.t ≤ snTr s.l q
  · have hE : snSdE s q = 14 := by unfold snSdE; rw [if_pos hk, if_pos htt]
    have hV : snSdV s q = 0 := by unfold snSdV; rw [hE, if_neg (by omega)]
    have hA : s.snd q = s := by unfold SnS.snd; rw [hE, if_neg (by omega)]
    rw [hE, hV, hA]
    have HF := Lib.hid (fun (W : World) (hw : Below w.heap.size w W) => show (∃ T', RsP S s T' W ∧ ∀ j, T' j → T j ∨ w.heap.size ≤ j) ∧ Chg T w W from ⟨⟨T, hP'.later hw, fun k hk => .inl hk⟩, Chg.of_below hw⟩)
    clear hP' hb hs hE hV hA hat h0 h1 h2 h3 h4 d3 d1 q0 q1 q2 htr hTb hbw hlc het hbt hk
    generalize snTr s.l q = t0 at *
    generalize snK s.l q = k at *
    generalize s.l.length = n at *
    generalize s.t = tr at *
    go_enter Try.func26, Try.ntmps26
    go_wp2_with fail
    (with_reducible refine HAT.out.mono ?_); rintro e w1 ⟨rfl, rfl⟩
    go_wp2_with fail
    refine wp_region_looseS 53 (by kernel_rfl) (by kernel_rfl) (StB w.drew (fun vI => [.pointer (some ⟨S, 0, none⟩), .pointer (some ⟨S, 0, none⟩), .pointer (some ⟨S, 3, none⟩), .slice (some ⟨b, off, none⟩) n c, .int .i64 (k : Nat), .pointer (some ⟨b, off + k * 3, none⟩), .pointer (some ⟨b, off + k * 3 + 2, none⟩), .int .i64 t0, .pointer (some ⟨S, 0, none⟩), .pointer (some ⟨S, 0, none⟩), .pointer (some ⟨S, 1, none⟩), .int .i64 tr, .bool true].getD vI undef)) rfl StB.start ?_ ?_
    · simp only [OblAllS]
      refine ⟨?_, ?_, ?_, ?_, ?_, ?_, ?_, ?_, ?_, ?_, ?_, ?_, ?_, trivial⟩
      · intro L wx vals hi hu hcl hC
        have HCx := Lib.hid hC
        clear hC hcl hu hi
        simp only [fillA, if_true, Act.put]
        simp
        go_wp2
        exact ⟨rfl, HCx.out.quiet 0 rfl⟩
      · intro L wx vals hi hu hcl hC
        simp [predL, predE, Region.binds, UpL] at hu
        have e0 : vals 0 = .pointer (some ⟨S, 0, none⟩) := hC.v 0 (by simp [hu])
        have HCx := Lib.hid hC
        clear hC hcl hu hi
        simp only [fillA, if_true, Act.put]
        simp
        simp only [e0]
        clear e0
        go_wp2
        exact ⟨rfl, HCx.out.quiet 1 rfl⟩
      · intro L wx vals hi hu hcl hC
        simp [predL, predE, Region.binds, UpL] at hu
        have e1 : vals 1 = .pointer (some ⟨S, 0, none⟩) := hC.v 1 (by simp [hu])
        have HCx := Lib.hid hC
        clear hC hcl hu hi
        simp only [fillA, if_true, Act.put]
        simp
        simp only [e1]
        clear e1
        go_wp2
        exact ⟨rfl, HCx.out.quiet 2 rfl⟩
      · intro L wx vals hi hu hcl hC
        simp [predL, predE, Region.binds, UpL] at hu
        have e2 : vals 2 = .pointer (some ⟨S, 3, none⟩) := hC.v 2 (by simp [hu])
        have h0 := (HC4.out wx hC.b).1
        have HCx := Lib.hid hC
        clear hC hcl hu hi
        simp only [fillA, if_true, Act.put]
        simp
        simp only [e2]
        clear e2
        go_wp2
        exact ⟨rfl, HCx.out.quiet 3 rfl⟩
      · intro L wx vals hi hu hcl hC
        have HCx := Lib.hid hC
        clear hC hcl hu hi
        simp only [fillA, if_true, Act.put]
        simp
        go_wp2
        exact ⟨rfl, HCx.out.quiet 4 rfl⟩
      · intro L wx vals hi hu hcl hC
        simp [predL, predE, Region.binds, UpL] at hu
        have e3 : vals 3 = .slice (some ⟨b, off, none⟩) n c := hC.v 3 (by simp [hu])
        have e4 : vals 4 = .int .i64 (k : Nat) := hC.v 4 (by simp [hu])
        have HCx := Lib.hid hC
        clear hC hcl hu hi
        simp only [fillA, if_true, Act.put]
        simp
        simp only [e3, e4]
        clear e3 e4
        go_wp2
        exact ⟨rfl, HCx.out.quiet 5 rfl⟩
      · intro L wx vals hi hu hcl hC
        simp [predL, predE, Region.binds, UpL] at hu
        have e5 : vals 5 = .pointer (some ⟨b, off + k * 3, none⟩) := hC.v 5 (by simp [hu])
        have HCx := Lib.hid hC
        clear hC hcl hu hi
        simp only [fillA, if_true, Act.put]
        simp
        simp only [e5]
        clear e5
        go_wp2
        exact ⟨rfl, HCx.out.quiet 6 rfl⟩
      · intro L wx vals hi hu hcl hC
        simp [predL, predE, Region.binds, UpL] at hu
        have e6 : vals 6 = .pointer (some ⟨b, off + k * 3 + 2, none⟩) := hC.v 6 (by simp [hu])
        have h0 := (HC4.out wx hC.b).2.1
        have HCx := Lib.hid hC
        clear hC hcl hu hi
        simp only [fillA, if_true, Act.put]
        simp
        simp only [e6]
        clear e6
        go_wp2
        exact ⟨rfl, HCx.out.quiet 7 rfl⟩
      · intro L wx vals hi hu hcl hC
        have HCx := Lib.hid hC
        clear hC hcl hu hi
        simp only [fillA, if_true, Act.put]
        simp
        go_wp2
        exact ⟨rfl, HCx.out.quiet 8 rfl⟩
      · intro L wx vals hi hu hcl hC
        simp [predL, predE, Region.binds, UpL] at hu
        have e8 : vals 8 = .pointer (some ⟨S, 0, none⟩) := hC.v 8 (by simp [hu])
        have HCx := Lib.hid hC
        clear hC hcl hu hi
        simp only [fillA, if_true, Act.put]
        simp
        simp only [e8]
        clear e8
        go_wp2
        exact ⟨rfl, HCx.out.quiet 9 rfl⟩
      · intro L wx vals hi hu hcl hC
        simp [predL, predE, Region.binds, UpL] at hu
        have e9 : vals 9 = .pointer (some ⟨S, 0, none⟩) := hC.v 9 (by simp [hu])
        have HCx := Lib.hid hC
        clear hC hcl hu hi
        simp only [fillA, if_true, Act.put]
        simp
        simp only [e9]
        clear e9
        go_wp2
        exact ⟨rfl, HCx.out.quiet 10 rfl⟩
      · intro L wx vals hi hu hcl hC
        simp [predL, predE, Region.binds, UpL] at hu
        have e10 : vals 10 = .pointer (some ⟨S, 1, none⟩) := hC.v 10 (by simp [hu])
        have h0 := (HC4.out wx hC.b).2.2
        have HCx := Lib.hid hC
        clear hC hcl hu hi
        simp only [fillA, if_true, Act.put]
        simp
        simp only [e10]
        clear e10
        go_wp2
        exact ⟨rfl, HCx.out.quiet 11 rfl⟩
      · intro L wx vals hi hu hcl hC
        simp [predL, predE, Region.binds, UpL] at hu
        have e7 : vals 7 = .int .i64 t0 := hC.v 7 (by simp [hu])
        have e11 : vals 11 = .int .i64 tr := hC.v 11 (by simp [hu])
        have HCx := Lib.hid hC
        clear hC hcl hu hi
        simp only [fillA, if_true, Act.put]
        simp
        simp only [e7, e11]
        clear e7 e11
        go_wp2
        exact ⟨rfl, HCx.out.quiet 12 rfl⟩
    · intro wz vals U hC hall
      have e12 : vals 12 = .bool true := hC.v 12 (hall 12 (by simp))
      have HF2 := Lib.hid (HF.out wz ((Below.refl _ w).drew.trans hC.b))
      simp only [fillA, if_true, Act.put]
      simp
      simp only [e12]
      clear hC hall e12 HC4 HF
      generalize vals 0 = t_0 at *
      generalize vals 1 = t_1 at *
      generalize vals 2 = t_2 at *
      generalize vals 3 = t_3 at *
      generalize vals 4 = t_4 at *
      generalize vals 5 = t_5 at *
      generalize vals 6 = t_6 at *
      generalize vals 7 = t_7 at *
      generalize vals 8 = t_8 at *
      generalize vals 9 = t_9 at *
      generalize vals 10 = t_10 at *
      generalize vals 11 = t_11 at *
      go_wp2
      go_ret2
      first | exact ⟨rfl, HF2.out⟩ | exact ⟨(), rfl, HF2.out⟩
  · have hE : snSdE s q = 0 := by unfold snSdE; rw [if_pos hk, if_neg htt]
    have hV : snSdV s q = snTr s.l q + 1 := by simp [snSdV, hE]
    rw [hV, hE]
    have HM := Lib.hid (fun (W : World) (hw : Below w.heap.size w W) => snd_mem hn hP' hw hE hk)
    have hwr : IntKind.i64.wrap (snTr s.l q + 1) = snTr s.l q + 1 := IntWalk.i64_in _ (by omega)
    have htt' : snTr s.l q < s.t := by omega
    have hdec : decide (s.t ≤ snTr s.l q) = false := by simp; omega
    clear hP' hb hs hE hV hat h0 h1 h2 h3 h4 d3 d1 q0 q1 q2 htr hTb hbw hlc het hbt hk htt
    generalize snTr s.l q = t0 at *
    generalize snK s.l q = k at *
    generalize s.l.length = n at *
    generalize s.t = tr at *
    go_enter Try.func26, Try.ntmps26
    go_wp2_with fail
    (with_reducible refine HAT.out.mono ?_); rintro e w1 ⟨rfl, rfl⟩
    go_wp2_with fail
    refine wp_region_looseS 53 (by kernel_rfl) (by kernel_rfl) (StB w.drew (fun vI => [.pointer (some ⟨S, 0, none⟩), .pointer (some ⟨S, 0, none⟩), .pointer (some ⟨S, 3, none⟩), .slice (some ⟨b, off, none⟩) n c, .int .i64 (k : Nat), .pointer (some ⟨b, off + k * 3, none⟩), .pointer (some ⟨b, off + k * 3 + 2, none⟩), .int .i64 t0, .pointer (some ⟨S, 0, none⟩), .pointer (some ⟨S, 0, none⟩), .pointer (some ⟨S, 1, none⟩), .int .i64 tr, .bool false].getD vI undef)) rfl StB.start ?_ ?_
    · simp only [OblAllS]
      refine ⟨?_, ?_, ?_, ?_, ?_, ?_, ?_, ?_, ?_, ?_, ?_, ?_, ?_, trivial⟩
      · intro L wx vals hi hu hcl hC
        have HCx := Lib.hid hC
        clear hC hcl hu hi
        simp only [fillA, if_true, Act.put]
        simp
        go_wp2
        exact ⟨rfl, HCx.out.quiet 0 rfl⟩
      · intro L wx vals hi hu hcl hC
        simp [predL, predE, Region.binds, UpL] at hu
        have e0 : vals 0 = .pointer (some ⟨S, 0, none⟩) := hC.v 0 (by simp [hu])
        have HCx := Lib.hid hC
        clear hC hcl hu hi
        simp only [fillA, if_true, Act.put]
        simp
        simp only [e0]
        clear e0
        go_wp2
        exact ⟨rfl, HCx.out.quiet 1 rfl⟩
      · intro L wx vals hi hu hcl hC
        simp [predL, predE, Region.binds, UpL] at hu
        have e1 : vals 1 = .pointer (some ⟨S, 0, none⟩) := hC.v 1 (by simp [hu])
        have HCx := Lib.hid hC
        clear hC hcl hu hi
        simp only [fillA, if_true, Act.put]
        simp
        simp only [e1]
        clear e1
        go_wp2
        exact ⟨rfl, HCx.out.quiet 2 rfl⟩
      · intro L wx vals hi hu hcl hC
        simp [predL, predE, Region.binds, UpL] at hu
        have e2 : vals 2 = .pointer (some ⟨S, 3, none⟩) := hC.v 2 (by simp [hu])
        have h0 := (HC4.out wx hC.b).1
        have HCx := Lib.hid hC
        clear hC hcl hu hi
        simp only [fillA, if_true, Act.put]
        simp
        simp only [e2]
        clear e2
        go_wp2
        exact ⟨rfl, HCx.out.quiet 3 rfl⟩
      · intro L wx vals hi hu hcl hC
        have HCx := Lib.hid hC
        clear hC hcl hu hi
        simp only [fillA, if_true, Act.put]
        simp
        go_wp2
        exact ⟨rfl, HCx.out.quiet 4 rfl⟩
      · intro L wx vals hi hu hcl hC
        simp [predL, predE, Region.binds, UpL] at hu
        have e3 : vals 3 = .slice (some ⟨b, off, none⟩) n c := hC.v 3 (by simp [hu])
        have e4 : vals 4 = .int .i64 (k : Nat) := hC.v 4 (by simp [hu])
        have HCx := Lib.hid hC
        clear hC hcl hu hi
        simp only [fillA, if_true, Act.put]
        simp
        simp only [e3, e4]
        clear e3 e4
        go_wp2
        exact ⟨rfl, HCx.out.quiet 5 rfl⟩
      · intro L wx vals hi hu hcl hC
        simp [predL, predE, Region.binds, UpL] at hu
        have e5 : vals 5 = .pointer (some ⟨b, off + k * 3, none⟩) := hC.v 5 (by simp [hu])
        have HCx := Lib.hid hC
        clear hC hcl hu hi
        simp only [fillA, if_true, Act.put]
        simp
        simp only [e5]
        clear e5
        go_wp2
        exact ⟨rfl, HCx.out.quiet 6 rfl⟩
      · intro L wx vals hi hu hcl hC
        simp [predL, predE, Region.binds, UpL] at hu
        have e6 : vals 6 = .pointer (some ⟨b, off + k * 3 + 2, none⟩) := hC.v 6 (by simp [hu])
        have h0 := (HC4.out wx hC.b).2.1
        have HCx := Lib.hid hC
        clear hC hcl hu hi
        simp only [fillA, if_true, Act.put]
        simp
        simp only [e6]
        clear e6
        go_wp2
        exact ⟨rfl, HCx.out.quiet 7 rfl⟩
      · intro L wx vals hi hu hcl hC
        have HCx := Lib.hid hC
        clear hC hcl hu hi
        simp only [fillA, if_true, Act.put]
        simp
        go_wp2
        exact ⟨rfl, HCx.out.quiet 8 rfl⟩
      · intro L wx vals hi hu hcl hC
        simp [predL, predE, Region.binds, UpL] at hu
        have e8 : vals 8 = .pointer (some ⟨S, 0, none⟩) := hC.v 8 (by simp [hu])
        have HCx := Lib.hid hC
        clear hC hcl hu hi
        simp only [fillA, if_true, Act.put]
        simp
        simp only [e8]
        clear e8
        go_wp2
        exact ⟨rfl, HCx.out.quiet 9 rfl⟩
      · intro L wx vals hi hu hcl hC
        simp [predL, predE, Region.binds, UpL] at hu
        have e9 : vals 9 = .pointer (some ⟨S, 0, none⟩) := hC.v 9 (by simp [hu])
        have HCx := Lib.hid hC
        clear hC hcl hu hi
        simp only [fillA, if_true, Act.put]
        simp
        simp only [e9]
        clear e9
        go_wp2
        exact ⟨rfl, HCx.out.quiet 10 rfl⟩
      · intro L wx vals hi hu hcl hC
        simp [predL, predE, Region.binds, UpL] at hu
        have e10 : vals 10 = .pointer (some ⟨S, 1, none⟩) := hC.v 10 (by simp [hu])
        have h0 := (HC4.out wx hC.b).2.2
        have HCx := Lib.hid hC
        clear hC hcl hu hi
        simp only [fillA, if_true, Act.put]
        simp
        simp only [e10]
        clear e10
        go_wp2
        exact ⟨rfl, HCx.out.quiet 11 rfl⟩
      · intro L wx vals hi hu hcl hC
        simp [predL, predE, Region.binds, UpL] at hu
        have e7 : vals 7 = .int .i64 t0 := hC.v 7 (by simp [hu])
        have e11 : vals 11 = .int .i64 tr := hC.v 11 (by simp [hu])
        have HCx := Lib.hid hC
        clear hC hcl hu hi
        simp only [fillA, if_true, Act.put]
        simp
        simp only [e7, e11]
        clear e7 e11
        go_wp2
        exact ⟨rfl, HCx.out.quiet 12 rfl⟩
    · intro wz vals U hC hall
      have e12 : vals 12 = .bool false := hC.v 12 (hall 12 (by simp))
      obtain ⟨vL, g, c, w2, ka, hrun1, ⟨k3, z3⟩, hSg, ⟨d0, z0⟩, k4, hR, hCh⟩ := HM.out wz ((Below.refl _ w).drew.trans hC.b)
      have HF := Lib.hid (And.intro hR hCh)
      simp only [fillA, if_true, Act.put]
      simp
      simp only [e12]
      clear hC hall e12 HC4 HM hR hCh
      generalize vals 0 = t_0 at *
      generalize vals 1 = t_1 at *
      generalize vals 2 = t_2 at *
      generalize vals 3 = t_3 at *
      generalize vals 4 = t_4 at *
      generalize vals 5 = t_5 at *
      generalize vals 6 = t_6 at *
      generalize vals 7 = t_7 at *
      generalize vals 8 = t_8 at *
      generalize vals 9 = t_9 at *
      generalize vals 10 = t_10 at *
      generalize vals 11 = t_11 at *
      go_wp2_with (at_builtin; refine wpList_append_run rfl (.tmp 26) (.tmp 30) 39 rfl rfl rfl hrun1 ?_)
      go_ret2
      first | exact ⟨rfl, HF.out⟩ | exact ⟨(), rfl, HF.out⟩
/-! ### Exhausted -/
set_option maxRecDepth 100000 in
set_option maxHeartbeats 8000000 in
theorem rsexh_any {S : Nat} {s : SnS} {T : Nat → Prop} {w : World} (hn : s.l.length ≤ 99999) (h : RsP S s T w) : Calls Try.prog 19 #[.pointer (some ⟨S, 0, none⟩)] w (GotLs csN 3 38 (snExh s) w) := by
  obtain ⟨h0, h1, h2, vL, h3, h4⟩ := h
  have d3 := h3.read 3
  have d1 := h3.read 1
  simp [snC] at d3 d1
  have hSw := h1 S h2
  have HL := Lib.hid (fun k (hk : k < s.l.length) => h4.sn hk)
  obtain ⟨A, c, rfl, hcl, _⟩ := h4.shape
  clear h0 h1 h2 h3 h4
  unfold GotLs snExh
  obtain ⟨s1, tr, s3, l⟩ := s
  simp only at hn d3 d1 HL hcl ⊢
  have HY := Lib.hid (fun k (hk : k < l.length) (h : tr ≤ l[k].t) => filter_yes (fun x : SnE => decide (tr ≤ x.t)) l hk (by simpa using h))
  have HNO := Lib.hid (fun k (hk : k < l.length) (h : ¬ tr ≤ l[k].t) => filter_no (fun x : SnE => decide (tr ≤ x.t)) l hk (by simpa using h))
  obtain ⟨n, hN⟩ : ∃ n, l.length = n := ⟨_, rfl⟩
  have HN := Lib.hid hN
  rw [hN] at d3
  have hnn : n ≤ 99999 := by omega
  clear hN hn hcl
  have HCC := Lib.hid (And.intro d3 d1)
  go_enter Try.func19, Try.ntmps19
  go_wp2_with fail
  go_loopw [3, 4] (fun s3 s4 wr => ∃ (k m : Nat) (A1 : Option Addr) (c1 : Nat), k ≤ n ∧ m ≤ k ∧ s4 = .int .i64 k ∧ s3 = .slice A1 m c1 ∧ Hid (((l.take k).filter (fun x => decide (tr ≤ x.t))).length = m) ∧ Hid (wr.ownsRow w.heap.size 38 3 (.slice A1 m c1) m (srs csN ((l.take k).filter (fun x => decide (tr ≤ x.t))))) ∧ Hid (Below w.heap.size w wr)) (fun _ s4 _ => n - (intOf s4).toNat)
  case atStart => exact ⟨0, 0, none, 0, Nat.zero_le _, Nat.le_refl _, rfl, rfl, Lib.hid (by simp), Lib.hid (show w.ownsRow w.heap.size 38 3 (.slice none 0 0) 0 (srs csN []) from World.ownsRow_nil _ _ _ _), Lib.hid (Below.refl _ _)⟩
  case round =>
    obtain ⟨k, m, A1, c1, hk, hmk, rfl, rfl, HM, HROW, HW⟩ := hrel
    have dd3 := (HW.out.cell (p := ⟨S, 3, none⟩) hSw).trans HCC.out.1
    by_cases hlt : k < n
    · have hlt' : (k : Int) < n := by omega
      have hk0 : (0 : Int) ≤ k := by omega
      have hkl : k < l.length := by have := HN.out; omega
      obtain ⟨b, off, c', e1, hlc, _, hbw, q0, q1, q2⟩ := HL.out k hkl
      obtain ⟨rfl, rfl⟩ : A = some ⟨b, off, none⟩ ∧ c = c' := by simpa using e1
      have HC5 := Lib.hid (fun (W : World) (hw : Below wr.drew.heap.size wr.drew W) => And.intro (((HW.out.trans (((Below.refl _ wr).drew.trans hw).mono HW.out.size)).cell (p := ⟨b, off + k * 3, none⟩) hbw).trans q0) (And.intro (((HW.out.trans (((Below.refl _ wr).drew.trans hw).mono HW.out.size)).cell (p := ⟨b, off + k * 3 + 1, none⟩) hbw).trans q1) (And.intro (((HW.out.trans (((Below.refl _ wr).drew.trans hw).mono HW.out.size)).cell (p := ⟨b, off + k * 3 + 2, none⟩) hbw).trans q2) (((HW.out.trans (((Below.refl _ wr).drew.trans hw).mono HW.out.size)).cell (p := ⟨S, 3, none⟩) hSw).trans HCC.out.1))))
      have HC4 := Lib.hid (fun (W : World) (hw : Below wr.drew.heap.size wr.drew W) => And.intro (((HW.out.trans (((Below.refl _ wr).drew.trans hw).mono HW.out.size)).cell (p := ⟨S, 3, none⟩) hSw).trans HCC.out.1) (And.intro (((HW.out.trans (((Below.refl _ wr).drew.trans hw).mono HW.out.size)).cell (p := ⟨b, off + k * 3 + 2, none⟩) hbw).trans q2) (((HW.out.trans (((Below.refl _ wr).drew.trans hw).mono HW.out.size)).cell (p := ⟨S, 1, none⟩) hSw).trans HCC.out.2)))
      have hY := HY.out k hkl
      have hNO := HNO.out k hkl
      generalize l[k] = x at *
      obtain ⟨q0, i0, t0⟩ := x
      simp only at hY hNO HC4 HC5
      clear q0 q1 q2 HL e1 HY HNO HCC d3 d1 hlc
      by_cases htt : tr ≤ t0
      · have HNX := Lib.hid (hY htt)
        clear hY hNO
        go_wp2_with fail
        refine wp_region_looseS 38 (by kernel_rfl) (by kernel_rfl) (StB wr.drew (fun vI => [.pointer (some ⟨S, 0, none⟩), .pointer (some ⟨S, 0, none⟩), .pointer (some ⟨S, 3, none⟩), .slice (some ⟨b, off, none⟩) n c, .int .i64 (k : Nat), .pointer (some ⟨b, off + k * 3, none⟩), .pointer (some ⟨b, off + k * 3 + 2, none⟩), .int .i64 t0, .pointer (some ⟨S, 0, none⟩), .pointer (some ⟨S, 0, none⟩), .pointer (some ⟨S, 1, none⟩), .int .i64 tr, .bool true].getD vI undef)) rfl StB.start ?_ ?_
        · simp only [OblAllS]
          refine ⟨?_, ?_, ?_, ?_, ?_, ?_, ?_, ?_, ?_, ?_, ?_, ?_, ?_, trivial⟩
          · intro L wx vals hi hu hcl hC
            have HCx := Lib.hid hC
            clear hC hcl hu hi
            simp only [fillA, if_true, Act.put]
            simp
            go_wp2
            exact ⟨rfl, HCx.out.quiet 0 rfl⟩
          · intro L wx vals hi hu hcl hC
            simp [predL, predE, Region.binds, UpL] at hu
            have e0 : vals 0 = .pointer (some ⟨S, 0, none⟩) := hC.v 0 (by simp [hu])
            have HCx := Lib.hid hC
            clear hC hcl hu hi
            simp only [fillA, if_true, Act.put]
            simp
            simp only [e0]
            clear e0
            go_wp2
            exact ⟨rfl, HCx.out.quiet 1 rfl⟩
          · intro L wx vals hi hu hcl hC
            simp [predL, predE, Region.binds, UpL] at hu
            have e1 : vals 1 = .pointer (some ⟨S, 0, none⟩) := hC.v 1 (by simp [hu])
            have HCx := Lib.hid hC
            clear hC hcl hu hi
            simp only [fillA, if_true, Act.put]
            simp
            simp only [e1]
            clear e1
            go_wp2
            exact ⟨rfl, HCx.out.quiet 2 rfl⟩
          · intro L wx vals hi hu hcl hC
            simp [predL, predE, Region.binds, UpL] at hu
            have e2 : vals 2 = .pointer (some ⟨S, 3, none⟩) := hC.v 2 (by simp [hu])
            have h0 := (HC4.out wx hC.b).1
            have HCx := Lib.hid hC
            clear hC hcl hu hi
            simp only [fillA, if_true, Act.put]
            simp
            simp only [e2]
            clear e2
            go_wp2
            exact ⟨rfl, HCx.out.quiet 3 rfl⟩
          · intro L wx vals hi hu hcl hC
            have HCx := Lib.hid hC
            clear hC hcl hu hi
            simp only [fillA, if_true, Act.put]
            simp
            go_wp2
            exact ⟨rfl, HCx.out.quiet 4 rfl⟩
          · intro L wx vals hi hu hcl hC
            simp [predL, predE, Region.binds, UpL] at hu
            have e3 : vals 3 = .slice (some ⟨b, off, none⟩) n c := hC.v 3 (by simp [hu])
            have e4 : vals 4 = .int .i64 (k : Nat) := hC.v 4 (by simp [hu])
            have HCx := Lib.hid hC
            clear hC hcl hu hi
            simp only [fillA, if_true, Act.put]
            simp
            simp only [e3, e4]
            clear e3 e4
            go_wp2
            exact ⟨rfl, HCx.out.quiet 5 rfl⟩
          · intro L wx vals hi hu hcl hC
            simp [predL, predE, Region.binds, UpL] at hu
            have e5 : vals 5 = .pointer (some ⟨b, off + k * 3, none⟩) := hC.v 5 (by simp [hu])
            have HCx := Lib.hid hC
            clear hC hcl hu hi
            simp only [fillA, if_true, Act.put]
            simp
            simp only [e5]
            clear e5
            go_wp2
            exact ⟨rfl, HCx.out.quiet 6 rfl⟩
          · intro L wx vals hi hu hcl hC
            simp [predL, predE, Region.binds, UpL] at hu
            have e6 : vals 6 = .pointer (some ⟨b, off + k * 3 + 2, none⟩) := hC.v 6 (by simp [hu])
            have h0 := (HC4.out wx hC.b).2.1
            have HCx := Lib.hid hC
            clear hC hcl hu hi
            simp only [fillA, if_true, Act.put]
            simp
            simp only [e6]
            clear e6
            go_wp2
            exact ⟨rfl, HCx.out.quiet 7 rfl⟩
          · intro L wx vals hi hu hcl hC
            have HCx := Lib.hid hC
            clear hC hcl hu hi
            simp only [fillA, if_true, Act.put]
            simp
            go_wp2
            exact ⟨rfl, HCx.out.quiet 8 rfl⟩
          · intro L wx vals hi hu hcl hC
            simp [predL, predE, Region.binds, UpL] at hu
            have e8 : vals 8 = .pointer (some ⟨S, 0, none⟩) := hC.v 8 (by simp [hu])
            have HCx := Lib.hid hC
            clear hC hcl hu hi
            simp only [fillA, if_true, Act.put]
            simp
            simp only [e8]
            clear e8
            go_wp2
            exact ⟨rfl, HCx.out.quiet 9 rfl⟩
          · intro L wx vals hi hu hcl hC
            simp [predL, predE, Region.binds, UpL] at hu
            have e9 : vals 9 = .pointer (some ⟨S, 0, none⟩) := hC.v 9 (by simp [hu])
            have HCx := Lib.hid hC
            clear hC hcl hu hi
            simp only [fillA, if_true, Act.put]
            simp
            simp only [e9]
            clear e9
            go_wp2
            exact ⟨rfl, HCx.out.quiet 10 rfl⟩
          · intro L wx vals hi hu hcl hC
            simp [predL, predE, Region.binds, UpL] at hu
            have e10 : vals 10 = .pointer (some ⟨S, 1, none⟩) := hC.v 10 (by simp [hu])
            have h0 := (HC4.out wx hC.b).2.2
            have HCx := Lib.hid hC
            clear hC hcl hu hi
            simp only [fillA, if_true, Act.put]
            simp
            simp only [e10]
            clear e10
            go_wp2
            exact ⟨rfl, HCx.out.quiet 11 rfl⟩
          · intro L wx vals hi hu hcl hC
            simp [predL, predE, Region.binds, UpL] at hu
            have e7 : vals 7 = .int .i64 t0 := hC.v 7 (by simp [hu])
            have e11 : vals 11 = .int .i64 tr := hC.v 11 (by simp [hu])
            have HCx := Lib.hid hC
            clear hC hcl hu hi
            simp only [fillA, if_true, Act.put]
            simp
            simp only [e7, e11]
            clear e7 e11
            go_wp2
            exact ⟨rfl, HCx.out.quiet 12 rfl⟩
        · intro wz vals U hC hall
          have e12 : vals 12 = .bool true := hC.v 12 (hall 12 (by simp))
          have HB := Lib.hid (HW.out.trans (((Below.refl _ wr).drew.trans hC.b).mono HW.out.size))
          have HR := Lib.hid (row_from HROW.out ((Below.refl _ wr).drew.trans hC.b))
          obtain ⟨r0, r1, r2, c3⟩ := HC5.out wz hC.b
          simp only [fillA, if_true, Act.put]
          simp
          simp only [e12]
          clear hC hall e12 HC4 HC5 HROW HW
          generalize vals 0 = t_0 at *
          generalize vals 1 = t_1 at *
          generalize vals 2 = t_2 at *
          generalize vals 3 = t_3 at *
          generalize vals 4 = t_4 at *
          generalize vals 5 = t_5 at *
          generalize vals 6 = t_6 at *
          generalize vals 7 = t_7 at *
          generalize vals 8 = t_8 at *
          generalize vals 9 = t_9 at *
          generalize vals 10 = t_10 at *
          generalize vals 11 = t_11 at *
          obtain ⟨A2, c2, w2, hrun, hv2, hb2⟩ := snElt.app_new ⟨q0, i0, t0⟩ HR.out (by omega) HB.out.size
          have HB2 := Lib.hid (HB.out.trans hb2)
          have HR2 := Lib.hid (show w2.ownsRow w.heap.size 38 3 (.slice A2 (m + 1) c2) (m + 1) (srs csN ((l.take (k + 1)).filter (fun x => decide (tr ≤ x.t)))) from by rw [HNX.out]; exact hv2)
          have HLN := Lib.hid (show ((l.take (k + 1)).filter (fun x => decide (tr ≤ x.t))).length = m + 1 by rw [HNX.out, List.length_append, HM.out]; rfl)
          unfold csN at hrun
          clear hv2 hb2 HB HR
          go_wp2_with (at_builtin; refine wpList_append_run rfl (.tmp 27) (.tmp 35) 39 rfl rfl rfl hrun ?_)
          go_roundw
          case rel => exact ⟨k + 1, m + 1, A2, c2, by omega, by omega, by go_num, rfl, HLN, HR2, HB2⟩
          case measure => simp [intOf]; omega
      · have HNX := Lib.hid (hNO (by first | exact htt | omega))
        have htt' : t0 < tr := by omega
        have hdec : decide (tr ≤ t0) = false := by simp; omega
        clear hY hNO htt
        go_wp2_with fail
        refine wp_region_looseS 38 (by kernel_rfl) (by kernel_rfl) (StB wr.drew (fun vI => [.pointer (some ⟨S, 0, none⟩), .pointer (some ⟨S, 0, none⟩), .pointer (some ⟨S, 3, none⟩), .slice (some ⟨b, off, none⟩) n c, .int .i64 (k : Nat), .pointer (some ⟨b, off + k * 3, none⟩), .pointer (some ⟨b, off + k * 3 + 2, none⟩), .int .i64 t0, .pointer (some ⟨S, 0, none⟩), .pointer (some ⟨S, 0, none⟩), .pointer (some ⟨S, 1, none⟩), .int .i64 tr, .bool false].getD vI undef)) rfl StB.start ?_ ?_
        · simp only [OblAllS]
          refine ⟨?_, ?_, ?_, ?_, ?_, ?_, ?_, ?_, ?_, ?_, ?_, ?_, ?_, trivial⟩
          · intro L wx vals hi hu hcl hC
            have HCx := Lib.hid hC
            clear hC hcl hu hi
            simp only [fillA, if_true, Act.put]
            simp
            go_wp2
            exact ⟨rfl, HCx.out.quiet 0 rfl⟩
          · intro L wx vals hi hu hcl hC
            simp [predL, predE, Region.binds, UpL] at hu
            have e0 : vals 0 = .pointer (some ⟨S, 0, none⟩) := hC.v 0 (by simp [hu])
            have HCx := Lib.hid hC
            clear hC hcl hu hi
            simp only [fillA, if_true, Act.put]
            simp
            simp only [e0]
            clear e0
            go_wp2
            exact ⟨rfl, HCx.out.quiet 1 rfl⟩
          · intro L wx vals hi hu hcl hC
            simp [predL, predE, Region.binds, UpL] at hu
            have e1 : vals 1 = .pointer (some ⟨S, 0, none⟩) := hC.v 1 (by simp [hu])
            have HCx := Lib.hid hC
            clear hC hcl hu hi
            simp only [fillA, if_true, Act.put]
            simp
            simp only [e1]
            clear e1
            go_wp2
            exact ⟨rfl, HCx.out.quiet 2 rfl⟩
          · intro L wx vals hi hu hcl hC
            simp [predL, predE, Region.binds, UpL] at hu
            have e2 : vals 2 = .pointer (some ⟨S, 3, none⟩) := hC.v 2 (by simp [hu])
            have h0 := (HC4.out wx hC.b).1
            have HCx := Lib.hid hC
            clear hC hcl hu hi
            simp only [fillA, if_true, Act.put]
            simp
            simp only [e2]
            clear e2
            go_wp2
            exact ⟨rfl, HCx.out.quiet 3 rfl⟩
          · intro L wx vals hi hu hcl hC
            have HCx := Lib.hid hC
            clear hC hcl hu hi
            simp only [fillA, if_true, Act.put]
            simp
            go_wp2
            exact ⟨rfl, HCx.out.quiet 4 rfl⟩
          · intro L wx vals hi hu hcl hC
            simp [predL, predE, Region.binds, UpL] at hu
            have e3 : vals 3 = .slice (some ⟨b, off, none⟩) n c := hC.v 3 (by simp [hu])
            have e4 : vals 4 = .int .i64 (k : Nat) := hC.v 4 (by simp [hu])
            have HCx := Lib.hid hC
            clear hC hcl hu hi
            simp only [fillA, if_true, Act.put]
            simp
            simp only [e3, e4]
            clear e3 e4
            go_wp2
            exact ⟨rfl, HCx.out.quiet 5 rfl⟩
          · intro L wx vals hi hu hcl hC
            simp [predL, predE, Region.binds, UpL] at hu
            have e5 : vals 5 = .pointer (some ⟨b, off + k * 3, none⟩) := hC.v 5 (by simp [hu])
            have HCx := Lib.hid hC
            clear hC hcl hu hi
            simp only [fillA, if_true, Act.put]
            simp
            simp only [e5]
            clear e5
            go_wp2
            exact ⟨rfl, HCx.out.quiet 6 rfl⟩
          · intro L wx vals hi hu hcl hC
            simp [predL, predE, Region.binds, UpL] at hu
            have e6 : vals 6 = .pointer (some ⟨b, off + k * 3 + 2, none⟩) := hC.v 6 (by simp [hu])
            have h0 := (HC4.out wx hC.b).2.1
            have HCx := Lib.hid hC
            clear hC hcl hu hi
            simp only [fillA, if_true, Act.put]
            simp
            simp only [e6]
            clear e6
            go_wp2
            exact ⟨rfl, HCx.out.quiet 7 rfl⟩
          · intro L wx vals hi hu hcl hC
            have HCx := Lib.hid hC
            clear hC hcl hu hi
            simp only [fillA, if_true, Act.put]
            simp
            go_wp2
            exact ⟨rfl, HCx.out.quiet 8 rfl⟩
          · intro L wx vals hi hu hcl hC
            simp [predL, predE, Region.binds, UpL] at hu
            have e8 : vals 8 = .pointer (some ⟨S, 0, none⟩) := hC.v 8 (by simp [hu])
            have HCx := Lib.hid hC
            clear hC hcl hu hi
            simp only [fillA, if_true, Act.put]
            simp
            simp only [e8]
            clear e8
            go_wp2
            exact ⟨rfl, HCx.out.quiet 9 rfl⟩
          · intro L wx vals hi hu hcl hC
            simp [predL, predE, Region.binds, UpL] at hu
            have e9 : vals 9 = .pointer (some ⟨S, 0, none⟩) := hC.v 9 (by simp [hu])
            have HCx := Lib.hid hC
            clear hC hcl hu hi
            simp only [fillA, if_true, Act.put]
            simp
            simp only [e9]
            clear e9
            go_wp2
            exact ⟨rfl, HCx.out.quiet 10 rfl⟩
          · intro L wx vals hi hu hcl hC
            simp [predL, predE, Region.binds, UpL] at hu
            have e10 : vals 10 = .pointer (some ⟨S, 1, none⟩) := hC.v 10 (by simp [hu])
            have h0 := (HC4.out wx hC.b).2.2
            have HCx := Lib.hid hC
            clear hC hcl hu hi
            simp only [fillA, if_true, Act.put]
            simp
            simp only [e10]
            clear e10
            go_wp2
            exact ⟨rfl, HCx.out.quiet 11 rfl⟩
          · intro L wx vals hi hu hcl hC
            simp [predL, predE, Region.binds, UpL] at hu
            have e7 : vals 7 = .int .i64 t0 := hC.v 7 (by simp [hu])
            have e11 : vals 11 = .int .i64 tr := hC.v 11 (by simp [hu])
            have HCx := Lib.hid hC
            clear hC hcl hu hi
            simp only [fillA, if_true, Act.put]
            simp
            simp only [e7, e11]
            clear e7 e11
            go_wp2
            exact ⟨rfl, HCx.out.quiet 12 rfl⟩
        · intro wz vals U hC hall
          have e12 : vals 12 = .bool false := hC.v 12 (hall 12 (by simp))
          have HB := Lib.hid (HW.out.trans (((Below.refl _ wr).drew.trans hC.b).mono HW.out.size))
          have HR := Lib.hid (row_from HROW.out ((Below.refl _ wr).drew.trans hC.b))
          obtain ⟨r0, r1, r2, c3⟩ := HC5.out wz hC.b
          simp only [fillA, if_true, Act.put]
          simp
          simp only [e12]
          clear hC hall e12 HC4 HC5 HROW HW
          generalize vals 0 = t_0 at *
          generalize vals 1 = t_1 at *
          generalize vals 2 = t_2 at *
          generalize vals 3 = t_3 at *
          generalize vals 4 = t_4 at *
          generalize vals 5 = t_5 at *
          generalize vals 6 = t_6 at *
          generalize vals 7 = t_7 at *
          generalize vals 8 = t_8 at *
          generalize vals 9 = t_9 at *
          generalize vals 10 = t_10 at *
          generalize vals 11 = t_11 at *
          have HR2 := Lib.hid (show wz.ownsRow w.heap.size 38 3 (.slice A1 m c1) m (srs csN ((l.take (k + 1)).filter (fun x => decide (tr ≤ x.t)))) from by rw [HNX.out]; exact HR.out)
          have HLN := Lib.hid (show ((l.take (k + 1)).filter (fun x => decide (tr ≤ x.t))).length = m by rw [HNX.out, HM.out])
          clear r0 r1 r2 c3 HR
          go_wp2
          go_roundw
          case rel => exact ⟨k + 1, m, A1, c1, by omega, by omega, by go_num, rfl, HLN, HR2, HB⟩
          case measure => simp [intOf]; omega
    · obtain rfl : k = n := by omega
      have HF := Lib.hid (show ∃ v, Ending.returned (.slice A1 m c1) = .returned v ∧ LsG csN 3 38 wr (fun b => w.heap.size ≤ b ∧ b < wr.heap.size) v (l.filter (fun x => decide (tr ≤ x.t))) ∧ Below w.heap.size w wr from ⟨_, rfl, by
        have h9 := snElt.row_ls HROW.out HM.out.symm
        rw [List.take_of_length_le (by rw [HN.out]; exact Nat.le_refl _)] at h9
        exact h9, HW.out⟩)
      clear HROW HM HW HL HY HNO
      go_wp2
      go_ret
      exact HF.out
end Go.Proofs.Ytglhaclehdkagaa

