/-
  Layer 16: contracts of the program's Assign, Send, Drop. Written by gen_snp2.py.
-/
import Derived.Test.YtglhaclehdkagaaSnP1
import Derived.Test.YtglhaclehdkagaaAt
import Derived.Laws.OwnMore
namespace Go.Proofs.Ytglhaclehdkagaa
open Go.ChangeShapes Go.WideShapes Go.ChangeAt Go.RowKit
set_option linter.unusedVariables false

/-- The blocks of a sender whose list has been turned: the struct and the list lie apart. -/
theorem sn_apart {R k : Nat} {w : World} {cs : Array Value} {v : Value} {n : Nat} {xs : List Value} (h3 : Whole w R 56 cs) (h4 : w.ownsRow 0 38 3 v n xs) (e : v.ownBlock = some k) : k ≠ R := by
  intro hk
  subst hk
  obtain ⟨cur, hcur⟩ := ow_type h4 e
  have h6 : some (Obj.cells cur 38 (0, 0)) = some (Obj.cells cs 56 (0, 0)) := Eq.trans (Eq.symm hcur) h3
  simp at h6
/-- The list's field is written, and the list is s2's. -/
theorem sn_put {R : Nat} {s s2 : SnS} {T : Nat → Prop} {w w3 : World} {vL v : Value} {x : Int} (h0 : SnIv s2) (hT : ∀ k, T k → k < w.heap.size) (h2 : T R) (hch : Chg T w w3) (h3 : Whole w3 R 56 (snC s vL)) (hv : w3.ownsRow 0 38 3 v s2.l.length (srs csN s2.l))
    (hb : ∀ k, v.ownBlock = some k → T k ∨ w.heap.size ≤ k) (hw : s2.w = s.w) (ht : s2.t = s.t) (hx : s2.nx = x) :
    (∃ T', SnP R s2 T' ((w3.setCell ⟨R, 3, none⟩ v).setCell ⟨R, 2, none⟩ (.int .i64 x)) ∧ ∀ j, T' j → T j ∨ w.heap.size ≤ j) ∧ Chg T w ((w3.setCell ⟨R, 3, none⟩ v).setCell ⟨R, 2, none⟩ (.int .i64 x)) := by
  refine ⟨⟨fun k => (T k ∨ w.heap.size ≤ k) ∧ k < w3.heap.size, ⟨h0, fun k hk => by simpa [World.setCell] using hk.2, ⟨.inl h2, h3.size_lt⟩, v, ?_, ?_, fun b e => ⟨hb b e, (own_lt hv e).2⟩⟩, fun j hj => hj.1⟩, (hch.setCell h2 3 _).setCell h2 2 _⟩
  · have e : snC s2 v = #[.int .i64 s.w, .int .i64 s.t, .int .i64 x, v] := by unfold snC; rw [hw, ht, hx]
    rw [e]
    exact (h3.put 3 v).put 2 (.int .i64 x)
  · exact owk hv fun k e => by
      have hne := sn_apart h3 hv e
      rw [Below.heap_setCell _ _ _ _ (by simpa using hne), Below.heap_setCell _ _ _ _ (by simpa using hne)]
theorem sn_put3 {R : Nat} {s s2 : SnS} {T : Nat → Prop} {w w3 : World} {vL v : Value} (h0 : SnIv s2) (hT : ∀ k, T k → k < w.heap.size) (h2 : T R) (hch : Chg T w w3) (h3 : Whole w3 R 56 (snC s vL)) (hv : w3.ownsRow 0 38 3 v s2.l.length (srs csN s2.l))
    (hb : ∀ k, v.ownBlock = some k → T k ∨ w.heap.size ≤ k) (hw : s2.w = s.w) (ht : s2.t = s.t) (hx : s2.nx = s.nx) :
    (∃ T', SnP R s2 T' (w3.setCell ⟨R, 3, none⟩ v) ∧ ∀ j, T' j → T j ∨ w.heap.size ≤ j) ∧ Chg T w (w3.setCell ⟨R, 3, none⟩ v) := by
  refine ⟨⟨fun k => (T k ∨ w.heap.size ≤ k) ∧ k < w3.heap.size, ⟨h0, fun k hk => by simpa [World.setCell] using hk.2, ⟨.inl h2, h3.size_lt⟩, v, ?_, ?_, fun b e => ⟨hb b e, (own_lt hv e).2⟩⟩, fun j hj => hj.1⟩, hch.setCell h2 3 _⟩
  · have e : snC s2 v = #[.int .i64 s.w, .int .i64 s.t, .int .i64 s.nx, v] := by unfold snC; rw [hw, ht, hx]
    rw [e]
    exact h3.put 3 v
  · exact owk hv fun k e => by
      have hne := sn_apart h3 hv e
      rw [Below.heap_setCell _ _ _ _ (by simpa using hne)]
/-! ### Assign -/
theorem psasg_mem {R : Nat} {s : SnS} {id : Int} {T : Nat → Prop} {w w1 : World} (hn : s.l.length ≤ 99999) (hP : SnP R s T w) (hb : Below w.heap.size w w1) (hE : snAsE s id = 0) :
    ∃ vL A c w3, w1.cell? ⟨R, 2, none⟩ = some (.int .i64 s.nx) ∧ w1.cell? ⟨R, 3, none⟩ = some vL ∧
      (Builtin.append_ #[39, 39] 39 #[vL, .slice (some ⟨w1.heap.size, 0, none⟩) 1 1]).run Try.prog (w1.alloc (.cells #[.int .i64 s.nx, .int .i64 id, .int .i64 0] 38)) = .ok (.slice A (s.l.length + 1) c) w3 ∧
      ((w3.cell? ⟨R, 3, none⟩ = some vL ∧ w3.cell? ⟨R, 2, none⟩ = some (.int .i64 s.nx)) ∧ w3.frozen? ⟨R, 3, none⟩ = false ∧ w3.frozen? ⟨R, 2, none⟩ = false) ∧
      (∃ T', SnP R (s.asg id) T' ((w3.setCell ⟨R, 3, none⟩ (.slice A (s.l.length + 1) c)).setCell ⟨R, 2, none⟩ (.int .i64 ((s.nx + 1) % 65536))) ∧ ∀ j, T' j → T j ∨ w.heap.size ≤ j) ∧ Chg T w ((w3.setCell ⟨R, 3, none⟩ (.slice A (s.l.length + 1) c)).setCell ⟨R, 2, none⟩ (.int .i64 ((s.nx + 1) % 65536))) := by
  have hok := hP.1.asg id
  have hTw : ∀ k, T k → k < w.heap.size := hP.2.1
  obtain ⟨h0, h1, h2, vL, h3, h4, h5⟩ := hP.later hb
  obtain ⟨A, c, w3, hrun, hv, hb3, hk3, hwh⟩ := snElt.app_new3 ⟨s.nx, id, 0⟩ h4 (by omega) (Nat.zero_le _)
  have hR3 : w3.heap[R]? = w1.heap[R]? := hk3 R (h1 R h2) fun e => sn_apart h3 h4 e rfl
  have hS3 := h3.carry hR3
  have k3 := hS3.read 3
  have k2 := hS3.read 2
  have d2 := h3.read 2
  have d3 := h3.read 3
  simp [snC] at k3 k2 d2 d3
  have hch : Chg T w w3 := (Chg.of_below (S := T) hb).join ⟨hb3.os, hb3.tape, hb3.output, hb3.size, fun k hk hnT => hk3 k hk fun e => hnT (h5 k e)⟩ (fun k hk => .inl hk)
  have e1 : (s.asg id).l = s.l ++ [⟨s.nx, id, 0⟩] := by unfold SnS.asg; rw [if_pos hE]
  have e2 : (s.asg id).w = s.w := by unfold SnS.asg; rw [if_pos hE]
  have e3 : (s.asg id).t = s.t := by unfold SnS.asg; rw [if_pos hE]
  have e4 : (s.asg id).nx = (s.nx + 1) % 65536 := by unfold SnS.asg; rw [if_pos hE]
  have hv' : w3.ownsRow 0 38 3 (.slice A (s.l.length + 1) c) (s.asg id).l.length (srs csN (s.asg id).l) := by rw [e1, List.length_append]; exact hv
  exact ⟨vL, A, c, w3, d2, d3, hrun, ⟨⟨k3, k2⟩, hS3.free 3, hS3.free 2⟩, sn_put hok hTw h2 hch hS3 hv' (fun k e => by
    rcases hwh with h | ⟨g, h, hg⟩
    · rw [h] at e; exact .inl (h5 k e)
    · rw [h] at e
      have : g = k := by simpa using e
      have := hb.size
      exact .inr (by omega)) e2 e3 e4⟩
set_option maxRecDepth 100000 in
set_option maxHeartbeats 4000000 in
theorem psasg_any {R : Nat} {s : SnS} (hn : s.l.length ≤ 9999) {base : Nat} (id : Int) : Acts 23 #[.pointer (some ⟨R, 0, none⟩), .int .i64 id] base (SnP R s) (fun _ : Unit => .tuple #[.int .i64 (snAsV s id), .int .i64 (snAsE s id)]) fun _ => SnP R (s.asg id) := by
  intro T w hP hb hs
  have HO := Lib.hid (psopen_any hP)
  by_cases h1 : id < 1
  · have hE : snAsE s id = 1 := by unfold snAsE; rw [if_pos h1]
    have hV : snAsV s id = 0 := by unfold snAsV; rw [hE, if_neg (by omega)]
    have hA : s.asg id = s := by unfold SnS.asg; rw [hE, if_neg (by omega)]
    rw [hE, hV, hA]
    have HF := Lib.hid (show (∃ T', SnP R s T' w ∧ ∀ j, T' j → T j ∨ w.heap.size ≤ j) ∧ Chg T w w from ⟨⟨T, hP, fun k hk => .inl hk⟩, Chg.refl _ _⟩)
    clear hP hb hs hE hV hA HO
    go_enter Try.func23, Try.ntmps23
    go_wp2
    go_ret2
    first | exact ⟨rfl, HF.out⟩ | exact ⟨(), rfl, HF.out⟩
  have h1' : 1 ≤ id := by omega
  unfold Calm at HO
  cases hop : snOpen s
  · have hE : snAsE s id = 4 := by unfold snAsE; rw [if_neg h1, hop]; rfl
    have hV : snAsV s id = 0 := by unfold snAsV; rw [hE, if_neg (by omega)]
    have hA : s.asg id = s := by unfold SnS.asg; rw [hE, if_neg (by omega)]
    rw [hE, hV, hA]
    rw [hop] at HO
    have HF := Lib.hid (fun (W : World) (hw : Below w.heap.size w W) => show (∃ T', SnP R s T' W ∧ ∀ j, T' j → T j ∨ w.heap.size ≤ j) ∧ Chg T w W from ⟨⟨T, hP.later hw, fun k hk => .inl hk⟩, Chg.of_below hw⟩)
    clear hP hb hs hE hV hA hop h1
    go_enter Try.func23, Try.ntmps23
    go_wp2_with fail
    (with_reducible refine HO.out.mono ?_); rintro e w1 ⟨rfl, hb1⟩
    have HF2 := Lib.hid (HF.out w1 hb1)
    clear hb1 HF HO
    go_wp2
    go_ret2
    first | exact ⟨rfl, HF2.out⟩ | exact ⟨(), rfl, HF2.out⟩
  · have hE : snAsE s id = 0 := by unfold snAsE; rw [if_neg h1, hop]; rfl
    have hV : snAsV s id = s.nx := by unfold snAsV; rw [hE, if_pos rfl]
    rw [hV, hE]
    rw [hop] at HO
    have hnx := hP.1.ok.nx
    have HM := Lib.hid (fun (W : World) (hw : Below w.heap.size w W) => psasg_mem (by omega) hP hw hE)
    have hny := nx_yes (isNum_yes hnx.1 hnx.2) (n := 1) (by omega) (by omega)
    have HN := Lib.hid (fun (W : World) => next6_any s.nx 1 W)
    rw [hny.1, hny.2] at HN
    obtain ⟨r, hr⟩ : ∃ r, (s.nx + 1) % 65536 = r := ⟨_, rfl⟩
    rw [hr] at HN HM
    clear hP hb hs hE hV hop h1 hr hny hnx
    generalize s.l.length = n at *
    generalize s.nx = nx at *
    go_enter Try.func23, Try.ntmps23
    go_wp2_with fail
    (with_reducible refine HO.out.mono ?_); rintro e w1 ⟨rfl, hb1⟩
    obtain ⟨vL, A, c, w3, d2, d3, hrun, ⟨⟨k3, k2⟩, z3, z2⟩, hR, hC⟩ := HM.out w1 hb1
    have HF := Lib.hid (And.intro hR hC)
    clear hR hC HM HO hb1
    go_wp2_with (at_builtin; refine wpList_append_run rfl (.tmp 20) (.tmp 24) 39 rfl rfl rfl hrun ?_)
    (with_reducible refine (HN.out _).mono ?_); rintro e w4 ⟨rfl, rfl⟩
    clear HN
    go_wp2
    go_ret2
    first | exact ⟨rfl, HF.out⟩ | exact ⟨(), rfl, HF.out⟩
/-! ### Send -/
theorem pssnd_mem {R : Nat} {s : SnS} {q : Int} {T : Nat → Prop} {w w1 : World} (hP : SnP R s T w) (hb : Below w.heap.size w w1) (hk : snK s.l q < s.l.length) :
    ∃ g c, R ≠ g ∧ w1.cell? ⟨R, 3, none⟩ = some (.slice (some ⟨g, 0, none⟩) s.l.length c) ∧ w1.cell? ⟨g, snK s.l q * 3, none⟩ = some (.int .i64 s.l[snK s.l q].q) ∧ w1.cell? ⟨g, snK s.l q * 3 + 1, none⟩ = some (.int .i64 (snId s.l q)) ∧ w1.cell? ⟨g, snK s.l q * 3 + 2, none⟩ = some (.int .i64 (snTr s.l q)) ∧
      w1.frozen? ⟨g, snK s.l q * 3 + 2, none⟩ = false ∧ (w1.setCell ⟨g, snK s.l q * 3 + 2, none⟩ (.int .i64 (snTr s.l q + 1))).cell? ⟨R, 3, none⟩ = some (.slice (some ⟨g, 0, none⟩) s.l.length c) ∧
      (w1.setCell ⟨g, snK s.l q * 3 + 2, none⟩ (.int .i64 (snTr s.l q + 1))).cell? ⟨g, snK s.l q * 3 + 2, none⟩ = some (.int .i64 (snTr s.l q + 1)) ∧
      (snSdE s q = 0 → (∃ T', SnP R (s.snd q) T' (w1.setCell ⟨g, snK s.l q * 3 + 2, none⟩ (.int .i64 (snTr s.l q + 1))) ∧ ∀ j, T' j → T j ∨ w.heap.size ≤ j) ∧ Chg T w (w1.setCell ⟨g, snK s.l q * 3 + 2, none⟩ (.int .i64 (snTr s.l q + 1)))) := by
  have hok := hP.1.snd q
  have hTw : ∀ k, T k → k < w.heap.size := hP.2.1
  obtain ⟨h0, h1, h2, vL, h3, h4, h5⟩ := hP.later hb
  obtain ⟨g, c, rfl, _, hg⟩ := ow_at h4 (by omega)
  have hgT : T g := h5 g rfl
  have hne : g ≠ R := sn_apart h3 h4 rfl
  have d3 := h3.read 3
  simp [snC] at d3
  have cc : ∀ j, j < 3 → w1.cell? ⟨g, snK s.l q * 3 + j, none⟩ = (csN s.l[snK s.l q])[j]? := fun j hj => by
    rw [h4.cellAt (snK s.l q * 3 + j) (by omega), srs_at snElt.len s.l (snK s.l q) j hk hj]
  have htr : snTr s.l q = s.l[snK s.l q].t := by unfold snTr; rw [dif_pos hk]
  have hid : snId s.l q = s.l[snK s.l q].i := by unfold snId; rw [dif_pos hk]
  have hS := h3.other (g' := g) hne.symm (snK s.l q * 3 + 2) (.int .i64 (snTr s.l q + 1))
  have k4 := hS.read 3
  simp [snC] at k4
  refine ⟨g, c, hne.symm, d3, (cc 0 (by omega)).trans rfl, ?_, ?_, h4.frozenAt _, k4, ?_, fun hE => ?_⟩
  · rw [hid]; exact (cc 1 (by omega)).trans rfl
  · rw [htr]; exact (cc 2 (by omega)).trans rfl
  · exact World.cell?_setCell_same _ _ _ ((cc 2 (by omega)).trans rfl)
  · have hv4 := row_cell (a := { s.l[snK s.l q] with t := snTr s.l q + 1 }) (u := .int .i64 (snTr s.l q + 1)) (k := 2) snElt.len h4 hk (by omega) (by unfold csN; rfl)
    have e1 : (s.snd q).l = s.l.set (snK s.l q) { s.l[snK s.l q] with t := snTr s.l q + 1 } := by
      unfold SnS.snd; rw [if_pos hE]
      simp only [snUp, dif_pos hk, snTr]
    have e5 : snC (s.snd q) (.slice (some ⟨g, 0, none⟩) s.l.length c) = snC s (.slice (some ⟨g, 0, none⟩) s.l.length c) := by unfold SnS.snd snC; rw [if_pos hE]
    refine ⟨⟨T, ⟨hok, fun k hk => by simpa [World.setCell] using h1 k hk, h2, .slice (some ⟨g, 0, none⟩) s.l.length c, ?_, ?_, h5⟩, fun j hj => .inl hj⟩, (Chg.of_below (S := T) hb).setCell hgT _ _⟩
    · rw [e5]; exact hS
    · rw [e1, List.length_set]; exact hv4
set_option maxRecDepth 100000 in
set_option maxHeartbeats 8000000 in
theorem pssnd_any {R : Nat} {s : SnS} (hn : s.l.length ≤ 9999) {base : Nat} (q : Int) : Acts 24 #[.pointer (some ⟨R, 0, none⟩), .int .i64 q] base (SnP R s) (fun _ : Unit => .tuple #[.int .i64 (snSdV s q), .int .i64 (snSdE s q)]) fun _ => SnP R (s.snd q) := by
  intro T w hP hb hs
  have HAT := Lib.hid (psfind_any (by omega) hP q)
  unfold Calm at HAT
  by_cases hk : snK s.l q < s.l.length
  rotate_left 1
  · have hE : snSdE s q = 6 := by unfold snSdE; rw [if_neg hk]
    have hV : snSdV s q = 0 := by unfold snSdV; rw [hE, if_neg (by omega)]
    have hA : s.snd q = s := by unfold SnS.snd; rw [hE, if_neg (by omega)]
    have hat : snAt s.l q = -1 := by unfold snAt; rw [if_neg hk]
    rw [hE, hV, hA]
    rw [hat] at HAT
    have HF := Lib.hid (fun (W : World) (hw : Below w.heap.size w W) => show (∃ T', SnP R s T' W ∧ ∀ j, T' j → T j ∨ w.heap.size ≤ j) ∧ Chg T w W from ⟨⟨T, hP.later hw, fun k hk => .inl hk⟩, Chg.of_below hw⟩)
    clear hP hb hs hE hV hA hk hat
    go_enter Try.func24, Try.ntmps24
    go_wp2_with fail
    (with_reducible refine HAT.out.mono ?_); rintro e w1 ⟨rfl, hb1⟩
    have HF2 := Lib.hid (HF.out w1 hb1)
    clear hb1 HF HAT
    go_wp2
    go_ret2
    first | exact ⟨rfl, HF2.out⟩ | exact ⟨(), rfl, HF2.out⟩
  have hat : snAt s.l q = (snK s.l q : Nat) := by unfold snAt; rw [if_pos hk]
  rw [hat] at HAT
  have hbt := hP.1.ok.few
  have het := hP.1.ok.e _ (List.getElem_mem hk)
  have hex := hP.1.ok.exh (List.getElem_mem hk)
  have htr : snTr s.l q = s.l[snK s.l q].t := by unfold snTr; rw [dif_pos hk]
  have hid : snId s.l q = s.l[snK s.l q].i := by unfold snId; rw [dif_pos hk]
  have HX := Lib.hid (fun (W : World) (hw : Below w.heap.size w W) => psexd_any (hP.later hw) s.l[snK s.l q])
  have HM := Lib.hid (fun (W : World) (hw : Below w.heap.size w W) => pssnd_mem hP hw hk)
  rw [hex, ← htr, ← hid] at HX
  rw [← htr] at het
  unfold Calm at HX
  clear hex htr hid
  generalize s.l[snK s.l q].q = q0 at *
  have hkI : ((snK s.l q : Nat) : Int) < (s.l.length : Int) := by omega
  have hk0 : (0 : Int) ≤ ((snK s.l q : Nat) : Int) := by omega
  have hk1 : ¬ ((snK s.l q : Nat) : Int) < 0 := by omega
  by_cases htt : s.t ≤ snTr s.l q
  · have hE : snSdE s q = 14 := by unfold snSdE; rw [if_pos hk, if_pos htt]
    have hV : snSdV s q = 0 := by unfold snSdV; rw [hE, if_neg (by omega)]
    have hA : s.snd q = s := by unfold SnS.snd; rw [hE, if_neg (by omega)]
    rw [hE, hV, hA]
    rw [decide_eq_true htt] at HX
    have HF := Lib.hid (fun (W : World) (hw : Below w.heap.size w W) => show (∃ T', SnP R s T' W ∧ ∀ j, T' j → T j ∨ w.heap.size ≤ j) ∧ Chg T w W from ⟨⟨T, hP.later hw, fun k hk => .inl hk⟩, Chg.of_below hw⟩)
    clear hP hb hs hE hV hA hat het hbt hk htt
    go_enter Try.func24, Try.ntmps24
    go_wp2_with fail
    (with_reducible refine HAT.out.mono ?_); rintro e w1 ⟨rfl, hb1⟩
    obtain ⟨g, c, hne, d3, c0, c1, c2, _⟩ := HM.out w1 hb1
    have HX1 := Lib.hid (HX.out w1 hb1)
    have HB1 := Lib.hid hb1
    clear HM HX hb1 HAT
    generalize snTr s.l q = t0 at *
    generalize snId s.l q = i0 at *
    generalize snK s.l q = k at *
    generalize s.l.length = n at *
    go_wp2_with fail
    (with_reducible refine HX1.out.mono ?_); rintro e w2 ⟨rfl, hb2⟩
    have HF2 := Lib.hid (HF.out w2 (HB1.out.trans (hb2.mono HB1.out.size)))
    clear hb2 HF HX1 d3 c0 c1 c2
    go_wp2
    go_ret2
    first | exact ⟨rfl, HF2.out⟩ | exact ⟨(), rfl, HF2.out⟩
  · have hE : snSdE s q = 0 := by unfold snSdE; rw [if_pos hk, if_neg htt]
    have hV : snSdV s q = snTr s.l q + 1 := by unfold snSdV; rw [hE, if_pos rfl]
    rw [hV, hE]
    rw [decide_eq_false htt] at HX
    have w1' : IntKind.i64.wrap (snTr s.l q + 1) = snTr s.l q + 1 := IntWalk.i64_in _ (by omega)
    clear hP hb hs hV hat het hbt hk htt
    go_enter Try.func24, Try.ntmps24
    go_wp2_with fail
    (with_reducible refine HAT.out.mono ?_); rintro e w1 ⟨rfl, hb1⟩
    obtain ⟨g, c, hne, d3, c0, c1, c2, _⟩ := HM.out w1 hb1
    have HX1 := Lib.hid (HX.out w1 hb1)
    have HB1 := Lib.hid hb1
    clear HX hb1 HAT
    have HM2 := Lib.hid (fun (W : World) (hw : Below w1.heap.size w1 W) => HM.out W (HB1.out.trans (hw.mono HB1.out.size)))
    clear HM
    have HE := Lib.hid hE
    clear hE
    go_wp2_with fail
    (with_reducible refine HX1.out.mono ?_); rintro e w2 ⟨rfl, hb2⟩
    obtain ⟨g', c', hne', d3', _, _, c2', f2', k4, k5, hF⟩ := HM2.out w2 hb2
    have HF := Lib.hid (hF HE.out)
    clear hb2 HX1 HM2 d3 c0 c1 c2 hF hne HE
    go_wp2
    go_ret2
    first | exact ⟨rfl, HF.out⟩ | exact ⟨(), rfl, HF.out⟩
/-! ### Drop -/
theorem psdrp_mem {R : Nat} {s : SnS} {q : Int} {T : Nat → Prop} {w w1 : World} (hn : s.l.length ≤ 99999) (hP : SnP R s T w) (hb : Below w.heap.size w w1) (hk : snK s.l q < s.l.length) :
    ∃ g c vD W1, R ≠ g ∧ s.l.length ≤ c ∧ dropG 3 (.slice (some ⟨g, 0, none⟩) s.l.length c) (snK s.l q + 1) = vD ∧ w1.cell? ⟨R, 3, none⟩ = some (.slice (some ⟨g, 0, none⟩) s.l.length c) ∧ w1.cell? ⟨g, snK s.l q * 3 + 1, none⟩ = some (.int .i64 (snId s.l q)) ∧
      (Builtin.append_ #[39, 39] 39 #[.slice (some ⟨g, 0, none⟩) (snK s.l q) c, vD]).run Try.prog w1.drew = .ok (.slice (some ⟨g, 0, none⟩) (snK s.l q + (s.l.length - (snK s.l q + 1))) c) W1 ∧
      W1.cell? ⟨R, 3, none⟩ = some (.slice (some ⟨g, 0, none⟩) s.l.length c) ∧ W1.frozen? ⟨R, 3, none⟩ = false ∧
      (∃ T', SnP R (s.drp q) T' (W1.setCell ⟨R, 3, none⟩ (.slice (some ⟨g, 0, none⟩) (snK s.l q + (s.l.length - (snK s.l q + 1))) c)) ∧ ∀ j, T' j → T j ∨ w.heap.size ≤ j) ∧ Chg T w (W1.setCell ⟨R, 3, none⟩ (.slice (some ⟨g, 0, none⟩) (snK s.l q + (s.l.length - (snK s.l q + 1))) c)) := by
  have hok := hP.1.drp q
  have hTw : ∀ k, T k → k < w.heap.size := hP.2.1
  have e1 : (s.drp q).l = s.l.take (snK s.l q) ++ s.l.drop (snK s.l q + 1) := by unfold SnS.drp; rw [if_pos hk]; rfl
  have e2 : (s.drp q).w = s.w := by unfold SnS.drp; rw [if_pos hk]
  have e3 : (s.drp q).t = s.t := by unfold SnS.drp; rw [if_pos hk]
  have e4 : (s.drp q).nx = s.nx := by unfold SnS.drp; rw [if_pos hk]
  have hid : snId s.l q = s.l[snK s.l q].i := by unfold snId; rw [dif_pos hk]
  have hbd : Below w.heap.size w w1.drew := hb.trans ((Below.refl _ w1).drew.mono hb.size)
  obtain ⟨_, _, _, vL1, h31, _⟩ := hP.later hb
  obtain ⟨h0, h1, h2, vL, h3, h4, h5⟩ := hP.later hbd
  obtain rfl : vL1 = vL := by
    have a1 := h31.read 3
    have a2 := ((h31.later (Below.refl _ w1).drew)).read 3
    have a3 := h3.read 3
    rw [a2] at a3
    simpa [snC] using a3
  obtain ⟨g, c, rfl, _, hg⟩ := ow_at h4 (by omega)
  have hgT : T g := h5 g rfl
  have hne : g ≠ R := sn_apart h3 h4 rfl
  have d3 := h31.read 3
  simp [snC] at d3
  generalize snK s.l q = k at *
  have hlen := srs_len snElt.len s.l
  have hcell : ∀ j u, (srs csN s.l)[j]? = some u → w1.drew.cell? ⟨g, j, none⟩ = some u := fun j u hj => by
    have hj2 : j < s.l.length * 3 := by
      have := (List.getElem?_eq_some_iff.1 hj).1
      omega
    rw [h4.cellAt j hj2]; exact hj
  have hid2 : w1.cell? ⟨g, k * 3 + 1, none⟩ = some (.int .i64 (snId s.l q)) := by
    have h9 := h4.cellAt (k * 3 + 1) (by omega)
    rw [srs_at snElt.len s.l k 1 hk (by omega)] at h9
    rw [hid]
    exact h9
  -- the prefix as a row
  have esp : srs csN s.l = srs csN (s.l.take (k + 1)) ++ srs csN (s.l.drop (k + 1)) := by rw [← srs_app, List.take_append_drop]
  have epf : srs csN s.l = srs csN (s.l.take k) ++ srs csN (s.l.drop k) := by rw [← srs_app, List.take_append_drop]
  have l1 : (srs csN (s.l.take k)).length = k * 3 := by rw [srs_len snElt.len, List.length_take]; congr 1; omega
  have l2 : (srs csN (s.l.take (k + 1))).length = (k + 1) * 3 := by rw [srs_len snElt.len, List.length_take]; congr 1; omega
  have l3 : (srs csN (s.l.drop (k + 1))).length = (s.l.length - (k + 1)) * 3 := by rw [srs_len snElt.len, List.length_drop]
  have hcle : s.l.length ≤ c := by
    rcases h4.2 with ⟨h9, _⟩ | ⟨g', c', cur, h9, _, _, hnc, _⟩
    · cases h9
    · obtain ⟨_, rfl⟩ : g = g' ∧ c = c' := by simpa using h9
      exact hnc
  have hpre : w1.drew.ownsRow 0 38 3 (.slice (some ⟨g, 0, none⟩) k c) k (srs csN (s.l.take k)) := by
    rcases h4.2 with ⟨h9, _⟩ | ⟨g', c', cur, h9, hbg, hgc, hnc, hcm, hcs, htake⟩
    · cases h9
    · obtain ⟨rfl, rfl⟩ : g = g' ∧ c = c' := by simpa using h9
      refine ⟨l1, .inr ⟨g, c, cur, rfl, hbg, hgc, by omega, hcm, hcs, ?_⟩⟩
      have h10 : cur.toList.take (k * 3) = (srs csN s.l).take (k * 3) := by
        rw [← htake, List.take_take]
        congr 1
        omega
      rw [h10, epf, ← l1, List.take_left]
  obtain ⟨z, bts, hz, hbts, hi⟩ := snElt.inf
  obtain ⟨i0, hii, hz0, hz1, hz2⟩ := info_parts hi
  obtain ⟨ad, cD, hvD, hcD⟩ : ∃ ad cD, dropG 3 (.slice (some ⟨g, 0, none⟩) s.l.length c) (k + 1) = .slice (some ad) (s.l.length - (k + 1)) cD ∧ ∀ j u, (srs csN (s.l.drop (k + 1)))[j]? = some u → w1.drew.cell? (ad.add j) = some u := by
    unfold dropG
    by_cases hc : k + 1 = c
    · refine ⟨⟨g, 0, none⟩, 0, ?_, fun j u hj => ?_⟩
      · simp only [if_pos hc]
        rw [show s.l.length - (k + 1) = 0 by omega]
      · have := (List.getElem?_eq_some_iff.1 hj).1
        omega
    · refine ⟨⟨g, (k + 1) * 3, none⟩, c - (k + 1), ?_, fun j u hj => ?_⟩
      · simp only [if_neg hc, Addr.add_lit, Nat.zero_add]
      · rw [Addr.add_lit]
        refine hcell _ _ ?_
        rw [esp, List.getElem?_append_right (by omega), l2, Nat.add_sub_cancel_left]
        exact hj
  obtain ⟨W1, hrun, hv, hgr⟩ := run_append_fits (P := Try.prog) w1.drew 0 39 39 38 i0 3 snElt.und hii hz1 g k c _ hpre ad (s.l.length - (k + 1)) cD _ l3 hcD
    (fun u hu => by
      obtain ⟨x, _, hx2⟩ := List.mem_flatMap.1 hu
      exact snElt.one x u hx2) (by omega)
  have hRW : W1.heap[R]? = w1.drew.heap[R]? := hgr.block R (h1 R h2) (fun e => hne (by simpa using e.symm))
  have hS := h3.carry hRW
  have k4 := hS.read 3
  simp [snC] at k4
  have hch : Chg T w W1 := (Chg.of_below (S := T) hbd).grown hgr (fun k hk => by
    have : g = k := by simpa using hk
    subst this; exact .inl hgT)
  have hv' : W1.ownsRow 0 38 3 (.slice (some ⟨g, 0, none⟩) (k + (s.l.length - (k + 1))) c) (s.drp q).l.length (srs csN (s.drp q).l) := by
    rw [e1, srs_app, List.length_append, List.length_take, List.length_drop, Nat.min_eq_left (by omega)]
    exact hv
  refine ⟨g, c, _, W1, hne.symm, hcle, rfl, d3, hid2, ?_, k4, hS.free 3, sn_put3 hok hTw h2 hch hS hv' (fun j e => by
    have : g = j := by simpa [Value.ownBlock] using e
    subst this; exact .inl hgT) e2 e3 e4⟩
  rw [hvD]
  exact hrun
set_option maxRecDepth 100000 in
set_option maxHeartbeats 8000000 in
theorem psdrp_any {R : Nat} {s : SnS} (hn : s.l.length ≤ 9999) {base : Nat} (q : Int) : Acts 22 #[.pointer (some ⟨R, 0, none⟩), .int .i64 q] base (SnP R s) (fun _ : Unit => .tuple #[.int .i64 (snDrV s q), .int .i64 (snDrE s q)]) fun _ => SnP R (s.drp q) := by
  intro T w hP hb hs
  have HAT := Lib.hid (psfind_any (by omega) hP q)
  unfold Calm at HAT
  by_cases hk : snK s.l q < s.l.length
  rotate_left 1
  · have hE : snDrE s q = 6 := by unfold snDrE; rw [if_neg hk]
    have hV : snDrV s q = 0 := by unfold snDrV snId; rw [dif_neg hk]
    have hA : s.drp q = s := by unfold SnS.drp; rw [if_neg hk]
    have hat : snAt s.l q = -1 := by unfold snAt; rw [if_neg hk]
    rw [hE, hV, hA]
    rw [hat] at HAT
    have HF := Lib.hid (fun (W : World) (hw : Below w.heap.size w W) => show (∃ T', SnP R s T' W ∧ ∀ j, T' j → T j ∨ w.heap.size ≤ j) ∧ Chg T w W from ⟨⟨T, hP.later hw, fun k hk => .inl hk⟩, Chg.of_below hw⟩)
    clear hP hb hs hE hV hA hk hat
    go_enter Try.func22, Try.ntmps22
    go_wp2_with fail
    (with_reducible refine HAT.out.mono ?_); rintro e w1 ⟨rfl, hb1⟩
    have HF2 := Lib.hid (HF.out w1 hb1)
    clear hb1 HF HAT
    go_wp2
    go_ret2
    first | exact ⟨rfl, HF2.out⟩ | exact ⟨(), rfl, HF2.out⟩
  have hat : snAt s.l q = (snK s.l q : Nat) := by unfold snAt; rw [if_pos hk]
  rw [hat] at HAT
  have hE : snDrE s q = 0 := by unfold snDrE; rw [if_pos hk]
  rw [hE]
  unfold snDrV
  have HM := Lib.hid (fun (W : World) (hw : Below w.heap.size w W) => psdrp_mem (by omega) hP hw hk)
  have hkI : ((snK s.l q : Nat) : Int) < (s.l.length : Int) := by omega
  have hk0 : (0 : Int) ≤ ((snK s.l q : Nat) : Int) := by omega
  have hk1 : ¬ ((snK s.l q : Nat) : Int) < 0 := by omega
  clear hP hb hs hE hat
  generalize snId s.l q = i0 at *
  generalize snK s.l q = k at *
  obtain ⟨n, hnn⟩ : ∃ n, s.l.length = n := ⟨_, rfl⟩
  rw [hnn] at HM hkI hk hn
  clear hnn
  go_enter Try.func22, Try.ntmps22
  go_wp2_with fail
  (with_reducible refine HAT.out.mono ?_); rintro e w1 ⟨rfl, hb1⟩
  obtain ⟨g, c, vD, W1, hne, hnc, hvD, d3, c1, hrun, k4, f4, hR, hC⟩ := HM.out w1 hb1
  have HF := Lib.hid (And.intro hR hC)
  have HVD := Lib.hid hvD
  have HRUN := Lib.hid hrun
  have HE1 := Lib.hid (fun (W : World) (h : W = W1) => (by rw [h]; exact ⟨k4, f4⟩ : W.cell? ⟨R, 3, none⟩ = some (.slice (some ⟨g, 0, none⟩) n c) ∧ W.frozen? ⟨R, 3, none⟩ = false))
  have HE := Lib.hid (fun (W : World) (h : W = w1.drew ∨ W = W1) => (by
    rcases h with rfl | rfl
    · exact d3
    · exact k4 : W.cell? ⟨R, 3, none⟩ = some (.slice (some ⟨g, 0, none⟩) n c)))
  clear HM HAT hb1 hR hC hvD hrun k4 f4
  have hw1 : IntKind.i64.wrap ((k : Int) + 1) = (k : Int) + 1 := IntWalk.i64_in _ (by omega)
  have hkc : (k : Int) ≤ c := by omega
  go_wp2_with fail
  refine wp_region_looseS 39 (by kernel_rfl) (by kernel_rfl) (StA w1.drew W1 (W1.setCell ⟨R, 3, none⟩ (.slice (some ⟨g, 0, none⟩) (k + (n - (k + 1))) c)) (fun i => [.pointer (some ⟨R, 0, none⟩), .pointer (some ⟨R, 0, none⟩), .pointer (some ⟨R, 0, none⟩), .pointer (some ⟨R, 3, none⟩), .slice (some ⟨g, 0, none⟩) n c, .int .i64 (k : Nat), .slice (some ⟨g, 0, none⟩) k c, .pointer (some ⟨R, 0, none⟩), .pointer (some ⟨R, 0, none⟩), .pointer (some ⟨R, 3, none⟩), .slice (some ⟨g, 0, none⟩) n c, .int .i64 (k : Nat), .int .i64 ((k : Nat) + 1), vD, .slice (some ⟨g, 0, none⟩) (k + (n - (k + 1))) c, .pointer (some ⟨R, 0, none⟩), .pointer (some ⟨R, 3, none⟩)].getD i undef) 14 17) rfl StA.start ?_ ?_
  · simp only [OblAllS]
    refine ⟨?_, ?_, ?_, ?_, ?_, ?_, ?_, ?_, ?_, ?_, ?_, ?_, ?_, ?_, ?_, ?_, ?_, ?_, trivial⟩
    · intro L wx vals hi hu hcl hC
      simp [ClosedL, UpL, predL, predE, Region.binds] at hcl
      have hst : L 17 = false := by clear hC; cases h : L 17 with | false => rfl | true => exfalso; simp_all
      have HCx := Lib.hid hC
      clear hC hcl hu hi hst
      simp only [fillA, if_true, Act.put]
      simp
      go_wp2
      exact ⟨rfl, HCx.out.quiet (by decide) (by decide) rfl⟩
    · intro L wx vals hi hu hcl hC
      simp [ClosedL, UpL, predL, predE, Region.binds] at hcl
      have hst : L 17 = false := by clear hC; cases h : L 17 with | false => rfl | true => exfalso; simp_all
      have HCx := Lib.hid hC
      clear hC hcl hu hi hst
      simp only [fillA, if_true, Act.put]
      simp
      go_wp2
      exact ⟨rfl, HCx.out.quiet (by decide) (by decide) rfl⟩
    · intro L wx vals hi hu hcl hC
      simp [ClosedL, UpL, predL, predE, Region.binds] at hcl
      simp [predL, predE, Region.binds, UpL] at hu
      have hst : L 17 = false := by clear hC; cases h : L 17 with | false => rfl | true => exfalso; simp_all
      have e1 : vals 1 = .pointer (some ⟨R, 0, none⟩) := hC.v 1 (by decide) (by simp [hu])
      have HCx := Lib.hid hC
      clear hC hcl hu hi hst
      simp only [fillA, if_true, Act.put]
      simp
      simp only [e1]
      clear e1
      go_wp2
      exact ⟨rfl, HCx.out.quiet (by decide) (by decide) rfl⟩
    · intro L wx vals hi hu hcl hC
      simp [ClosedL, UpL, predL, predE, Region.binds] at hcl
      simp [predL, predE, Region.binds, UpL] at hu
      have hst : L 17 = false := by clear hC; cases h : L 17 with | false => rfl | true => exfalso; simp_all
      have e2 : vals 2 = .pointer (some ⟨R, 0, none⟩) := hC.v 2 (by decide) (by simp [hu])
      have HCx := Lib.hid hC
      clear hC hcl hu hi hst
      simp only [fillA, if_true, Act.put]
      simp
      simp only [e2]
      clear e2
      go_wp2
      exact ⟨rfl, HCx.out.quiet (by decide) (by decide) rfl⟩
    · intro L wx vals hi hu hcl hC
      simp [ClosedL, UpL, predL, predE, Region.binds] at hcl
      simp [predL, predE, Region.binds, UpL] at hu
      have hst : L 17 = false := by clear hC; cases h : L 17 with | false => rfl | true => exfalso; simp_all
      have e3 : vals 3 = .pointer (some ⟨R, 3, none⟩) := hC.v 3 (by decide) (by simp [hu])
      have k3 := HE.out wx (hC.ab hst)
      have HCx := Lib.hid hC
      clear hC hcl hu hi hst
      simp only [fillA, if_true, Act.put]
      simp
      simp only [e3]
      clear e3
      go_wp2
      exact ⟨rfl, HCx.out.quiet (by decide) (by decide) rfl⟩
    · intro L wx vals hi hu hcl hC
      simp [ClosedL, UpL, predL, predE, Region.binds] at hcl
      have hst : L 17 = false := by clear hC; cases h : L 17 with | false => rfl | true => exfalso; simp_all
      have HCx := Lib.hid hC
      clear hC hcl hu hi hst
      simp only [fillA, if_true, Act.put]
      simp
      go_wp2
      exact ⟨rfl, HCx.out.quiet (by decide) (by decide) rfl⟩
    · intro L wx vals hi hu hcl hC
      simp [ClosedL, UpL, predL, predE, Region.binds] at hcl
      simp [predL, predE, Region.binds, UpL] at hu
      have hst : L 17 = false := by clear hC; cases h : L 17 with | false => rfl | true => exfalso; simp_all
      have e4 : vals 4 = .slice (some ⟨g, 0, none⟩) n c := hC.v 4 (by decide) (by simp [hu])
      have e5 : vals 5 = .int .i64 (k : Nat) := hC.v 5 (by decide) (by simp [hu])
      have HCx := Lib.hid hC
      clear hC hcl hu hi hst
      simp only [fillA, if_true, Act.put]
      simp
      simp only [e4, e5]
      clear e4 e5
      go_wp2
      exact ⟨rfl, HCx.out.quiet (by decide) (by decide) rfl⟩
    · intro L wx vals hi hu hcl hC
      simp [ClosedL, UpL, predL, predE, Region.binds] at hcl
      have hst : L 17 = false := by clear hC; cases h : L 17 with | false => rfl | true => exfalso; simp_all
      have HCx := Lib.hid hC
      clear hC hcl hu hi hst
      simp only [fillA, if_true, Act.put]
      simp
      go_wp2
      exact ⟨rfl, HCx.out.quiet (by decide) (by decide) rfl⟩
    · intro L wx vals hi hu hcl hC
      simp [ClosedL, UpL, predL, predE, Region.binds] at hcl
      simp [predL, predE, Region.binds, UpL] at hu
      have hst : L 17 = false := by clear hC; cases h : L 17 with | false => rfl | true => exfalso; simp_all
      have e7 : vals 7 = .pointer (some ⟨R, 0, none⟩) := hC.v 7 (by decide) (by simp [hu])
      have HCx := Lib.hid hC
      clear hC hcl hu hi hst
      simp only [fillA, if_true, Act.put]
      simp
      simp only [e7]
      clear e7
      go_wp2
      exact ⟨rfl, HCx.out.quiet (by decide) (by decide) rfl⟩
    · intro L wx vals hi hu hcl hC
      simp [ClosedL, UpL, predL, predE, Region.binds] at hcl
      simp [predL, predE, Region.binds, UpL] at hu
      have hst : L 17 = false := by clear hC; cases h : L 17 with | false => rfl | true => exfalso; simp_all
      have e8 : vals 8 = .pointer (some ⟨R, 0, none⟩) := hC.v 8 (by decide) (by simp [hu])
      have HCx := Lib.hid hC
      clear hC hcl hu hi hst
      simp only [fillA, if_true, Act.put]
      simp
      simp only [e8]
      clear e8
      go_wp2
      exact ⟨rfl, HCx.out.quiet (by decide) (by decide) rfl⟩
    · intro L wx vals hi hu hcl hC
      simp [ClosedL, UpL, predL, predE, Region.binds] at hcl
      simp [predL, predE, Region.binds, UpL] at hu
      have hst : L 17 = false := by clear hC; cases h : L 17 with | false => rfl | true => exfalso; simp_all
      have e9 : vals 9 = .pointer (some ⟨R, 3, none⟩) := hC.v 9 (by decide) (by simp [hu])
      have k3 := HE.out wx (hC.ab hst)
      have HCx := Lib.hid hC
      clear hC hcl hu hi hst
      simp only [fillA, if_true, Act.put]
      simp
      simp only [e9]
      clear e9
      go_wp2
      exact ⟨rfl, HCx.out.quiet (by decide) (by decide) rfl⟩
    · intro L wx vals hi hu hcl hC
      simp [ClosedL, UpL, predL, predE, Region.binds] at hcl
      have hst : L 17 = false := by clear hC; cases h : L 17 with | false => rfl | true => exfalso; simp_all
      have HCx := Lib.hid hC
      clear hC hcl hu hi hst
      simp only [fillA, if_true, Act.put]
      simp
      go_wp2
      exact ⟨rfl, HCx.out.quiet (by decide) (by decide) rfl⟩
    · intro L wx vals hi hu hcl hC
      simp [ClosedL, UpL, predL, predE, Region.binds] at hcl
      simp [predL, predE, Region.binds, UpL] at hu
      have hst : L 17 = false := by clear hC; cases h : L 17 with | false => rfl | true => exfalso; simp_all
      have e11 : vals 11 = .int .i64 (k : Nat) := hC.v 11 (by decide) (by simp [hu])
      have HCx := Lib.hid hC
      clear hC hcl hu hi hst
      simp only [fillA, if_true, Act.put]
      simp
      simp only [e11]
      clear e11
      go_wp2
      exact ⟨rfl, HCx.out.quiet (by decide) (by decide) rfl⟩
    · intro L wx vals hi hu hcl hC
      simp [ClosedL, UpL, predL, predE, Region.binds] at hcl
      simp [predL, predE, Region.binds, UpL] at hu
      have hst : L 17 = false := by clear hC; cases h : L 17 with | false => rfl | true => exfalso; simp_all
      have e10 : vals 10 = .slice (some ⟨g, 0, none⟩) n c := hC.v 10 (by decide) (by simp [hu])
      have e12 : vals 12 = .int .i64 ((k : Nat) + 1) := hC.v 12 (by decide) (by simp [hu])
      have HCx := Lib.hid hC
      clear hC hcl hu hi hst
      simp only [fillA, if_true, Act.put]
      simp
      simp only [e10, e12]
      clear e10 e12
      by_cases hce : k + 1 = c
      · have hvd : vD = .slice (some ⟨g, 0, none⟩) 0 0 := by rw [← HVD.out]; unfold dropG; simp only [if_pos hce]
        have hn1 : n = k + 1 := by omega
        subst hn1
        have hci : ((k + 1 : Nat) : Int) = (k : Int) + 1 := by omega
        subst hce
        go_wp2
        exact ⟨rfl, HCx.out.quiet (by decide) (by decide) hvd.symm⟩
      · have hvd : vD = .slice (some ⟨g, (k + 1) * 3, none⟩) (n - (k + 1)) (c - (k + 1)) := by rw [← HVD.out]; unfold dropG; simp only [if_neg hce, Addr.add_lit, Nat.zero_add]
        have hlt9 : (k : Int) + 1 < c := by omega
        have hle9 : (k : Int) + 1 ≤ n := by omega
        go_wp2
        exact ⟨rfl, HCx.out.quiet (by decide) (by decide) hvd.symm⟩
    · intro L wx vals hi hu hcl hC
      simp [ClosedL, UpL, predL, predE, Region.binds] at hcl
      simp [predL, predE, Region.binds, UpL] at hu
      have hst : L 17 = false := by clear hC; cases h : L 17 with | false => rfl | true => exfalso; simp_all
      have e6 : vals 6 = .slice (some ⟨g, 0, none⟩) k c := hC.v 6 (by decide) (by simp [hu])
      have e13 : vals 13 = vD := hC.v 13 (by decide) (by simp [hu])
      obtain rfl := hC.a hi hst
      have HM := Lib.hid (hC.make hst (by decide) (x := .slice (some ⟨g, 0, none⟩) (k + (n - (k + 1))) c) rfl)
      have HCx := Lib.hid hC
      clear hC hcl hu hi hst
      simp only [fillA, if_true, Act.put]
      simp
      simp only [e6, e13]
      clear e6 e13
      refine wpList_append_run rfl (.tmp 27) (.tmp 34) 39 rfl rfl rfl HRUN.out ?_
      go_wp2
      exact ⟨rfl, HM.out⟩
    · intro L wx vals hi hu hcl hC
      simp [ClosedL, UpL, predL, predE, Region.binds] at hcl
      simp [predL, predE, Region.binds, UpL] at hu
      have hst : L 17 = false := by clear hC; cases h : L 17 with | false => rfl | true => exfalso; simp_all
      have e0 : vals 0 = .pointer (some ⟨R, 0, none⟩) := hC.v 0 (by decide) (by simp [hu])
      have HCx := Lib.hid hC
      clear hC hcl hu hi hst
      simp only [fillA, if_true, Act.put]
      simp
      simp only [e0]
      clear e0
      go_wp2
      exact ⟨rfl, HCx.out.quiet (by decide) (by decide) rfl⟩
    · intro L wx vals hi hu hcl hC
      simp [ClosedL, UpL, predL, predE, Region.binds] at hcl
      simp [predL, predE, Region.binds, UpL] at hu
      have hst : L 17 = false := by clear hC; cases h : L 17 with | false => rfl | true => exfalso; simp_all
      have e15 : vals 15 = .pointer (some ⟨R, 0, none⟩) := hC.v 15 (by decide) (by simp [hu])
      have HCx := Lib.hid hC
      clear hC hcl hu hi hst
      simp only [fillA, if_true, Act.put]
      simp
      simp only [e15]
      clear e15
      go_wp2
      exact ⟨rfl, HCx.out.quiet (by decide) (by decide) rfl⟩
    · intro L wx vals hi hu hcl hC
      simp [ClosedL, UpL, predL, predE, Region.binds] at hcl
      simp [predL, predE, Region.binds, UpL] at hu
      have hst : L 17 = false := hi
      have e14 : vals 14 = .slice (some ⟨g, 0, none⟩) (k + (n - (k + 1))) c := hC.v 14 (by decide) (by simp [hu])
      have e16 : vals 16 = .pointer (some ⟨R, 3, none⟩) := hC.v 16 (by decide) (by simp [hu])
      have HQ := Lib.hid (hC.b (by simp [hu]) hst)
      obtain ⟨m0, mf⟩ := HE1.out wx HQ.out
      have HCx := Lib.hid hC
      clear hC hcl hu hi hst
      simp only [fillA, if_true, Act.put]
      simp
      simp only [e14, e16]
      clear e14 e16
      go_wp2
      have hq := HQ.out
      subst hq
      exact ⟨rfl, HCx.out.write⟩
  · intro wz vals U hC hall
    have hz := hC.c (hall 17 (by simp))
    subst hz
    simp only [fillA, if_true, Act.put]
    simp
    clear hC hall HE HE1 HRUN HVD d3 c1
    generalize vals 0 = t0 at *
    generalize vals 1 = t1 at *
    generalize vals 2 = t2 at *
    generalize vals 3 = t3 at *
    generalize vals 4 = t4 at *
    generalize vals 5 = t5 at *
    generalize vals 6 = t6 at *
    generalize vals 7 = t7 at *
    generalize vals 8 = t8 at *
    generalize vals 9 = t9 at *
    generalize vals 10 = t10 at *
    generalize vals 11 = t11 at *
    generalize vals 12 = t12 at *
    generalize vals 13 = t13 at *
    generalize vals 14 = t14 at *
    generalize vals 15 = t15 at *
    generalize vals 16 = t16 at *
    go_wp2
    go_ret2
    first | exact ⟨rfl, HF.out⟩ | exact ⟨(), rfl, HF.out⟩
end Go.Proofs.Ytglhaclehdkagaa

