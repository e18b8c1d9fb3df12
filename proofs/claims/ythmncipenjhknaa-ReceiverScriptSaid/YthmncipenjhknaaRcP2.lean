/-
  Layer 17: the program's receiver in memory (a struct and a map); contracts of New, Expected, checkBase, take, hold.
-/
import Derived.Test.YthmncipenjhknaaRcP1
import Derived.Test.YthmncipenjhknaaApA
import Derived.Test.YthmncipenjhknaaStK
namespace Go.Proofs.Ythmncipenjhknaa
open Go.ChangeShapes Go.WideShapes Go.ChangeAt Go.RowKit
set_option linter.unusedVariables false

def rcC (s : RcS) (M : Nat) : Array Value := #[.int .i64 s.w, .int .i64 s.nx, .map (some M)]
/-- The program's receiver in block R. -/
def RcP (R : Nat) (s : RcS) : RP := fun T w => RcIv s ∧ (∀ k, T k → k < w.heap.size) ∧ T R ∧ ∃ M, T M ∧ Whole w R 58 (rcC s M) ∧ MapJ w M (rcF s.l)
theorem RcP.frm {base R : Nat} {s : RcS} : Frm base (RcP R s) := by
  refine ⟨fun ⟨_, h1, _⟩ => h1, fun {T U w w'} ⟨h0, h1, h2, M, h3, h4, h5⟩ hc hb hs => ?_⟩
  exact ⟨h0, fun k hk => by have := h1 k hk; have := hc.size; omega, h2, M, h3, h4.carry (hc.block R (h1 R h2) (hs R h2)), h5.keep (hc.block M (h1 M h3) (hs M h3))⟩
theorem RcP.later {R : Nat} {s : RcS} {T : Nat → Prop} {w w' : World} (h : RcP R s T w) (hb : Below w.heap.size w w') : RcP R s T w' :=
  (RcP.frm (base := 0)).chg (S := fun _ => False) h (Chg.of_below hb) (fun _ h => h.elim) (fun _ _ h => h)
section
variable {R : Nat} {s : RcS} {T : Nat → Prop} {w : World}
/-- What is read of the object at a world, M its map. -/
structure RcD (R M : Nat) (s : RcS) (w : World) : Prop where
  c0 : w.cell? ⟨R, 0, none⟩ = some (.int .i64 s.w)
  c1 : w.cell? ⟨R, 1, none⟩ = some (.int .i64 s.nx)
  c2 : w.cell? ⟨R, 2, none⟩ = some (.map (some M))
  f1 : w.frozen? ⟨R, 1, none⟩ = false
  lk : ∀ q : Int, 0 ≤ q ∧ q < 65536 → (Instr.lookup 56 (.map (some M)) (.int .i64 q) false).run Try.prog w = .ok (.int .i64 (rcTk s.l q)) w
theorem RcP.open_ (h : RcP R s T w) : ∃ M, RcIv s ∧ T R ∧ T M ∧ ∀ W, Below w.heap.size w W → RcD R M s W := by
  obtain ⟨h0, h1, h2, M, h3, h4, h5⟩ := h
  refine ⟨M, h0, h2, h3, fun W hb => ?_⟩
  have hw := h4.later hb
  have hm := h5.keep (hb.block M h5.lt)
  have d0 := hw.read 0
  have d1 := hw.read 1
  have d2 := hw.read 2
  simp [rcC] at d0 d1 d2
  refine ⟨d0, d1, d2, hw.free 1, fun q hq => ?_⟩
  have h6 := hm.look (P := Try.prog) (T := 56) (K := 3) (E := 3) Try.underlying56 Try.underlying3 (z := .int .i64 0) (by rfl) (k := q) (by omega) false
  simp only [Bool.false_eq_true, if_false] at h6
  rw [rcF_get] at h6
  exact h6
theorem RcP.iv (h : RcP R s T w) : RcIv s := h.1
/-- A number deleted from the map. -/
theorem RcP.del (h : RcP R s T w) {M : Nat} (hM : w.cell? ⟨R, 2, none⟩ = some (.map (some M))) {q : Int} (hq : 0 ≤ q ∧ q < 65536) (ty : TypeId) :
    ∃ w', (Builtin.delete_ #[56, 3] ty #[.map (some M), .int .i64 q]).run Try.prog w = .ok (.tuple #[]) w' ∧ RcP R { s with l := rcRm s.l q } T w' ∧ Chg T w w' := by
  obtain ⟨h0, h1, h2, M', h3, h4, h5⟩ := h
  have d2 := h4.read 2
  simp [rcC] at d2
  obtain rfl : M = M' := by rw [hM] at d2; simpa using d2
  have hne := h5.apart h4
  obtain ⟨w', a1, a2, a3, a4⟩ := h5.drop (P := Try.prog) (T := 56) (K := 3) (E := 3) Try.underlying56 Try.underlying3 (k := q) (by omega) ty
  rw [rcF_rm h0.nd] at a2
  refine ⟨w', a1, ⟨h0.rm q, fun k hk => by rw [a4]; exact h1 k hk, h2, M, h3, h4.carry (a3.block R h4.size_lt (fun e => hne (by simpa using e.symm))), a2⟩, (Chg.refl T w).grown a3 fun k hk => .inl (by simp at hk; subst hk; exact h3)⟩
/-- A packet stored into the map. -/
theorem RcP.put (h : RcP R s T w) {M : Nat} (hM : w.cell? ⟨R, 2, none⟩ = some (.map (some M))) {x : RcE} (hx : (0 ≤ x.q ∧ x.q < 65536) ∧ 1 ≤ x.i) (hn : ∀ y ∈ s.l, y.q ≠ x.q) (hd : (dOf s.nx x.q : Int) < s.w) :
    ∃ w', (Instr.mapUpdate 56 (.map (some M)) (.int .i64 x.q) (.int .i64 x.i)).run Try.prog w = .ok () w' ∧ RcP R (rcIn s x) T w' ∧ Chg T w w' := by
  obtain ⟨h0, h1, h2, M', h3, h4, h5⟩ := h
  have d2 := h4.read 2
  simp [rcC] at d2
  obtain rfl : M = M' := by rw [hM] at d2; simpa using d2
  have hne := h5.apart h4
  obtain ⟨w', a1, a2, a3, a4⟩ := h5.store (P := Try.prog) (T := 56) (K := 3) (E := 3) Try.underlying56 Try.underlying3 (k := x.q) (by omega) (.int .i64 x.i)
  rw [← rcF_put hn] at a2
  refine ⟨w', a1, ⟨h0.in_ hx hn hd, fun k hk => by rw [a4]; exact h1 k hk, h2, M, h3, h4.carry (a3.block R h4.size_lt (fun e => hne (by simpa using e.symm))), a2⟩, (Chg.refl T w).grown a3 fun k hk => .inl (by simp at hk; subst hk; exact h3)⟩
/-- The expected number stored. -/
theorem RcP.setNx (h : RcP R s T w) {b : Int} (hb : RcIv ⟨s.w, b, s.l⟩) : RcP R ⟨s.w, b, s.l⟩ T (w.setCell ⟨R, 1, none⟩ (.int .i64 b)) ∧ Chg T w (w.setCell ⟨R, 1, none⟩ (.int .i64 b)) := by
  obtain ⟨h0, h1, h2, M, h3, h4, h5⟩ := h
  have hne := h5.apart h4
  exact ⟨⟨hb, fun k hk => by simpa [World.setCell] using h1 k hk, h2, M, h3, h4.put 1 _, h5.keep (Below.heap_setCell _ _ _ _ (by simpa using hne))⟩, (Chg.refl T w).setCell h2 1 _⟩
end
/-! ### New -/
set_option maxHeartbeats 4000000 in
theorem prnew_any {wi : Int} (hp : rcB wi = true) {base : Nat} : Acts 9 #[.int .i64 wi] base Emp (fun R : Nat => .tuple #[.pointer (some ⟨R, 0, none⟩), .int .i64 0]) fun R => RcP R (RcS.new wi) := by
  intro T w hT hb hs
  have hb4 := rcB_yes hp
  have hok := RcIv.new hp
  have m1 := (MapJ.made w).keep (w' := (w.alloc (.map #[] 0)).alloc (.cells #[.int .i64 wi, .int .i64 0, .map (some w.heap.size)] 58)) ((MapKept.heap_alloc _ _).2 _ (by simp))
  have hw : Whole ((w.alloc (.map #[] 0)).alloc (.cells #[.int .i64 wi, .int .i64 0, .map (some w.heap.size)] 58)) (w.heap.size + 1) 58 #[.int .i64 wi, .int .i64 0, .map (some w.heap.size)] := by
    have := Whole.fresh (w.alloc (.map #[] 0)) 58 #[.int .i64 wi, .int .i64 0, .map (some w.heap.size)]
    simpa using this
  have HF := Lib.hid (show ∃ i : Nat, Ending.returned (.tuple #[.pointer (some ⟨w.heap.size + 1, 0, none⟩), .int .i64 0]) = .returned (.tuple #[.pointer (some ⟨i, 0, none⟩), .int .i64 0]) ∧ (∃ T', RcP i (RcS.new wi) T' ((w.alloc (.map #[] 0)).alloc (.cells #[.int .i64 wi, .int .i64 0, .map (some w.heap.size)] 58)) ∧ ∀ j, T' j → T j ∨ w.heap.size ≤ j) ∧ Chg T w ((w.alloc (.map #[] 0)).alloc (.cells #[.int .i64 wi, .int .i64 0, .map (some w.heap.size)] 58)) from
    ⟨w.heap.size + 1, rfl, ⟨fun j => w.heap.size ≤ j ∧ j < w.heap.size + 2, ⟨hok, fun j hj => by simp; omega, by omega, w.heap.size, by omega, hw, m1⟩, fun j hj => .inr hj.1⟩, ((Chg.refl T w).alloc _).alloc _⟩)
  obtain ⟨a1, a2⟩ := hb4
  clear hok hp m1 hw
  have hmm := @run_makeMap Try.prog
  go_enter Try.func9, Try.ntmps9
  go_wp2
  go_ret2
  exact HF.out
set_option maxHeartbeats 4000000 in
theorem prnew_no {wi : Int} (hp : rcB wi = false) (w : World) : Calls Try.prog 9 #[.int .i64 wi] w (Calm (.tuple #[.pointer none, .int .i64 1]) w) := by
  have hc : wi < 1 ∨ (1 ≤ wi ∧ 64 < wi) := by
    by_cases h : 1 ≤ wi ∧ wi ≤ 64
    · rw [rcB_of h] at hp; cases hp
    · omega
  clear hp
  unfold Calm
  rcases hc with h1 | ⟨h1, h2⟩
  all_goals
    go_enter Try.func9, Try.ntmps9
    go_wp2
    go_ret2
    exact ⟨rfl, Below.refl _ _⟩
section
variable {R : Nat} {s : RcS} {T : Nat → Prop} {w : World}
/-! ### Expected -/
set_option maxHeartbeats 4000000 in
theorem prexp_any (h : RcP R s T w) : Calls Try.prog 18 #[.pointer (some ⟨R, 0, none⟩)] w (Calm (.int .i64 s.nx) w) := by
  obtain ⟨M, _, _, _, hr⟩ := h.open_
  have d1 := (hr w (Below.refl _ _)).c1
  clear hr h
  unfold Calm
  go_enter Try.func18, Try.ntmps18
  go_wp2
  go_ret
  exact ⟨rfl, Below.refl _ _⟩
/-! ### checkBase -/
theorem rc_chk_yes {b : Int} (h : befB s.nx b = true) : rcSkE s b = 0 := by
  have hbo : both s.nx b = true := by
    cases e : both s.nx b
    · rw [bef_no e] at h; cases h
    · rfl
  unfold befB at h
  rw [hbo] at h
  simp at h
  unfold rcSkE
  rw [(ds_yes hbo).1, (ds_yes hbo).2, if_neg (by omega), if_neg (by omega)]
theorem rc_chk_no {b : Int} (hn : RcIv s) (h : befB s.nx b = false) : rcSkE s b = if dsE b s.nx ≠ 0 then dsE b s.nx else if s.w < dsV b s.nx then 2 else 0 := by
  have hw := hn.w
  have n1 := isNum_yes hn.ok.nx.1 hn.ok.nx.2
  cases n2 : isNum b
  · have b1 := both_no (a := s.nx) (b := b) (.inr n2)
    have b2 := both_no (a := b) (b := s.nx) (.inl n2)
    unfold rcSkE
    rw [(ds_no b1).2, (ds_no b2).2]; rfl
  · have b1 := both_yes n1 n2
    have b2 := both_yes n2 n1
    have h3 := isNum_bd n2
    unfold befB at h
    rw [b1] at h
    simp at h
    unfold rcSkE
    rw [(ds_yes b1).1, (ds_yes b1).2, (ds_yes b2).1, (ds_yes b2).2]
    simp only [ne_eq, not_true_eq_false, if_false]
    by_cases h4 : s.w < (s.nx - b) % 65536
    · rw [if_pos h4, if_pos (by omega)]
    · rw [if_neg h4, if_neg (by omega)]
set_option maxHeartbeats 8000000 in
theorem prchk_any (h : RcP R s T w) (b : Int) : Calls Try.prog 24 #[.pointer (some ⟨R, 0, none⟩), .int .i64 b] w (Calm (.int .i64 (rcSkE s b)) w) := by
  obtain ⟨M, hiv, _, _, hr⟩ := h.open_
  obtain ⟨d0, d1, d2, _, _⟩ := hr w (Below.refl _ _)
  have HB := Lib.hid (before_any s.nx b w)
  have HD := Lib.hid (dist_any b s.nx w)
  cases hb : befB s.nx b
  · rw [rc_chk_no hiv hb]
    rw [hb] at HB
    clear hr h hiv hb
    generalize dsV b s.nx = dv at *
    generalize dsE b s.nx = de at *
    generalize s.w = wi at *
    generalize s.nx = nx at *
    unfold Calm
    by_cases h1 : de = 0
    · subst h1
      by_cases h2 : wi < dv
      · rw [if_neg (by simp), if_pos h2]
        go_enter Try.func24, Try.ntmps24
        go_wp2_with fail
        (with_reducible refine HB.out.mono ?_); rintro e w1 ⟨rfl, rfl⟩
        go_wp2_with fail
        (with_reducible refine HD.out.mono ?_); rintro e w1 ⟨rfl, rfl⟩
        go_wp2
        go_ret
        exact ⟨rfl, Below.refl _ _⟩
      · rw [if_neg (by simp), if_neg h2]
        have h2' : dv ≤ wi := by omega
        clear h2
        go_enter Try.func24, Try.ntmps24
        go_wp2_with fail
        (with_reducible refine HB.out.mono ?_); rintro e w1 ⟨rfl, rfl⟩
        go_wp2_with fail
        (with_reducible refine HD.out.mono ?_); rintro e w1 ⟨rfl, rfl⟩
        go_wp2
        go_ret
        exact ⟨rfl, Below.refl _ _⟩
    · rw [if_pos h1]
      have h1' : (de != 0) = true := by simpa using h1
      clear h1
      go_enter Try.func24, Try.ntmps24
      go_wp2_with fail
      (with_reducible refine HB.out.mono ?_); rintro e w1 ⟨rfl, rfl⟩
      go_wp2_with fail
      (with_reducible refine HD.out.mono ?_); rintro e w1 ⟨rfl, rfl⟩
      go_wp2
      go_ret
      exact ⟨rfl, Below.refl _ _⟩
  · rw [rc_chk_yes hb]
    rw [hb] at HB
    clear hr h hiv hb HD d0 d2
    generalize s.nx = nx at *
    unfold Calm
    go_enter Try.func24, Try.ntmps24
    go_wp2_with fail
    (with_reducible refine HB.out.mono ?_); rintro e w1 ⟨rfl, rfl⟩
    go_wp2
    go_ret
    exact ⟨rfl, Below.refl _ _⟩
end
/-! ### take -/
set_option maxHeartbeats 8000000 in
theorem prtake_any {R : Nat} {s : RcS} {base : Nat} {q : Int} (hq : 0 ≤ q ∧ q < 65536) : Acts 42 #[.pointer (some ⟨R, 0, none⟩), .int .i64 q] base (RcP R s) (fun _ : Unit => .int .i64 (rcTk s.l q)) fun _ => RcP R { s with l := rcRm s.l q } := by
  intro T w hP hb hs
  obtain ⟨M, hiv, _, _, hr⟩ := hP.open_
  obtain ⟨d0, d1, d2, _, lk⟩ := hr w (Below.refl _ _)
  have hlk := lk q hq
  obtain ⟨w2, hdel, hP2, hch⟩ := hP.del d2 hq 0
  have HF := Lib.hid (show (∃ T', RcP R { s with l := rcRm s.l q } T' w2 ∧ ∀ j, T' j → T j ∨ w.heap.size ≤ j) ∧ Chg T w w2 from ⟨⟨T, hP2, fun j hj => .inl hj⟩, hch⟩)
  generalize rcTk s.l q = tk at *
  clear hr hP hP2 hch hiv lk d0 d1 hb hs
  go_enter Try.func42, Try.ntmps42
  go_wp2
  go_ret
  first | exact ⟨rfl, HF.out⟩ | exact ⟨(), rfl, HF.out⟩
/-! ### hold -/
theorem rcTk_ne {l : List RcE} {q : Int} (h : ∀ x ∈ l, 1 ≤ x.i) : rcTk l q = 0 ↔ ¬ rcK l q < l.length := by
  constructor
  · intro h0 hk
    unfold rcTk at h0
    rw [dif_pos hk] at h0
    have := h _ (List.getElem_mem hk)
    omega
  · exact rcTk_zero
set_option maxHeartbeats 8000000 in
theorem prhld_any {R : Nat} {s : RcS} {base : Nat} {q i : Int} (hx : (0 ≤ q ∧ q < 65536) ∧ 1 ≤ i) (hd : befB q s.nx = false → (dOf s.nx q : Int) < s.w) : Acts 31 #[.pointer (some ⟨R, 0, none⟩), .int .i64 q, .int .i64 i] base (RcP R s) (fun _ : Unit => .tuple #[]) fun _ => RcP R (rcPut s ⟨q, i⟩) := by
  intro T w hP hb hs
  obtain ⟨M, hiv, _, _, hr⟩ := hP.open_
  obtain ⟨d0, d1, d2, _, lk⟩ := hr w (Below.refl _ _)
  have hlk := lk q hx.1
  have htk := rcTk_ne (l := s.l) (q := q) fun x hx => (hiv.ok.e x hx).2
  have HB := Lib.hid (before_any q s.nx w)
  have HF0 := Lib.hid (fun (h : rcThere s q = true) => (show (∃ T', RcP R (rcPut s ⟨q, i⟩) T' w ∧ ∀ j, T' j → T j ∨ w.heap.size ≤ j) ∧ Chg T w w from ⟨⟨T, by unfold rcPut; rw [if_pos h]; exact hP, fun j hj => .inl hj⟩, Chg.refl _ _⟩))
  cases hbf : befB q s.nx
  · rw [hbf] at HB
    by_cases h0 : rcTk s.l q = 0
    · have hth : rcThere s q = false := by
        unfold rcThere
        rw [hbf, decide_eq_false (htk.1 h0)]; rfl
      have hno := (rcThere_no hth).2
      obtain ⟨w2, hupd, hP2, hch⟩ := hP.put d2 (x := ⟨q, i⟩) hx hno (hd hbf)
      have HF := Lib.hid (show (∃ T', RcP R (rcPut s ⟨q, i⟩) T' w2 ∧ ∀ j, T' j → T j ∨ w.heap.size ≤ j) ∧ Chg T w w2 from ⟨⟨T, by unfold rcPut; rw [if_neg (by simp [hth])]; exact hP2, fun j hj => .inl hj⟩, hch⟩)
      rw [h0] at hlk
      simp only at hupd
      clear hr hP hP2 hch hiv lk d0 hb hs hno hth HF0 h0 htk hd hbf hx
      go_enter Try.func31, Try.ntmps31
      go_wp2_with fail
      (with_reducible refine HB.out.mono ?_); rintro e w1 ⟨rfl, rfl⟩
      go_wp2
      go_end0
      first | exact ⟨rfl, HF.out⟩ | exact ⟨(), rfl, HF.out⟩
    · have HF := Lib.hid (HF0.out (by unfold rcThere; rw [decide_eq_true (Decidable.byContradiction fun h => h0 (htk.2 h))]; simp))
      have h0' : (rcTk s.l q == 0) = false := by simpa using h0
      generalize rcTk s.l q = tk at *
      clear hr hP hiv lk d0 hb hs HF0 h0 htk hd hbf hx d1 HB
      go_enter Try.func31, Try.ntmps31
      go_wp2
      go_end0
      first | exact ⟨rfl, HF.out⟩ | exact ⟨(), rfl, HF.out⟩
  · rw [hbf] at HB
    have HF := Lib.hid (HF0.out (by unfold rcThere; rw [hbf]; rfl))
    by_cases h0 : rcTk s.l q = 0
    · rw [h0] at hlk
      clear hr hP hiv lk d0 hb hs HF0 h0 htk hd hbf hx
      go_enter Try.func31, Try.ntmps31
      go_wp2_with fail
      (with_reducible refine HB.out.mono ?_); rintro e w1 ⟨rfl, rfl⟩
      go_wp2
      go_end0
      first | exact ⟨rfl, HF.out⟩ | exact ⟨(), rfl, HF.out⟩
    · have h0' : (rcTk s.l q == 0) = false := by simpa using h0
      generalize rcTk s.l q = tk at *
      clear hr hP hiv lk d0 hb hs HF0 h0 htk hd hbf hx d1 HB
      go_enter Try.func31, Try.ntmps31
      go_wp2
      go_end0
      first | exact ⟨rfl, HF.out⟩ | exact ⟨(), rfl, HF.out⟩
end Go.Proofs.Ythmncipenjhknaa

