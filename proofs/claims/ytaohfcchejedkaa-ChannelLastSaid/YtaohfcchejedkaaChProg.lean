/-
  Layer 15: the program's Announce, Observe, History; the ten words that the statements' walks want. Written by gen_chp3.py.
-/
import Derived.Test.YtaohfcchejedkaaChP2
namespace Go.Proofs.Ytaohfcchejedkaa
open Go.ChangeShapes Go.WideShapes Go.ChangeAt Go.RowKit
set_option linter.unusedVariables false

theorem Chg.drew2 {T : Nat → Prop} {a w : World} {g : Nat} {o1 o2 : Nat} {u1 u2 : Value} (h : Chg T a ((w.setCell ⟨g, o1, none⟩ u1).setCell ⟨g, o2, none⟩ u2)) : Chg T a ((w.drew.setCell ⟨g, o1, none⟩ u1).setCell ⟨g, o2, none⟩ u2) := ⟨h.os, h.tape, h.output, h.size, h.block⟩
/-! ### Announce -/
theorem chF_ann {s : Ch} {X : Nat → Bool} {g : Bool} (h : decide (s.p.k = 2) = true) {i : Nat} : updV (updV (chF s X) 37 (.bool true)) 38 (.bool g) i = chF (s.ann g) X i := by
  unfold updV
  by_cases e1 : i = 38
  · subst e1; rw [if_pos rfl]; show Value.bool g = Value.bool (decide (s.p.k = 2) && g); rw [h]; rfl
  · rw [if_neg e1]
    by_cases e2 : i = 37
    · subst e2; rw [if_pos rfl]; show Value.bool true = Value.bool (decide (s.p.k = 2) && true); rw [h]; rfl
    · rw [if_neg e2]
      unfold chF
      rw [if_neg e1, if_neg e2, if_neg e1, if_neg e2]
      rfl
theorem chF_ann2 {s : Ch} {X : Nat → Bool} {g : Bool} (h : decide (s.p.k = 2) = false) {i : Nat} : chF s X i = chF (s.ann g) X i := by
  unfold chF
  have e1 : (decide ((s.ann g).p.k = 2) && (s.ann g).an) = (decide (s.p.k = 2) && s.an) := by rw [show (s.ann g).p = s.p from rfl, h]; rfl
  have e2 : (decide ((s.ann g).p.k = 2) && (s.ann g).sa) = (decide (s.p.k = 2) && s.sa) := by rw [show (s.ann g).p = s.p from rfl, h]; rfl
  rw [e1, e2]
  rfl
set_option maxRecDepth 100000 in
set_option maxHeartbeats 4000000 in
theorem pann_any {R : Nat} {s : Ch} {base : Nat} (g : Bool) : Acts 15 #[.pointer (some ⟨R, 0, none⟩), .bool g] base (ChP R s) (fun _ : Unit => .tuple #[]) fun _ => ChP R (s.ann g) := by
  intro T w ⟨hT, h0, X, hB, hR⟩ hb hs
  have hTR := (hT R).2 rfl
  have c36 : w.cell? ⟨R, 36, none⟩ = some (.bool (decide (s.p.k = 2))) := hB.cell (i := 36) (by omega)
  have c37 : w.cell? ⟨R, 37, none⟩ = some (.bool (decide (s.p.k = 2) && s.an)) := hB.cell (i := 37) (by omega)
  have c38 : w.cell? ⟨R, 38, none⟩ = some (.bool (decide (s.p.k = 2) && s.sa)) := hB.cell (i := 38) (by omega)
  have z37 := hB.free 37
  have z38 := hB.free 38
  cases hk : decide (s.p.k = 2)
  · have HF := Lib.hid (show ∃ i : Unit, Ending.returned (.tuple #[]) = .returned (.tuple #[]) ∧ (∃ T', ChP R (s.ann g) T' w ∧ ∀ j, T' j → T j ∨ w.heap.size ≤ j) ∧ Chg T w w from ⟨(), rfl, ⟨T, ⟨hT, h0.ann g, X, hB.same fun i hi => chF_ann2 hk, hR⟩, fun k hk => .inl hk⟩, Chg.refl _ _⟩)
    rw [hk] at c36
    clear c37 c38 hB hR h0 hT hTR
    go_enter Try.func15, Try.ntmps15
    go_wp2
    go_end0
    obtain ⟨_, _, h2, h3⟩ := HF.out
    first | exact ⟨rfl, h2, h3⟩ | exact ⟨(), rfl, h2, h3⟩
  · have HF := Lib.hid (show ∃ i : Unit, Ending.returned (.tuple #[]) = .returned (.tuple #[]) ∧ (∃ T', ChP R (s.ann g) T' ((w.setCell ⟨R, 37, none⟩ (.bool true)).setCell ⟨R, 38, none⟩ (.bool g)) ∧ ∀ j, T' j → T j ∨ w.heap.size ≤ j) ∧ Chg T w ((w.setCell ⟨R, 37, none⟩ (.bool true)).setCell ⟨R, 38, none⟩ (.bool g)) from
      ⟨(), rfl, ⟨T, ⟨hT, h0.ann g, X, ((hB.set_ (i := 37) (by omega) (.bool true)).set_ (i := 38) (by omega) (.bool g)).same fun i hi => chF_ann hk, hR⟩, fun k hk => .inl hk⟩, ((Chg.refl T w).setCell hTR 37 _).setCell hTR 38 _⟩)
    rw [hk] at c36 c37 c38
    clear hB hR h0 hT hTR
    go_enter Try.func15, Try.ntmps15
    go_wp2
    go_end0
    obtain ⟨_, _, h2, h3⟩ := HF.out
    first | exact ⟨rfl, h2, h3⟩ | exact ⟨(), rfl, h2, h3⟩
/-! ### Observe -/
theorem chF_ri {s : Ch} {X : Nat → Bool} {r : Int} {i : Nat} : updV (chF s X) 35 (.int .i64 r) i = chF { s with ri := r } X i := by
  unfold updV
  by_cases e : i = 35
  · subst e; rfl
  · rw [if_neg e]
    unfold chF
    rw [if_neg e, if_neg e]
theorem chF_obs {s : Ch} {X : Nat → Bool} {g : Bool} {i : Nat} (hi : i < 39) : updV (updV (updV (chF { s with ri := (s.obs g).ri } X) (2 + s.l.length % 32) (.bool g)) 34 (.int .i64 ((s.l.length : Int) + 1))) 37 (.bool false) i = chF (s.obs g) (fun i => if i = s.l.length % 32 then g else X i) i := by
  have hm : s.l.length % 32 < 32 := by omega
  generalize s.l.length % 32 = q at *
  unfold updV
  by_cases e1 : i = 37
  · subst e1; rw [if_pos rfl]; simp [chF, Ch.obs]
  rw [if_neg e1]
  by_cases e2 : i = 34
  · subst e2; rw [if_pos rfl]; simp [chF, Ch.obs]
  rw [if_neg e2]
  by_cases e3 : i = 2 + q
  · subst e3; rw [if_pos rfl, chF_st _ _ hm]; simp
  rw [if_neg e3]
  unfold chF
  by_cases a0 : i = 0
  · subst a0; rfl
  by_cases a1 : i = 1
  · subst a1; rfl
  by_cases a5 : i = 35
  · subst a5; rfl
  by_cases a6 : i = 36
  · subst a6; rfl
  by_cases a8 : i = 38
  · subst a8; rfl
  rw [if_neg a0, if_neg a1, if_neg e2, if_neg a5, if_neg a6, if_neg e1, if_neg a8, if_neg a0, if_neg a1, if_neg e2, if_neg a5, if_neg a6, if_neg e1, if_neg a8]
  show Value.bool (X (i - 2)) = Value.bool (if i - 2 = q then g else X (i - 2))
  rw [if_neg (by omega)]
set_option maxRecDepth 100000 in
set_option maxHeartbeats 8000000 in
theorem pobs_any {R : Nat} {s : Ch} (hn : s.l.length ≤ 99999) {base : Nat} (g : Bool) : Acts 17 #[.pointer (some ⟨R, 0, none⟩), .bool g] base (ChP R s) (fun _ : Unit => .tuple #[]) fun _ => ChP R (s.obs g) := by
  intro T w ⟨hT, hP⟩ hb hs
  have HP := Lib.hid (ppredB_any hP (by omega))
  unfold Calm at HP
  obtain ⟨h0, X, hB, hR⟩ := hP
  have hok := h0.obs g
  have hr0 := h0.r
  have hTR := (hT R).2 rfl
  by_cases hpg : prB s = g
  · have hri : (s.obs g).ri = s.ri + 1 := by simp [Ch.obs, hpg]
    have hpt : (prB s == g) = true := by simp [hpg]
    have hwr : IntKind.i64.wrap (s.ri + 1) = s.ri + 1 := IntWalk.i64_in _ (by omega)
    have HK := Lib.hid (fun (w1 : World) (hb1 : Below w.heap.size w w1) => (by
      have hB1 := hB.later (hb1.mono (Nat.le_refl _))
      have c35 : w1.cell? ⟨R, 35, none⟩ = some (.int .i64 s.ri) := hB1.cell (i := 35) (by omega)
      have hBA : Blk (w1.setCell ⟨R, 35, none⟩ (.int .i64 (s.ri + 1))) R 54 39 (chF { s with ri := (s.obs g).ri } X) := (hB1.set_ (i := 35) (by omega) (.int .i64 (s.ri + 1))).same (fun i hi => by rw [hri]; exact chF_ri)
      have h34 : (w1.setCell ⟨R, 35, none⟩ (.int .i64 (s.ri + 1))).cell? ⟨R, 34, none⟩ = some (.int .i64 (s.l.length : Nat)) := hBA.cell (i := 34) (by omega)
      have hq : (w1.setCell ⟨R, 35, none⟩ (.int .i64 (s.ri + 1))).cell? ⟨R, 2 + s.l.length % 32, none⟩ = some (.bool (X (s.l.length % 32))) := by
        have := hBA.cell (i := 2 + s.l.length % 32) (by omega)
        rw [chF_st _ _ (by omega)] at this; exact this
      have hBB := hBA.set_ (i := 2 + s.l.length % 32) (by omega) (.bool g)
      have h34b : ((w1.setCell ⟨R, 35, none⟩ (.int .i64 (s.ri + 1))).setCell ⟨R, 2 + s.l.length % 32, none⟩ (.bool g)).cell? ⟨R, 34, none⟩ = some (.int .i64 (s.l.length : Nat)) := (hBB.cell (i := 34) (by omega)).trans (by rw [updV_ne (by omega)]; rfl)
      have hBC := hBB.set_ (i := 34) (by omega) (.int .i64 ((s.l.length : Int) + 1))
      have h37c : (((w1.setCell ⟨R, 35, none⟩ (.int .i64 (s.ri + 1))).setCell ⟨R, 2 + s.l.length % 32, none⟩ (.bool g)).setCell ⟨R, 34, none⟩ (.int .i64 ((s.l.length : Int) + 1))).cell? ⟨R, 37, none⟩ = some (.bool (decide (s.p.k = 2) && s.an)) := (hBC.cell (i := 37) (by omega)).trans (by rw [updV_ne (by omega), updV_ne (by omega)]; rfl)
      have hBD := (hBC.set_ (i := 37) (by omega) (.bool false)).same (f' := chF (s.obs g) (fun i => if i = s.l.length % 32 then g else X i)) (fun i hi => chF_obs hi)
      exact ⟨⟨c35, hB1.free 35⟩, ⟨h34, hq, hBA.free _⟩, ⟨h34b, hBB.free _⟩, ⟨h37c, hBC.free _⟩, ⟨hok, _, hBD.carry rfl, hR.push g⟩, (((((Chg.of_below (S := T) hb1).setCell hTR 35 _).setCell hTR _ _).setCell hTR _ _).setCell hTR _ _)⟩ :
      (w1.cell? ⟨R, 35, none⟩ = some (.int .i64 s.ri) ∧ w1.frozen? ⟨R, 35, none⟩ = false) ∧
      ((w1.setCell ⟨R, 35, none⟩ (.int .i64 (s.ri + 1))).cell? ⟨R, 34, none⟩ = some (.int .i64 (s.l.length : Nat)) ∧ (w1.setCell ⟨R, 35, none⟩ (.int .i64 (s.ri + 1))).cell? ⟨R, 2 + s.l.length % 32, none⟩ = some (.bool (X (s.l.length % 32))) ∧ (w1.setCell ⟨R, 35, none⟩ (.int .i64 (s.ri + 1))).frozen? ⟨R, 2 + s.l.length % 32, none⟩ = false) ∧
      (((w1.setCell ⟨R, 35, none⟩ (.int .i64 (s.ri + 1))).setCell ⟨R, 2 + s.l.length % 32, none⟩ (.bool g)).cell? ⟨R, 34, none⟩ = some (.int .i64 (s.l.length : Nat)) ∧ ((w1.setCell ⟨R, 35, none⟩ (.int .i64 (s.ri + 1))).setCell ⟨R, 2 + s.l.length % 32, none⟩ (.bool g)).frozen? ⟨R, 34, none⟩ = false) ∧
      ((((w1.setCell ⟨R, 35, none⟩ (.int .i64 (s.ri + 1))).setCell ⟨R, 2 + s.l.length % 32, none⟩ (.bool g)).setCell ⟨R, 34, none⟩ (.int .i64 ((s.l.length : Int) + 1))).cell? ⟨R, 37, none⟩ = some (.bool (decide (s.p.k = 2) && s.an)) ∧ (((w1.setCell ⟨R, 35, none⟩ (.int .i64 (s.ri + 1))).setCell ⟨R, 2 + s.l.length % 32, none⟩ (.bool g)).setCell ⟨R, 34, none⟩ (.int .i64 ((s.l.length : Int) + 1))).frozen? ⟨R, 37, none⟩ = false) ∧
      ChB R (s.obs g) ((((w1.setCell ⟨R, 35, none⟩ (.int .i64 (s.ri + 1))).setCell ⟨R, 2 + s.l.length % 32, none⟩ (.bool g)).setCell ⟨R, 34, none⟩ (.int .i64 ((s.l.length : Int) + 1))).setCell ⟨R, 37, none⟩ (.bool false)) ∧
      Chg T w ((((w1.setCell ⟨R, 35, none⟩ (.int .i64 (s.ri + 1))).setCell ⟨R, 2 + s.l.length % 32, none⟩ (.bool g)).setCell ⟨R, 34, none⟩ (.int .i64 ((s.l.length : Int) + 1))).setCell ⟨R, 37, none⟩ (.bool false))))
    have HT := Lib.hid hT
    clear hB hok hR hri hpg hr0 h0 hT
    obtain ⟨n, hN⟩ : ∃ n, s.l.length = n := ⟨_, rfl⟩
    obtain ⟨q, hQ⟩ : ∃ q, n % 32 = q := ⟨_, rfl⟩
    rw [hN, hQ] at HK
    rw [hN] at hn
    have hq32 : q < 32 := by omega
    have hqi : (q : Int) < 32 := by omega
    have w1' : Int.tmod (n : Int) 32 = (q : Int) := by rw [Int.tmod_eq_emod_of_nonneg (by omega)]; omega
    have w2' : (n : Int) % 32 = (q : Int) := by omega
    have w3' : IntKind.i64.wrap (q : Int) = (q : Int) := IntWalk.i64_in _ (by omega)
    have w4' : IntKind.i64.wrap ((n : Int) + 1) = (n : Int) + 1 := IntWalk.i64_in _ (by omega)
    generalize prB s = pb at *
    clear hN hQ
    go_enter Try.func17, Try.ntmps17
    go_wp2_with fail
    (with_reducible refine HP.out.mono ?_); rintro e w1 ⟨rfl, hb1⟩
    obtain ⟨⟨c35, z35⟩, ⟨c34, cq, zq⟩, ⟨c34b, z34⟩, ⟨c37, z37⟩, hE, hC⟩ := HK.out w1 hb1
    have HF := Lib.hid (And.intro hE hC)
    clear hE hC hb1 HP HK
    go_wp2_with fail
    go_region
    go_wp2
    go_end0
    obtain ⟨h1, h2⟩ := HF.out
    first | exact ⟨rfl, ⟨T, ⟨HT.out, h1.carry rfl⟩, fun k hk => .inl hk⟩, h2.drew2⟩ | exact ⟨(), rfl, ⟨T, ⟨HT.out, h1.carry rfl⟩, fun k hk => .inl hk⟩, h2.drew2⟩
  · have hri : (s.obs g).ri = s.ri := by simp [Ch.obs, hpg]
    have hpt : (prB s == g) = false := by simpa using hpg
    have hwr : IntKind.i64.wrap (s.ri + 1) = s.ri + 1 := IntWalk.i64_in _ (by omega)
    have HK := Lib.hid (fun (w1 : World) (hb1 : Below w.heap.size w w1) => (by
      have hB1 := hB.later (hb1.mono (Nat.le_refl _))
      have c35 : w1.cell? ⟨R, 35, none⟩ = some (.int .i64 s.ri) := hB1.cell (i := 35) (by omega)
      have hBA : Blk w1 R 54 39 (chF { s with ri := (s.obs g).ri } X) := hB1.same (fun i hi => by rw [hri])
      have h34 : w1.cell? ⟨R, 34, none⟩ = some (.int .i64 (s.l.length : Nat)) := hBA.cell (i := 34) (by omega)
      have hq : w1.cell? ⟨R, 2 + s.l.length % 32, none⟩ = some (.bool (X (s.l.length % 32))) := by
        have := hBA.cell (i := 2 + s.l.length % 32) (by omega)
        rw [chF_st _ _ (by omega)] at this; exact this
      have hBB := hBA.set_ (i := 2 + s.l.length % 32) (by omega) (.bool g)
      have h34b : (w1.setCell ⟨R, 2 + s.l.length % 32, none⟩ (.bool g)).cell? ⟨R, 34, none⟩ = some (.int .i64 (s.l.length : Nat)) := (hBB.cell (i := 34) (by omega)).trans (by rw [updV_ne (by omega)]; rfl)
      have hBC := hBB.set_ (i := 34) (by omega) (.int .i64 ((s.l.length : Int) + 1))
      have h37c : ((w1.setCell ⟨R, 2 + s.l.length % 32, none⟩ (.bool g)).setCell ⟨R, 34, none⟩ (.int .i64 ((s.l.length : Int) + 1))).cell? ⟨R, 37, none⟩ = some (.bool (decide (s.p.k = 2) && s.an)) := (hBC.cell (i := 37) (by omega)).trans (by rw [updV_ne (by omega), updV_ne (by omega)]; rfl)
      have hBD := (hBC.set_ (i := 37) (by omega) (.bool false)).same (f' := chF (s.obs g) (fun i => if i = s.l.length % 32 then g else X i)) (fun i hi => chF_obs hi)
      exact ⟨⟨c35, hB1.free 35⟩, ⟨h34, hq, hBA.free _⟩, ⟨h34b, hBB.free _⟩, ⟨h37c, hBC.free _⟩, ⟨hok, _, hBD.carry rfl, hR.push g⟩, ((((Chg.of_below (S := T) hb1).setCell hTR _ _).setCell hTR _ _).setCell hTR _ _)⟩ :
      (w1.cell? ⟨R, 35, none⟩ = some (.int .i64 s.ri) ∧ w1.frozen? ⟨R, 35, none⟩ = false) ∧
      (w1.cell? ⟨R, 34, none⟩ = some (.int .i64 (s.l.length : Nat)) ∧ w1.cell? ⟨R, 2 + s.l.length % 32, none⟩ = some (.bool (X (s.l.length % 32))) ∧ w1.frozen? ⟨R, 2 + s.l.length % 32, none⟩ = false) ∧
      ((w1.setCell ⟨R, 2 + s.l.length % 32, none⟩ (.bool g)).cell? ⟨R, 34, none⟩ = some (.int .i64 (s.l.length : Nat)) ∧ (w1.setCell ⟨R, 2 + s.l.length % 32, none⟩ (.bool g)).frozen? ⟨R, 34, none⟩ = false) ∧
      (((w1.setCell ⟨R, 2 + s.l.length % 32, none⟩ (.bool g)).setCell ⟨R, 34, none⟩ (.int .i64 ((s.l.length : Int) + 1))).cell? ⟨R, 37, none⟩ = some (.bool (decide (s.p.k = 2) && s.an)) ∧ ((w1.setCell ⟨R, 2 + s.l.length % 32, none⟩ (.bool g)).setCell ⟨R, 34, none⟩ (.int .i64 ((s.l.length : Int) + 1))).frozen? ⟨R, 37, none⟩ = false) ∧
      ChB R (s.obs g) (((w1.setCell ⟨R, 2 + s.l.length % 32, none⟩ (.bool g)).setCell ⟨R, 34, none⟩ (.int .i64 ((s.l.length : Int) + 1))).setCell ⟨R, 37, none⟩ (.bool false)) ∧
      Chg T w (((w1.setCell ⟨R, 2 + s.l.length % 32, none⟩ (.bool g)).setCell ⟨R, 34, none⟩ (.int .i64 ((s.l.length : Int) + 1))).setCell ⟨R, 37, none⟩ (.bool false))))
    have HT := Lib.hid hT
    clear hB hok hR hri hpg hr0 h0 hT
    obtain ⟨n, hN⟩ : ∃ n, s.l.length = n := ⟨_, rfl⟩
    obtain ⟨q, hQ⟩ : ∃ q, n % 32 = q := ⟨_, rfl⟩
    rw [hN, hQ] at HK
    rw [hN] at hn
    have hq32 : q < 32 := by omega
    have hqi : (q : Int) < 32 := by omega
    have w1' : Int.tmod (n : Int) 32 = (q : Int) := by rw [Int.tmod_eq_emod_of_nonneg (by omega)]; omega
    have w2' : (n : Int) % 32 = (q : Int) := by omega
    have w3' : IntKind.i64.wrap (q : Int) = (q : Int) := IntWalk.i64_in _ (by omega)
    have w4' : IntKind.i64.wrap ((n : Int) + 1) = (n : Int) + 1 := IntWalk.i64_in _ (by omega)
    generalize prB s = pb at *
    clear hN hQ
    go_enter Try.func17, Try.ntmps17
    go_wp2_with fail
    (with_reducible refine HP.out.mono ?_); rintro e w1 ⟨rfl, hb1⟩
    obtain ⟨⟨c35, z35⟩, ⟨c34, cq, zq⟩, ⟨c34b, z34⟩, ⟨c37, z37⟩, hE, hC⟩ := HK.out w1 hb1
    have HF := Lib.hid (And.intro hE hC)
    clear hE hC hb1 HP HK
    go_wp2_with fail
    go_region
    go_wp2
    go_end0
    obtain ⟨h1, h2⟩ := HF.out
    first | exact ⟨rfl, ⟨T, ⟨HT.out, h1.carry rfl⟩, fun k hk => .inl hk⟩, h2.drew2⟩ | exact ⟨(), rfl, ⟨T, ⟨HT.out, h1.carry rfl⟩, fun k hk => .inl hk⟩, h2.drew2⟩
/-! ### History -/
theorem hist_len (s : Ch) : s.hist.length = min s.l.length 32 := by unfold Ch.hist lastN; rw [List.length_drop]; omega
theorem hist_at {s : Ch} {k : Nat} (hk : k < s.hist.length) : s.hist[k] = agB s.l (s.hist.length - k) := by
  have h1 := hist_len s
  rw [agB_in (by omega) (by omega)]
  have e : s.hist = s.l.drop (s.l.length - 32) := rfl
  have h2 : s.hist[k] = (s.l.drop (s.l.length - 32))[k]'(by rw [← e]; exact hk) := rfl
  rw [h2, List.getElem_drop]
  congr 1; omega
theorem Blk.of_make {w : World} {base g n : Nat} {t : TypeId} (hown : w.ownsRow base t 1 (.slice (some ⟨g, 0, none⟩) n n) n (madeCells (Value.bool false).cells (n * 1)).toList) : Blk w g t n (fun _ => .bool false) := by
  obtain ⟨h1, h2⟩ := hown
  rcases h2 with ⟨h2, _⟩ | ⟨g', cap', cur, hv, _, hh, hn, _, hc, htake⟩
  · simp at h2
  · simp only [Value.slice.injEq, Option.some.injEq, Addr.mk.injEq, and_true, true_and] at hv
    obtain ⟨rfl, rfl⟩ := hv
    refine ⟨cur, hh, by omega, fun i hi => ?_⟩
    rw [Nat.mul_one] at hc
    have hl : cur.toList = (madeCells (Value.bool false).cells (n * 1)).toList := by rw [← htake, List.take_of_length_le (by simp; omega)]
    have : cur = madeCells (Value.bool false).cells (n * 1) := Array.toList_inj.1 hl
    rw [this]
    simp [madeCells, hi, Value.cells]
    rw [show i % 1 = 0 by omega]; rfl
set_option maxRecDepth 100000 in
set_option maxHeartbeats 8000000 in
theorem phistB_any {R : Nat} {s : Ch} (hn : s.l.length ≤ 100000) {w : World} (h : ChB R s w) : Calls Try.prog 23 #[.pointer (some ⟨R, 0, none⟩)] w (GotH s.hist w) := by
  have HH := Lib.hid h
  obtain ⟨h0, X, hB, hR⟩ := h
  have c34 : w.cell? ⟨R, 34, none⟩ = some (.int .i64 (s.l.length : Nat)) := hB.cell (i := 34) (by omega)
  have hRl := hB.lt
  obtain ⟨m, hm⟩ : ∃ m, s.hist.length = m := ⟨_, rfl⟩
  have hlen := hist_len s
  have HAT := Lib.hid (fun k (hk : k < s.hist.length) => hist_at (s := s) hk)
  rw [hm] at hlen
  have hmn : min (s.l.length : Int) 32 = m := by omega
  have hm32 : m ≤ 32 := by omega
  have HST := Lib.hid (fun (W : World) (hw : Below w.heap.size w W) (i : Nat) (h1 : 1 ≤ i) (h2 : i ≤ 32) => pstate_any (HH.out.later hw) hn h1 h2)
  have HEND := Lib.hid (fun (W : World) (g : Nat) (hg : w.heap.size ≤ g) (hbk : Blk W g 4 m (fun i => .bool (agB s.l (m - i)))) (hb : Below w.heap.size w W) => show GotH s.hist w (.returned (.slice (some ⟨g, 0, none⟩) m m)) W from
    ⟨_, m, by rw [hm], fun k hk => ⟨g, 0, rfl, Nat.zero_le _, hbk.lt, fun j hj => by
      obtain rfl : j = 0 := by omega
      have hkm : k < m := by omega
      have h9 := hbk.cell hkm
      rw [HAT.out k hk, hm, Nat.zero_add, Nat.mul_one, Nat.add_zero, h9]
      rfl⟩, hb⟩)
  obtain ⟨i0, hii, hz0, hz1, hz2⟩ := info_parts info_bl
  clear HAT hB h0 hR
  unfold GotH at *
  rcases Nat.lt_or_ge 32 s.l.length with hc | hc
  rotate_left 1
  · have hcI : (s.l.length : Int) ≤ 32 := by omega
    obtain rfl : m = s.l.length := by omega
    clear hmn hlen
    go_enter Try.func23, Try.ntmps23
    go_wp2_with (at_make; (refine wpList_make_full _ rfl _ _ 43 rfl w.heap.size 4 i0 _ 1 Try.underlying43 hii hz0 hz1 .i64 .i64 _ _ s.l.length rfl rfl rfl rfl (by rw [hz2]; omega) (by unfold maxLen; omega) (Nat.le_refl _) ?_); intro w3 hown hg; have HO := Lib.hid hown; have HG := Lib.hid hg; clear hown hg hii hz0 hz1 hz2)
    have HBK0 := Lib.hid (Blk.of_make HO.out)
    have HB0 := Lib.hid ((Below.refl w.heap.size w).grown HG.out (by omega) (by intro k hk; cases hk))
    clear HO HG
    go_wp2_with fail
    go_loopw [4, 13] (fun s4 s13 wr => ∃ k : Nat, k ≤ s.l.length ∧ s13 = .int .i64 k ∧ Hid (Blk wr w.heap.size 4 s.l.length (fun i => .bool (if i < k then agB s.l (s.l.length - i) else false))) ∧ Hid (Below w.heap.size w wr)) (fun _ s13 _ => s.l.length - (intOf s13).toNat)
    case atStart => exact ⟨0, Nat.zero_le _, rfl, Lib.hid (HBK0.out.same fun i hi => by simp), HB0⟩
    case round =>
      obtain ⟨k, hk, rfl, HBK, HW⟩ := hrel
      by_cases hlt : k < s.l.length
      · have hlt' : (k : Int) < s.l.length := by omega
        have hk0 : (0 : Int) ≤ k := by omega
        obtain ⟨a, ha⟩ : ∃ a : Nat, s.l.length - k = a := ⟨_, rfl⟩
        have hwr : IntKind.i64.wrap ((s.l.length : Int) - k) = (a : Int) := by rw [IntWalk.i64_in _ (by omega)]; omega
        have HS := Lib.hid (HST.out wr HW.out a (by omega) (by omega))
        unfold Calm at HS
        have HNX := Lib.hid (fun (W : World) (hb : Below wr.heap.size wr W) => (by
          have h1 := HBK.out.later hb
          have h2 := (h1.set_ hlt (.bool (agB s.l a))).same (f' := fun i => .bool (if i < k + 1 then agB s.l (s.l.length - i) else false)) (fun i hi => by
            unfold updV
            by_cases e : i = k
            · subst e; simp [ha]
            · rw [if_neg e]
              show Value.bool _ = Value.bool _
              congr 1
              by_cases h : i < k
              · rw [if_pos h, if_pos (by omega)]
              · rw [if_neg h, if_neg (by omega)])
          exact ⟨⟨by have := h1.cell hlt; rw [if_neg (by omega)] at this; exact this, h1.free _⟩, Lib.hid h2, Lib.hid ((HW.out.trans (hb.mono HW.out.size)).setCell (p := ⟨w.heap.size, k, none⟩) (Nat.le_refl _) (.bool (agB s.l a)))⟩ :
          (W.cell? ⟨w.heap.size, k, none⟩ = some (.bool false) ∧ W.frozen? ⟨w.heap.size, k, none⟩ = false) ∧ Hid (Blk (W.setCell ⟨w.heap.size, k, none⟩ (.bool (agB s.l a))) w.heap.size 4 s.l.length (fun i => .bool (if i < k + 1 then agB s.l (s.l.length - i) else false))) ∧ Hid (Below w.heap.size w (W.setCell ⟨w.heap.size, k, none⟩ (.bool (agB s.l a))))))
        clear HBK HST HEND HW ha HBK0 HB0
        go_wp2_with fail
        (with_reducible refine HS.out.mono ?_); rintro e w9 ⟨rfl, hb9⟩
        obtain ⟨⟨d0, z0⟩, HBK2, HW2⟩ := HNX.out w9 hb9
        clear hb9 HS HNX
        go_wp2
        go_roundw
        case rel => exact ⟨k + 1, by omega, by go_num, HBK2, HW2⟩
        case measure => simp [intOf]; omega
      · obtain rfl : k = s.l.length := by omega
        have HF := Lib.hid (HEND.out wr w.heap.size (Nat.le_refl _) (HBK.out.same fun i hi => by rw [if_pos hi]) HW.out)
        clear HBK HST HEND HW HBK0 HB0
        go_wp2
        go_ret
        exact HF.out
  · have hcI : (32 : Int) < (s.l.length : Int) := by omega
    obtain rfl : m = 32 := by omega
    clear hmn hlen
    go_enter Try.func23, Try.ntmps23
    go_wp2_with (at_make; (refine wpList_make_full _ rfl _ _ 43 rfl w.heap.size 4 i0 _ 1 Try.underlying43 hii hz0 hz1 .i64 .i64 _ _ 32 rfl rfl rfl rfl (by rw [hz2]; omega) (by unfold maxLen; omega) (Nat.le_refl _) ?_); intro w3 hown hg; have HO := Lib.hid hown; have HG := Lib.hid hg; clear hown hg hii hz0 hz1 hz2)
    have HBK0 := Lib.hid (Blk.of_make HO.out)
    have HB0 := Lib.hid ((Below.refl w.heap.size w).grown HG.out (by omega) (by intro k hk; cases hk))
    clear HO HG
    go_wp2_with fail
    go_loopw [4, 13] (fun s4 s13 wr => ∃ k : Nat, k ≤ 32 ∧ s13 = .int .i64 k ∧ Hid (Blk wr w.heap.size 4 32 (fun i => .bool (if i < k then agB s.l (32 - i) else false))) ∧ Hid (Below w.heap.size w wr)) (fun _ s13 _ => 32 - (intOf s13).toNat)
    case atStart => exact ⟨0, Nat.zero_le _, rfl, Lib.hid (HBK0.out.same fun i hi => by simp), HB0⟩
    case round =>
      obtain ⟨k, hk, rfl, HBK, HW⟩ := hrel
      by_cases hlt : k < 32
      · have hlt' : (k : Int) < 32 := by omega
        have hk0 : (0 : Int) ≤ k := by omega
        obtain ⟨a, ha⟩ : ∃ a : Nat, 32 - k = a := ⟨_, rfl⟩
        have hwr : IntKind.i64.wrap ((32 : Int) - k) = (a : Int) := by rw [IntWalk.i64_in _ (by omega)]; omega
        have HS := Lib.hid (HST.out wr HW.out a (by omega) (by omega))
        unfold Calm at HS
        have HNX := Lib.hid (fun (W : World) (hb : Below wr.heap.size wr W) => (by
          have h1 := HBK.out.later hb
          have h2 := (h1.set_ hlt (.bool (agB s.l a))).same (f' := fun i => .bool (if i < k + 1 then agB s.l (32 - i) else false)) (fun i hi => by
            unfold updV
            by_cases e : i = k
            · subst e; simp [ha]
            · rw [if_neg e]
              show Value.bool _ = Value.bool _
              congr 1
              by_cases h : i < k
              · rw [if_pos h, if_pos (by omega)]
              · rw [if_neg h, if_neg (by omega)])
          exact ⟨⟨by have := h1.cell hlt; rw [if_neg (by omega)] at this; exact this, h1.free _⟩, Lib.hid h2, Lib.hid ((HW.out.trans (hb.mono HW.out.size)).setCell (p := ⟨w.heap.size, k, none⟩) (Nat.le_refl _) (.bool (agB s.l a)))⟩ :
          (W.cell? ⟨w.heap.size, k, none⟩ = some (.bool false) ∧ W.frozen? ⟨w.heap.size, k, none⟩ = false) ∧ Hid (Blk (W.setCell ⟨w.heap.size, k, none⟩ (.bool (agB s.l a))) w.heap.size 4 32 (fun i => .bool (if i < k + 1 then agB s.l (32 - i) else false))) ∧ Hid (Below w.heap.size w (W.setCell ⟨w.heap.size, k, none⟩ (.bool (agB s.l a))))))
        clear HBK HST HEND HW ha HBK0 HB0
        go_wp2_with fail
        (with_reducible refine HS.out.mono ?_); rintro e w9 ⟨rfl, hb9⟩
        obtain ⟨⟨d0, z0⟩, HBK2, HW2⟩ := HNX.out w9 hb9
        clear hb9 HS HNX
        go_wp2
        go_roundw
        case rel => exact ⟨k + 1, by omega, by go_num, HBK2, HW2⟩
        case measure => simp [intOf]; omega
      · obtain rfl : k = 32 := by omega
        have HF := Lib.hid (HEND.out wr w.heap.size (Nat.le_refl _) (HBK.out.same fun i hi => by rw [if_pos hi]) HW.out)
        clear HBK HST HEND HW HBK0 HB0
        go_wp2
        go_ret
        exact HF.out
/-! ### as the walks want them -/
theorem ppred_any {R : Nat} {s : Ch} (hn : s.l.length ≤ 100000) {T : Nat → Prop} {w : World} (h : ChP R s T w) : Calls Try.prog 20 #[.pointer (some ⟨R, 0, none⟩)] w (Calm (.bool (prB s)) w) := ppredB_any h.2 hn
theorem pscore_any {R : Nat} {s : Ch} (hn : s.l.length ≤ 100000) {T : Nat → Prop} {w : World} (h : ChP R s T w) : Calls Try.prog 19 #[.pointer (some ⟨R, 0, none⟩)] w (Calm (.tuple #[.int .i64 s.l.length, .int .i64 s.ri]) w) := pscoreB_any h.2
theorem phist_any {R : Nat} {s : Ch} (hn : s.l.length ≤ 100000) {T : Nat → Prop} {w : World} (h : ChP R s T w) : Calls Try.prog 23 #[.pointer (some ⟨R, 0, none⟩)] w (GotH s.hist w) := phistB_any hn h.2
end Go.Proofs.Ytaohfcchejedkaa

