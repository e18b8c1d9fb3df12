/-
  Layer 17: contracts of the reference's Skip and Receive. Written by gen_rcref4.py.
-/
import Derived.Test.YthmncipenjhknaaRcRef3
namespace Go.Proofs.Ythmncipenjhknaa
open Go.ChangeShapes Go.WideShapes Go.ChangeAt Go.RowKit
set_option linter.unusedVariables false

/-- Nothing released, nothing changed. -/
theorem rr_none {S : Nat} {s : RcS} {T : Nat → Prop} {w W : World} (h : RrP S s T w) (hb : Below w.heap.size w W) :
    (∃ T', Star (LsP csI 1 3 (.slice none 0 0) []) (RrP S s) T' W ∧ ∀ j, T' j → T j ∨ w.heap.size ≤ j) ∧ Chg T w W :=
  ⟨⟨T, ⟨fun _ => False, T, fun k => by simp, fun k hk => hk.elim, ⟨fun k hk => hk.elim, LsG.nil _ _⟩, h.later hb⟩, fun k hk => .inl hk⟩, Chg.of_below hb⟩
theorem At.post {S : Nat} {s : RcS} {T : Nat → Prop} {w W : World} {v : Value} {L : List Int} (h : At T w (Star (LsP csI 1 3 v L) (RrP S s)) W) :
    (∃ T', Star (LsP csI 1 3 v L) (RrP S s) T' W ∧ ∀ j, T' j → T j ∨ w.heap.size ≤ j) ∧ Chg T w W := by
  obtain ⟨T1, h1, h2, h3⟩ := h; exact ⟨⟨T1, h1, h2⟩, h3⟩
theorem ds_num {a b : Int} (h : dsE a b = 0) : both a b = true := by
  cases hb : both a b
  · rw [(ds_no hb).2] at h; cases h
  · rfl
set_option maxRecDepth 100000 in
set_option maxHeartbeats 8000000 in
theorem rrskp_any {S : Nat} {s : RcS} (hn : s.l.length ≤ 30000) {base : Nat} (b : Int) :
    Acts 12 #[.pointer (some ⟨S, 0, none⟩), .int .i64 b] base (RrP S s) (fun v : Value => .tuple #[v, .int .i64 (rcSkE s b)]) fun v => Star (LsP csI 1 3 v (rcSkL s b)) (RrP S (s.skp b)) := by
  intro T w hP hb0 hs
  have hP' := hP
  obtain ⟨h0, h1, h2, vL, h3, h4⟩ := hP
  have d0 := h3.read 0
  have d1 := h3.read 1
  simp [rrC] at d0 d1
  have HD1 := Lib.hid (refDist_any s.nx b w)
  have HD2 := Lib.hid (refDist_any b s.nx w)
  have hE : rcSkE s b = if dsE s.nx b ≠ 0 then 1 else if 32768 ≤ dsV s.nx b ∧ s.w < dsV b s.nx then 2 else 0 := rfl
  have hbb : dsE s.nx b = 0 → 0 ≤ b ∧ b < 65536 := fun h => (both_bd (ds_num h)).2
  have HR := Lib.hid (fun (h : 0 ≤ b ∧ b < 65536) => At.call (base := 0) (At.start hP') (fun _ _ => Nat.zero_le _) (Nat.zero_le _) (rrrel_any hn b h))
  have HNN := Lib.hid (rr_none hP' (Below.refl _ _))
  have hL : rcSkL s b = if rcSkE s b = 0 then rcMo s (rcM s b) ++ rcMo (rcMv s (rcM s b)) (rcRn (rcMv s (rcM s b))) else [] := rfl
  have hS : s.skp b = if rcSkE s b = 0 then rcMv (rcMv s (rcM s b)) (rcRn (rcMv s (rcM s b))) else s := rfl
  clear hP' h0 h1 h2 h3 h4 hb0 hs
  generalize rcSkE s b = E at *
  generalize rcSkL s b = LL at *
  generalize s.skp b = s9 at *
  generalize dsE s.nx b = de at *
  generalize dsV s.nx b = dv at *
  generalize dsE b s.nx = fe at *
  generalize dsV b s.nx = fv at *
  generalize s.nx = nx at *
  generalize s.w = wi at *
  by_cases c1 : de = 0
  rotate_left 1
  · rw [if_pos c1] at hE
    subst hE
    rw [if_neg (by decide)] at hL hS
    subst hL hS
    have hne : (de != 0) = true := by simpa using c1
    clear HR hbb
    go_enter Try.func12, Try.ntmps12
    go_wp2_with fail
    (with_reducible refine HD1.out.mono ?_); rintro e w1 ⟨rfl, rfl⟩
    go_wp2_with fail
    (with_reducible refine HD2.out.mono ?_); rintro e w1 ⟨rfl, rfl⟩
    go_wp2
    go_ret2
    exact ⟨_, rfl, HNN.out⟩
  · rw [if_neg (by omega)] at hE
    have hb := hbb c1
    subst c1
    by_cases c2 : 32768 ≤ dv ∧ wi < fv
    · rw [if_pos c2] at hE
      subst hE
      rw [if_neg (by decide)] at hL hS
      subst hL hS
      obtain ⟨c3, c4⟩ := c2
      clear HR hbb
      go_enter Try.func12, Try.ntmps12
      go_wp2_with fail
      (with_reducible refine HD1.out.mono ?_); rintro e w1 ⟨rfl, rfl⟩
      go_wp2_with fail
      (with_reducible refine HD2.out.mono ?_); rintro e w1 ⟨rfl, rfl⟩
      go_wp2
      go_ret2
      exact ⟨_, rfl, HNN.out⟩
    · rw [if_neg c2] at hE
      subst hE
      rw [if_pos rfl] at hL hS
      subst hL hS
      have HX := Lib.hid (HR.out hb)
      have hc : dv < 32768 ∨ (32768 ≤ dv ∧ fv ≤ wi) := by omega
      clear HR hbb HNN c2
      rcases hc with c3 | ⟨c3, c4⟩
      all_goals
        go_enter Try.func12, Try.ntmps12
        go_wp2_with fail
        (with_reducible refine HD1.out.mono ?_); rintro e w1 ⟨rfl, rfl⟩
        go_wp2_with fail
        (with_reducible refine HD2.out.mono ?_); rintro e w1 ⟨rfl, rfl⟩
        go_wp2_with fail
        (with_reducible refine HX.out.mono ?_); rintro e w2 ⟨v, rfl, h1⟩
        have HF := Lib.hid (At.post h1)
        clear h1 HX HD1 HD2
        go_wp2
        go_ret2
        exact ⟨_, rfl, HF.out⟩
end Go.Proofs.Ythmncipenjhknaa

