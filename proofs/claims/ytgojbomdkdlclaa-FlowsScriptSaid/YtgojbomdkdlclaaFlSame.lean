/-
  Layer 10: the contract of the statement's same: what can be seen of both tables is alike. Written by a program.
-/
import Derived.Test.YtgojbomdkdlclaaFlAct
import Derived.Test.YtgojbomdkdlclaaFlStas
namespace Go.Proofs.Ytgojbomdkdlclaa
open Go.ChangeShapes Go.WideShapes Go.ChangeAt Go.RowKit
set_option linter.unusedVariables false

/-- A slice that reads as a list of structs. -/
def StV {α : Type} (cs : α → List Value) (n : Nat) (l : List α) (v : Value) (w : World) : Prop := ∃ A c, v = .slice A l.length c ∧ SrAt cs n w 0 w.heap.size A l
theorem StV.later {α : Type} {cs : α → List Value} {n : Nat} {l : List α} {v : Value} {w w' : World} (h : StV cs n l v w) (hb : Below w.heap.size w w') : StV cs n l v w' := by
  obtain ⟨A, c, e, h1⟩ := h; exact ⟨A, c, e, h1.later hb⟩
theorem StV.ofS {L : List Sta} {w w' : World} {A : Option Addr} {base c : Nat} (h : w'.ownsRow base 68 4 (.slice A L.length c) L.length (srs csS L)) : StV csS 4 L (.slice A L.length c) w' :=
  ⟨A, c, rfl, (SrAt.own csS_len h rfl).wider (Nat.zero_le _) (Nat.le_refl _)⟩
theorem StV.ofF {L : List Flo} {w w' : World} {A : Option Addr} {base c : Nat} (h : w'.ownsRow base 72 7 (.slice A L.length c) L.length (srs csF L)) : StV csF 7 L (.slice A L.length c) w' :=
  ⟨A, c, rfl, (SrAt.own csF_len h rfl).wider (Nat.zero_le _) (Nat.le_refl _)⟩
/-- The values of the statement's first test. -/
def SmV (H R : Nat) (X T : Int) (ok : Bool) (L : List Sta) (M : List Flo) : Nat → Value → World → Prop
  | 0, v, _ => v = .int .i64 X
  | 1, v, _ => v = .int .i64 X
  | 2, v, _ => v = .bool false
  | 3, v, _ => v = .bool false
  | 4, v, _ => v = .bool ok
  | 5, v, _ => v = .bool ok
  | 6, v, _ => v = .bool false
  | 7, v, _ => v = .bool false
  | 8, v, _ => v = .bool false
  | 9, v, _ => v = .pointer (some ⟨H, 0, none⟩)
  | 10, v, _ => v = .int .i64 T
  | 11, v, _ => v = .pointer (some ⟨R, 0, none⟩)
  | 12, v, _ => v = .int .i64 T
  | 13, v, _ => v = .bool false
  | 14, v, _ => v = .bool false
  | 15, v, _ => v = .bool false
  | 16, v, _ => v = .pointer (some ⟨H, 0, none⟩)
  | 17, v, w => StV csS 4 L v w
  | 18, v, _ => v = .pointer (some ⟨R, 0, none⟩)
  | 19, v, _ => v = .pointer (some ⟨R, 0, none⟩)
  | 20, v, _ => v = .pointer (some ⟨R, 2, none⟩)
  | 21, v, w => StV csS 4 L v w
  | 22, v, _ => v = .bool true
  | 23, v, _ => v = .bool false
  | 24, v, _ => v = .bool false
  | 25, v, _ => v = .bool false
  | 26, v, _ => v = .pointer (some ⟨H, 0, none⟩)
  | 27, v, w => StV csF 7 M v w
  | 28, v, _ => v = .pointer (some ⟨R, 0, none⟩)
  | 29, v, w => StV csF 7 M v w
  | 30, v, _ => v = .bool true
  | 31, v, _ => v = .bool false
  | 32, v, _ => v = .bool false
  | _, _, _ => True
theorem SmV.keep {H R : Nat} {X T : Int} {ok : Bool} {L : List Sta} {M : List Flo} (i : Nat) (v : Value) (w w' : World) (h : Below w.heap.size w w') (hv : SmV H R X T ok L M i v w) : SmV H R X T ok L M i v w' := by
  unfold SmV at *
  split at hv <;> first | exact hv | exact StV.later hv h | trivial
def SmC (B : Nat) (a : Option Addr) (len cap k : Nat) (w0 : World) (C H R : Nat) (t : Tb) (_ : Nat) (w : World) : Prop := GS B a len cap k w0 C H R t t w
def SmR (w w' : World) : Prop := Below w.heap.size w w'
theorem SmC.step {B : Nat} {a : Option Addr} {len cap k : Nat} {w0 w w' : World} {C H R : Nat} {t : Tb} {f g : Nat} (h : SmC B a len cap k w0 C H R t f w) (hb : Below w.heap.size w w') : SmC B a len cap k w0 C H R t g w' := GS.below h hb
/-- What Station and Flow answer. -/
def stV (t : Tb) (i : Int) : Sta := if hsB t i then t.S.getD i.toNat sta0 else sta0
def flV (t : Tb) (i : Int) : Flo := if thrB t.F t.G i then t.F.getD i.toNat flo0 else flo0
theorem stV_at {t : Tb} {k : Nat} (hk : k < t.S.length) : stV t k = t.S[k] := by
  unfold stV
  rw [if_pos (by unfold hsB; simp [hk]), Int.toNat_natCast, List.getD_eq_getElem?_getD, List.getElem?_eq_getElem hk]; rfl
theorem flV_at {t : Tb} (h : TbOk t) {k : Nat} (hk : k < t.F.length) (hth : thrB t.F t.G k = true) : flV t k = t.F[k] := by
  unfold flV
  rw [if_pos hth, Int.toNat_natCast, List.getD_eq_getElem?_getD, List.getElem?_eq_getElem hk]; rfl
theorem station_all {C H : Nat} {S : Nat → Prop} {t : Tb} {w : World} (h : PO C H S t w) (i : Int) :
    Calls Try.prog 39 #[.pointer (some ⟨H, 0, none⟩), .int .i64 i] w (Quiet (.tuple #[.agg #[.int .i64 (stV t i).i, .string (stV t i).nm, .int .i64 (stV t i).w, .int .i64 (stV t i).r], .bool (hsB t i)]) w) := by
  cases hs : hsB t i
  · have := station_no h hs
    unfold stV; rw [hs]; exact this
  · obtain ⟨k, rfl, hk⟩ := hs_yes hs
    have := station_yes h hk
    rw [stV_at hk]; exact this
theorem flow_all {C H : Nat} {S : Nat → Prop} {t : Tb} {w : World} (h : PO C H S t w) (i : Int) :
    Calls Try.prog 40 #[.pointer (some ⟨H, 0, none⟩), .int .i64 i] w (Quiet (.tuple #[.agg #[.int .i64 (flV t i).i, .int .i64 (flV t i).s, .int .i64 (flV t i).w, .int .i64 (flV t i).p, .int .i64 (flV t i).b, .int .i64 (flV t i).lg, .int .i64 (flV t i).ld], .bool (thrB t.F t.G i)]) w) := by
  cases hs : thrB t.F t.G i
  · have := flow_no h hs
    unfold flV; rw [hs]; exact this
  · obtain ⟨k, rfl, hk, hg⟩ := thr_yes h.1.len hs
    have := flow_yes h hk hg
    rw [flV_at h.1 hk hs]; exact this
def SnC (W : World) (_ : Nat) (w : World) : Prop := w = W
def SnR (w w' : World) : Prop := w' = w
theorem sn_ge {t : Tb} {z : Int} {hs : Bool} (h : hsB t z = hs) : (decide (0 ≤ z) = true → decide (z < t.S.length) = hs) ∧ (decide (0 ≤ z) = false → hs = false) := by
  unfold hsB at h
  rw [← h]
  constructor
  · intro h1; rw [h1, Bool.true_and]
  · intro h1; rw [h1, Bool.false_and]
theorem sn_sta {W : World} {C R : Nat} {t : Tb} {A : Option Addr} {k9 : Nat} {vF vG : Value} {z x0 x2 x3 : Int} {x1 : ByteArray} (hs : Bool) (h : RW W C R t (.slice A t.S.length k9) vF vG) (e : hsB t z = hs) (e2 : stV t z = ⟨x0, x1, x2, x3⟩) :
    ∃ gS m : Nat, hs = true → A = some ⟨gS, 0, none⟩ ∧ z = m ∧ (m : Int) < t.S.length ∧ W.cell? ⟨gS, m * 4, none⟩ = some (.int .i64 x0) ∧ W.cell? ⟨gS, m * 4 + 1, none⟩ = some (.string x1) ∧ W.cell? ⟨gS, m * 4 + 2, none⟩ = some (.int .i64 x2) ∧ W.cell? ⟨gS, m * 4 + 3, none⟩ = some (.int .i64 x3) := by
  cases hs
  · exact ⟨0, 0, fun h => by cases h⟩
  · obtain ⟨m, rfl, hm⟩ := hs_yes e
    rw [stV_at hm] at e2
    obtain ⟨gS, c, hv, _, _, s0, s1, s2, s3⟩ := h.sta hm
    rw [e2] at s0 s1 s2 s3
    simp only [Value.slice.injEq] at hv
    exact ⟨gS, m, fun _ => ⟨hv.1, rfl, by omega, s0, s1, s2, s3⟩⟩
theorem sn_flo {W : World} {C R : Nat} {t : Tb} {A : Option Addr} {k9 : Nat} {vS vG : Value} {z e0 e1 e2 e3 e4 e5 e6 : Int} (th : Bool) (h : RW W C R t vS (.slice A t.F.length k9) vG) (ho : TbOk t) (e : thrB t.F t.G z = th) (e' : flV t z = ⟨e0, e1, e2, e3, e4, e5, e6⟩) :
    ∃ gF m : Nat, th = true → A = some ⟨gF, 0, none⟩ ∧ z = m ∧ (m : Int) < t.F.length ∧ W.cell? ⟨gF, m * 7, none⟩ = some (.int .i64 e0) ∧ W.cell? ⟨gF, m * 7 + 1, none⟩ = some (.int .i64 e1) ∧ W.cell? ⟨gF, m * 7 + 2, none⟩ = some (.int .i64 e2) ∧ W.cell? ⟨gF, m * 7 + 3, none⟩ = some (.int .i64 e3) ∧ W.cell? ⟨gF, m * 7 + 4, none⟩ = some (.int .i64 e4) ∧ W.cell? ⟨gF, m * 7 + 5, none⟩ = some (.int .i64 e5) ∧ W.cell? ⟨gF, m * 7 + 6, none⟩ = some (.int .i64 e6) := by
  cases th
  · exact ⟨0, 0, fun h => by cases h⟩
  · obtain ⟨m, rfl, hm, hg⟩ := thr_yes ho.len e
    rw [flV_at ho hm e] at e'
    obtain ⟨gF, c, hv, _, _, s0, s1, s2, s3, s4, s5, s6, _⟩ := h.flow hm
    rw [e'] at s0 s1 s2 s3 s4 s5 s6
    simp only [Value.slice.injEq] at hv
    exact ⟨gF, m, fun _ => ⟨hv.1, rfl, by omega, s0, s1, s2, s3, s4, s5, s6⟩⟩
/-- The values of the statement's second test: l: the list's row, j: the place, z: the number there. -/
def SnV (G R : Nat) (j : Nat) (z : Int) (m1 m2 : Nat) (vS vF pS pF U V : Value) (g hs th : Bool) : Nat → Value → World → Prop
  | 0, v, _ => v = .bool hs
  | 1, v, _ => v = .slice (some ⟨G, 0, none⟩) 6 6
  | 2, v, _ => v = .int .i64 j
  | 3, v, _ => v = .pointer (some ⟨G, j, none⟩)
  | 4, v, _ => v = .int .i64 z
  | 5, v, _ => v = .bool g
  | 6, v, _ => v = .bool g
  | 7, v, _ => g = true → v = .slice (some ⟨G, 0, none⟩) 6 6
  | 8, v, _ => g = true → v = .int .i64 j
  | 9, v, _ => g = true → v = .pointer (some ⟨G, j, none⟩)
  | 10, v, _ => g = true → v = .int .i64 z
  | 11, v, _ => g = true → v = .pointer (some ⟨R, 0, none⟩)
  | 12, v, _ => g = true → v = .pointer (some ⟨R, 0, none⟩)
  | 13, v, _ => g = true → v = .pointer (some ⟨R, 2, none⟩)
  | 14, v, _ => g = true → v = vS
  | 15, v, _ => g = true → v = .int .i64 m1
  | 16, v, _ => g = true → v = .bool hs
  | 17, v, _ => v = .bool hs
  | 18, v, _ => v = .bool false
  | 19, v, _ => v = .bool false
  | 20, v, _ => v = .bool hs
  | 21, v, _ => v = .bool hs
  | 22, v, _ => hs = true → v = U
  | 23, v, _ => hs = true → v = .pointer (some ⟨R, 0, none⟩)
  | 24, v, _ => hs = true → v = .pointer (some ⟨R, 0, none⟩)
  | 25, v, _ => hs = true → v = .pointer (some ⟨R, 2, none⟩)
  | 26, v, _ => hs = true → v = vS
  | 27, v, _ => hs = true → v = .slice (some ⟨G, 0, none⟩) 6 6
  | 28, v, _ => hs = true → v = .int .i64 j
  | 29, v, _ => hs = true → v = .pointer (some ⟨G, j, none⟩)
  | 30, v, _ => hs = true → v = .int .i64 z
  | 31, v, _ => hs = true → v = pS
  | 32, v, _ => hs = true → v = U
  | 33, v, _ => hs = true → v = .bool false
  | 34, v, _ => v = .bool false
  | 35, v, _ => v = .bool false
  | 36, v, _ => v = .bool false
  | 37, v, _ => v = .bool th
  | 38, v, _ => v = .pointer (some ⟨R, 0, none⟩)
  | 39, v, _ => v = .slice (some ⟨G, 0, none⟩) 6 6
  | 40, v, _ => v = .int .i64 j
  | 41, v, _ => v = .pointer (some ⟨G, j, none⟩)
  | 42, v, _ => v = .int .i64 z
  | 43, v, _ => v = .bool th
  | 44, v, _ => v = .bool false
  | 45, v, _ => v = .bool false
  | 46, v, _ => v = .bool false
  | 47, v, _ => v = .bool th
  | 48, v, _ => v = .bool th
  | 49, v, _ => th = true → v = V
  | 50, v, _ => th = true → v = .pointer (some ⟨R, 0, none⟩)
  | 51, v, _ => th = true → v = .pointer (some ⟨R, 0, none⟩)
  | 52, v, _ => th = true → v = .pointer (some ⟨R, 3, none⟩)
  | 53, v, _ => th = true → v = vF
  | 54, v, _ => th = true → v = .slice (some ⟨G, 0, none⟩) 6 6
  | 55, v, _ => th = true → v = .int .i64 j
  | 56, v, _ => th = true → v = .pointer (some ⟨G, j, none⟩)
  | 57, v, _ => th = true → v = .int .i64 z
  | 58, v, _ => th = true → v = pF
  | 59, v, _ => th = true → v = V
  | 60, v, _ => th = true → v = .bool false
  | 61, v, _ => v = .bool false
  | 62, v, _ => v = .bool false
  | _, _, _ => True
set_option maxRecDepth 100000 in
set_option maxHeartbeats 64000000 in
theorem same_any {B : Nat} {a : Option Addr} {len cap k : Nat} {w0 w : World} {C H R : Nat} {t : Tb} (h : GS B a len cap k w0 C H R t t w) (hk : k ≤ 1000000) (p : Int) :
    Calls Try.prog 12 #[.pointer (some ⟨B, 0, none⟩), .pointer (some ⟨H, 0, none⟩), .pointer (some ⟨R, 0, none⟩), .int .i64 p] w (fun e w' => e = .returned (.bool true) ∧ GS B a len cap (k + 1) w0 C H R t t w') := by
  have HX := Lib.hid (h.name (by omega))
  clear h
  go_enter Try.func12, Try.ntmps12
  go_wp2_with fail
  (with_reducible refine HX.out.mono ?_); rintro e w1 ⟨n, hn, rfl, h1⟩
  obtain ⟨S1, hP⟩ := h1.tabP
  have HX := Lib.hid (h1.quiet (find_any hP n))
  clear h1 hP
  generalize hfv : fdV t.S n = X at *
  generalize hfb : (fndN t.S n).isSome = ok at *
  go_wp2_with fail
  (with_reducible refine HX.out.mono ?_); rintro e w2 ⟨rfl, h2⟩
  obtain ⟨S2, hR⟩ := h2.tabR
  have hr := h2.quiet (rfind_any hR n hn)
  rw [hfv, hfb] at hr
  have HX := Lib.hid hr
  clear h2 hR hfv hfb hr
  go_wp2_with fail
  (with_reducible refine HX.out.mono ?_); rintro e w3 ⟨rfl, h3⟩
  have H3 := Lib.hid h3
  clear h3 HX
  go_wp2_with fail
  refine wp_region_loose 166 (by kernel_rfl) (by kernel_rfl) (SmC B a len cap (k + 1) w0 C H R t) SmR (SmV H R X t.tot ok t.S (flwL t.F t.G)) rfl (fun i v w w' h hv => SmV.keep i v w w' h hv) ?_ ?_ ?_
  · exact H3.out.below (Below.refl _ _).drew
  · simp only [OblAll]
    refine ⟨?_, ?_, ?_, ?_, ?_, ?_, ?_, ?_, ?_, ?_, ?_, ?_, ?_, ?_, ?_, ?_, ?_, ?_, ?_, ?_, ?_, ?_, ?_, ?_, ?_, ?_, ?_, ?_, ?_, ?_, ?_, ?_, ?_, trivial⟩
    all_goals
      intro fu wx vals hC hp
      simp [predL, predE, Region.binds, PreV, SmV] at hp
      simp only [fillA, if_true, Act.put]
      simp
      have HC := Lib.hid hC
      clear hC
      have HR0 := Lib.hid (show SmR wx wx from Below.refl _ _)
    · try simp only [hp]
      try clear hp
      go_wp2
      exact ⟨rfl, HC.out.step (Below.refl _ _), HR0.out, rfl⟩
    · try simp only [hp]
      try clear hp
      go_wp2
      exact ⟨rfl, HC.out.step (Below.refl _ _), HR0.out, rfl⟩
    · try simp only [hp]
      try clear hp
      go_wp2
      exact ⟨rfl, HC.out.step (Below.refl _ _), HR0.out, rfl⟩
    · try simp only [hp]
      try clear hp
      go_wp2
      exact ⟨rfl, HC.out.step (Below.refl _ _), HR0.out, rfl⟩
    · try simp only [hp]
      try clear hp
      go_wp2
      exact ⟨rfl, HC.out.step (Below.refl _ _), HR0.out, rfl⟩
    · try simp only [hp]
      try clear hp
      go_wp2
      exact ⟨rfl, HC.out.step (Below.refl _ _), HR0.out, rfl⟩
    · try simp only [hp]
      try clear hp
      go_wp2
      exact ⟨rfl, HC.out.step (Below.refl _ _), HR0.out, rfl⟩
    · try simp only [hp]
      try clear hp
      go_wp2
      exact ⟨rfl, HC.out.step (Below.refl _ _), HR0.out, rfl⟩
    · try simp only [hp]
      try clear hp
      go_wp2
      exact ⟨rfl, HC.out.step (Below.refl _ _), HR0.out, rfl⟩
    · try simp only [hp]
      try clear hp
      go_wp2
      exact ⟨rfl, HC.out.step (Below.refl _ _), HR0.out, rfl⟩
    · simp only [hp]
      clear hp
      obtain ⟨S, hP⟩ := GS.tabP HC.out
      have HY := Lib.hid (total_any hP)
      unfold Quiet at HY
      clear hP
      go_wp2_with fail
      (with_reducible refine HY.out.mono ?_); rintro e w' ⟨rfl, hb⟩
      have HB := Lib.hid hb
      clear hb
      go_wp2
      exact ⟨rfl, HC.out.step HB.out, HB.out, rfl⟩
    · try simp only [hp]
      try clear hp
      go_wp2
      exact ⟨rfl, HC.out.step (Below.refl _ _), HR0.out, rfl⟩
    · simp only [hp]
      clear hp
      obtain ⟨S, hR⟩ := GS.tabR HC.out
      have HY := Lib.hid (rtotal_any hR)
      clear hR
      go_wp2_with fail
      (with_reducible refine HY.out.mono ?_); rintro e w' ⟨rfl, rfl⟩
      go_wp2
      exact ⟨rfl, HC.out.step (Below.refl _ _), HR0.out, rfl⟩
    · try simp only [hp]
      try clear hp
      go_wp2
      exact ⟨rfl, HC.out.step (Below.refl _ _), HR0.out, rfl⟩
    · try simp only [hp]
      try clear hp
      go_wp2
      exact ⟨rfl, HC.out.step (Below.refl _ _), HR0.out, rfl⟩
    · try simp only [hp]
      try clear hp
      go_wp2
      exact ⟨rfl, HC.out.step (Below.refl _ _), HR0.out, rfl⟩
    · try simp only [hp]
      try clear hp
      go_wp2
      exact ⟨rfl, HC.out.step (Below.refl _ _), HR0.out, rfl⟩
    · simp only [hp]
      clear hp
      obtain ⟨S, hP⟩ := GS.tabP HC.out
      have HY := Lib.hid (stations_any hP)
      unfold GotS at HY
      clear hP
      go_wp2_with fail
      (with_reducible refine HY.out.mono ?_); rintro e w' ⟨A, c, rfl, hrow, hb⟩
      have HB := Lib.hid hb
      have HZ := Lib.hid (StV.ofS (w := wx) hrow)
      clear hb hrow
      go_wp2
      exact ⟨rfl, HC.out.step HB.out, HB.out, HZ.out⟩
    · try simp only [hp]
      try clear hp
      go_wp2
      exact ⟨rfl, HC.out.step (Below.refl _ _), HR0.out, rfl⟩
    · try simp only [hp]
      try clear hp
      go_wp2
      exact ⟨rfl, HC.out.step (Below.refl _ _), HR0.out, rfl⟩
    · try simp only [hp]
      try clear hp
      go_wp2
      exact ⟨rfl, HC.out.step (Below.refl _ _), HR0.out, rfl⟩
    · simp only [hp]
      clear hp
      obtain ⟨S, h0, ⟨vS, vF, vG, hRW, _⟩, _⟩ := GS.tabR HC.out
      have c2 := hRW.cells.2.2.1
      obtain ⟨A, c, rfl⟩ := ow_shape hRW.rowS
      have HZ := Lib.hid (StV.ofS (w := wx) hRW.rowS)
      clear h0 hRW
      go_wp2
      exact ⟨rfl, HC.out.step (Below.refl _ _), HR0.out, HZ.out⟩
    · obtain ⟨⟨A, c, e1, s1⟩, ⟨A', c', e2, s2⟩, _⟩ := hp
      simp only [e1, e2]
      obtain ⟨S, hok, _⟩ := GS.tabP HC.out
      have HY := Lib.hid (equalS_any A A' c c' _ 0 wx.heap.size 0 wx.heap.size wx (by have := hok.few; omega) s1 s2)
      unfold Quiet at HY
      clear e1 e2 s1 s2 hok
      go_wp2_with fail
      (with_reducible refine HY.out.mono ?_); rintro e w' ⟨rfl, hb⟩
      have HB := Lib.hid hb
      clear hb
      go_wp2
      exact ⟨rfl, HC.out.step HB.out, HB.out, rfl⟩
    · try simp only [hp]
      try clear hp
      go_wp2
      exact ⟨rfl, HC.out.step (Below.refl _ _), HR0.out, rfl⟩
    · try simp only [hp]
      try clear hp
      go_wp2
      exact ⟨rfl, HC.out.step (Below.refl _ _), HR0.out, rfl⟩
    · try simp only [hp]
      try clear hp
      go_wp2
      exact ⟨rfl, HC.out.step (Below.refl _ _), HR0.out, rfl⟩
    · try simp only [hp]
      try clear hp
      go_wp2
      exact ⟨rfl, HC.out.step (Below.refl _ _), HR0.out, rfl⟩
    · simp only [hp]
      clear hp
      obtain ⟨S, hP⟩ := GS.tabP HC.out
      have HY := Lib.hid (flows_any hP)
      unfold GotF at HY
      clear hP
      go_wp2_with fail
      (with_reducible refine HY.out.mono ?_); rintro e w' ⟨A, c, rfl, hrow, hb⟩
      have HB := Lib.hid hb
      have HZ := Lib.hid (StV.ofF (w := wx) hrow)
      clear hb hrow
      go_wp2
      exact ⟨rfl, HC.out.step HB.out, HB.out, HZ.out⟩
    · try simp only [hp]
      try clear hp
      go_wp2
      exact ⟨rfl, HC.out.step (Below.refl _ _), HR0.out, rfl⟩
    · simp only [hp]
      clear hp
      obtain ⟨S, hP⟩ := GS.tabR HC.out
      have HY := Lib.hid (rflows_any hP)
      unfold GotF at HY
      clear hP
      go_wp2_with fail
      (with_reducible refine HY.out.mono ?_); rintro e w' ⟨A, c, rfl, hrow, hb⟩
      have HB := Lib.hid hb
      have HZ := Lib.hid (StV.ofF (w := wx) hrow)
      clear hb hrow
      go_wp2
      exact ⟨rfl, HC.out.step HB.out, HB.out, HZ.out⟩
    · obtain ⟨⟨A, c, e1, s1⟩, ⟨A', c', e2, s2⟩, _⟩ := hp
      simp only [e1, e2]
      obtain ⟨S, hok, _⟩ := GS.tabP HC.out
      have HY := Lib.hid (equalF_any A A' c c' _ 0 wx.heap.size 0 wx.heap.size wx (by have := flw_len t.F t.G; have := hok.few; omega) s1 s2)
      unfold Quiet at HY
      clear e1 e2 s1 s2 hok
      go_wp2_with fail
      (with_reducible refine HY.out.mono ?_); rintro e w' ⟨rfl, hb⟩
      have HB := Lib.hid hb
      clear hb
      go_wp2
      exact ⟨rfl, HC.out.step HB.out, HB.out, rfl⟩
    · try simp only [hp]
      try clear hp
      go_wp2
      exact ⟨rfl, HC.out.step (Below.refl _ _), HR0.out, rfl⟩
    · try simp only [hp]
      try clear hp
      go_wp2
      exact ⟨rfl, HC.out.step (Below.refl _ _), HR0.out, rfl⟩
  · intro w4 vals hC hV
    have e32 := (show vals 32 = .bool false from hV 32 (by simp))
    have H4 := Lib.hid (show GS B a len cap (k + 1) w0 C H R t t w4 from hC)
    simp only [fillA, if_true, Act.put]
    simp
    simp only [e32]
    clear hV hC H3 e32
    obtain ⟨S5, hok, ⟨vS, vF, vG, hRW, _⟩, _⟩ := H4.out.tabR
    have c2 := hRW.cells.2.2.1
    have c3 := hRW.cells.2.2.2.1
    obtain ⟨A2, k2, rfl⟩ := ow_shape hRW.rowS
    obtain ⟨A3, k3, rfl⟩ := ow_shape hRW.rowF
    have H5 := Lib.hid (H4.out.below ((Below.refl w4.heap.size w4).drew.alloc (Nat.le_refl _) (.cells #[.int .i64 (-1), .int .i64 0, .int .i64 1, .int .i64 t.S.length, .int .i64 t.F.length, .int .i64 p] 3)))
    have HL := Lib.hid (Whole.fresh w4.drew 3 #[.int .i64 (-1), .int .i64 0, .int .i64 1, .int .i64 t.S.length, .int .i64 t.F.length, .int .i64 p])
    obtain ⟨m1, hm1⟩ : ∃ m1, t.S.length = m1 := ⟨_, rfl⟩
    obtain ⟨m2, hm2⟩ : ∃ m2, t.F.length = m2 := ⟨_, rfl⟩
    rw [hm1] at c2 H5 HL
    rw [hm2] at c3 H5 HL
    clear hRW H4
    go_wp2_with fail
    refine wp_region_tail 11 (by kernel_rfl) (by kernel_rfl) ?_
    simp only [List.take_succ_cons, List.take_zero, List.drop_succ_cons, List.drop_zero]
    repeat still_step
    refine wpStill_nil ?_
    clear c2 c3
    go_wp2_with fail
    go_loopw [15] (fun s15 wr => ∃ j : Nat, j ≤ 6 ∧ s15 = .int .i64 j ∧ Hid (GS B a len cap (k + 1) w0 C H R t t wr) ∧ Hid (Whole wr w4.heap.size 3 #[.int .i64 (-1), .int .i64 0, .int .i64 1, .int .i64 m1, .int .i64 m2, .int .i64 p])) (fun s15 _ => 6 - (intOf s15).toNat)
    case atStart => exact ⟨0, by omega, rfl, H5, HL⟩
    case round =>
      obtain ⟨j, hj, rfl, HG, HW⟩ := hrel
      clear H5 HL
      by_cases hlt : j < 6
      · have hlt' : (j : Int) < 6 := by omega
        obtain ⟨z, hz⟩ : ∃ z, (#[Value.int .i64 (-1), .int .i64 0, .int .i64 1, .int .i64 m1, .int .i64 m2, .int .i64 p] : Array Value)[j]? = some (.int .i64 z) := by
          rcases (by omega : j = 0 ∨ j = 1 ∨ j = 2 ∨ j = 3 ∨ j = 4 ∨ j = 5) with rfl | rfl | rfl | rfl | rfl | rfl
          all_goals exact ⟨_, rfl⟩
        have cl := (HW.out.read j).trans hz
        obtain ⟨S6, hP⟩ := HG.out.tabP
        have hX := station_all hP z
        obtain ⟨hs, ehs⟩ : ∃ hs, hsB t z = hs := ⟨_, rfl⟩
        obtain ⟨th, eth⟩ : ∃ th, thrB t.F t.G z = th := ⟨_, rfl⟩
        obtain ⟨su, esu⟩ : ∃ su, stV t z = su := ⟨_, rfl⟩
        obtain ⟨fv, efv⟩ : ∃ fv, flV t z = fv := ⟨_, rfl⟩
        rw [esu, ehs] at hX
        obtain ⟨x0, x1, x2, x3⟩ := su
        obtain ⟨e0, e1, e2, e3, e4, e5, e6⟩ := fv
        have HX := Lib.hid hX
        unfold Quiet at HX
        have HSU := Lib.hid esu
        have HFV := Lib.hid efv
        have HHS := Lib.hid ehs
        have HTT := Lib.hid eth
        clear hP hX esu efv ehs eth
        go_wp2_with fail
        (with_reducible refine HX.out.mono ?_); rintro e w6 ⟨rfl, hb⟩
        have hb6 := hb.trans (((Below.refl w6.heap.size w6).alloc (Nat.le_refl _) (.cells #[.int .i64 x0, .string x1, .int .i64 x2, .int .i64 x3] 68)).mono hb.size)
        have H6 := Lib.hid (HG.out.below hb6)
        have HW6 := Lib.hid (HW.out.later hb6)
        have HU6 := Lib.hid (Whole.fresh w6 68 #[.int .i64 x0, .string x1, .int .i64 x2, .int .i64 x3])
        have cl6 := (HW6.out.read j).trans hz
        obtain ⟨S7, hP⟩ := H6.out.tabP
        have hX := flow_all hP z
        rw [HFV.out, HTT.out] at hX
        have HX := Lib.hid hX
        unfold Quiet at HX
        clear hb hb6 HG HW hP hX cl
        go_wp2_with fail
        (with_reducible refine HX.out.mono ?_); rintro e w7 ⟨rfl, hb⟩
        have hb7 := hb.trans (((Below.refl w7.heap.size w7).alloc (Nat.le_refl _) (.cells #[.int .i64 e0, .int .i64 e1, .int .i64 e2, .int .i64 e3, .int .i64 e4, .int .i64 e5, .int .i64 e6] 72)).mono hb.size)
        obtain ⟨W, hWd⟩ : ∃ W, (w7.alloc (.cells #[.int .i64 e0, .int .i64 e1, .int .i64 e2, .int .i64 e3, .int .i64 e4, .int .i64 e5, .int .i64 e6] 72)).drew = W := ⟨_, rfl⟩
        have HGW := Lib.hid (show GS B a len cap (k + 1) w0 C H R t t W from hWd ▸ (H6.out.below hb7).below (Below.refl _ _).drew)
        have hW1 : Whole W w4.heap.size 3 #[.int .i64 (-1), .int .i64 0, .int .i64 1, .int .i64 m1, .int .i64 m2, .int .i64 p] := hWd ▸ (HW6.out.later hb7).later (Below.refl _ _).drew
        have hU1 : Whole W w6.heap.size 68 #[.int .i64 x0, .string x1, .int .i64 x2, .int .i64 x3] := hWd ▸ (HU6.out.later hb7).later (Below.refl _ _).drew
        have hV1 : Whole W w7.heap.size 72 #[.int .i64 e0, .int .i64 e1, .int .i64 e2, .int .i64 e3, .int .i64 e4, .int .i64 e5, .int .i64 e6] := hWd ▸ (Whole.fresh w7 72 #[.int .i64 e0, .int .i64 e1, .int .i64 e2, .int .i64 e3, .int .i64 e4, .int .i64 e5, .int .i64 e6]).later (Below.refl _ _).drew
        have cl := (hW1.read j).trans hz
        obtain ⟨u0, u1, u2, u3, _⟩ := hU1.four
        have y0 := hV1.read 0
        have y1 := hV1.read 1
        have y2 := hV1.read 2
        have y3 := hV1.read 3
        have y4 := hV1.read 4
        have y5 := hV1.read 5
        have y6 := hV1.read 6
        simp at y0 y1 y2 y3 y4 y5 y6
        have HWW := Lib.hid hW1
        obtain ⟨S9, hRO⟩ := HGW.out.tabR
        have hTH := there_any hRO z
        rw [HTT.out] at hTH
        have HTH := Lib.hid hTH
        obtain ⟨_, ⟨vS9, vF9, vG9, hRW, _⟩, _⟩ := hRO
        obtain ⟨_, _, c2, c3, _⟩ := hRW.cells
        obtain ⟨A9, k9, rfl⟩ := ow_shape hRW.rowS
        obtain ⟨A8, k8, rfl⟩ := ow_shape hRW.rowF
        obtain ⟨gS, mS, hSS⟩ := sn_sta hs hRW HHS.out HSU.out
        obtain ⟨gF, mF, hFF⟩ := sn_flo th hRW hok HTT.out HFV.out
        rw [hm1] at hSS
        rw [hm2] at hFF
        have HSS := Lib.hid hSS
        have HFF := Lib.hid hFF
        have HGE := Lib.hid (sn_ge HHS.out)
        rw [hm1] at c2 HGE
        rw [hm2] at c3
        clear hSS hFF hRW hb hb7 H6 HW6 HU6 hW1 hU1 hV1 hz cl6 HX HSU HFV HHS HTT hTH
        go_wp2_with fail
        obtain ⟨g, hg⟩ : ∃ g, decide (0 ≤ z) = g := ⟨_, rfl⟩
        rw [hg] at HGE
        refine wp_region_loose 166 (by kernel_rfl) (by kernel_rfl) (SnC W) SnR (SnV w4.heap.size R j z m1 m2 (.slice A9 m1 k9) (.slice A8 m2 k8) (.pointer (some ⟨gS, mS * 4, none⟩)) (.pointer (some ⟨gF, mF * 7, none⟩)) (.agg #[.int .i64 x0, .string x1, .int .i64 x2, .int .i64 x3]) (.agg #[.int .i64 e0, .int .i64 e1, .int .i64 e2, .int .i64 e3, .int .i64 e4, .int .i64 e5, .int .i64 e6]) g hs th) rfl (fun i v w w' h hv => by subst h; exact hv) hWd ?_ ?_
        · simp only [OblAll]
          refine ⟨?_, ?_, ?_, ?_, ?_, ?_, ?_, ?_, ?_, ?_, ?_, ?_, ?_, ?_, ?_, ?_, ?_, ?_, ?_, ?_, ?_, ?_, ?_, ?_, ?_, ?_, ?_, ?_, ?_, ?_, ?_, ?_, ?_, ?_, ?_, ?_, ?_, ?_, ?_, ?_, ?_, ?_, ?_, ?_, ?_, ?_, ?_, ?_, ?_, ?_, ?_, ?_, ?_, ?_, ?_, ?_, ?_, ?_, ?_, ?_, ?_, ?_, ?_, trivial⟩
          · intro fu wx vals hC hp
            obtain rfl : wx = W := hC
            simp [predL, predE, PreV] at hp
            simp only [fillA, if_true, Act.put]
            simp
            clear cl c2 c3 u0 u1 u2 u3 y0 y1 y2 y3 y4 y5 y6
            try simp only [hp]
            try clear hp
            go_wp2
            exact ⟨rfl, rfl, rfl, rfl⟩
          · intro fu wx vals hC hp
            obtain rfl : wx = W := hC
            simp [predL, predE, PreV] at hp
            simp only [fillA, if_true, Act.put]
            simp
            clear cl c2 c3 u0 u1 u2 u3 y0 y1 y2 y3 y4 y5 y6
            try simp only [hp]
            try clear hp
            go_wp2
            exact ⟨rfl, rfl, rfl, rfl⟩
          · intro fu wx vals hC hp
            obtain rfl : wx = W := hC
            simp [predL, predE, PreV] at hp
            simp only [fillA, if_true, Act.put]
            simp
            clear cl c2 c3 u0 u1 u2 u3 y0 y1 y2 y3 y4 y5 y6
            try simp only [hp]
            try clear hp
            go_wp2
            exact ⟨rfl, rfl, rfl, rfl⟩
          · intro fu wx vals hC hp
            obtain rfl : wx = W := hC
            simp [predL, predE, Region.binds, PreV, SnV] at hp
            simp only [fillA, if_true, Act.put]
            simp
            clear cl c2 c3 u0 u1 u2 u3 y0 y1 y2 y3 y4 y5 y6
            try simp only [hp]
            try clear hp
            go_wp2
            exact ⟨rfl, rfl, rfl, rfl⟩
          · intro fu wx vals hC hp
            obtain rfl : wx = W := hC
            simp [predL, predE, Region.binds, PreV, SnV] at hp
            simp only [fillA, if_true, Act.put]
            simp
            clear c2 c3 u0 u1 u2 u3 y0 y1 y2 y3 y4 y5 y6
            try simp only [hp]
            try clear hp
            go_wp2
            exact ⟨rfl, rfl, rfl, rfl⟩
          · intro fu wx vals hC hp
            obtain rfl : wx = W := hC
            simp [predL, predE, Region.binds, PreV, SnV] at hp
            simp only [fillA, if_true, Act.put]
            simp
            clear cl c2 c3 u0 u1 u2 u3 y0 y1 y2 y3 y4 y5 y6
            simp only [hp]
            clear hp
            go_wp2
            exact ⟨rfl, rfl, rfl, by rw [← hg]; rfl⟩
          · intro fu wx vals hC hp
            obtain rfl : wx = W := hC
            simp [predL, predE, Region.binds, PreV, SnV] at hp
            simp only [fillA, if_true, Act.put]
            simp
            clear cl c2 c3 u0 u1 u2 u3 y0 y1 y2 y3 y4 y5 y6
            try simp only [hp]
            try clear hp
            go_wp2
            exact ⟨rfl, rfl, rfl, rfl⟩
          · intro fu wx vals hC hp
            obtain rfl : wx = W := hC
            simp [predL, predE, Region.binds, PreV, SnV] at hp
            simp only [fillA, if_true, Act.put]
            simp
            clear cl c2 c3 u0 u1 u2 u3 y0 y1 y2 y3 y4 y5 y6
            cases g
            · try simp at hp
              try simp only [hp]
              try clear hp
              go_wp2
              exact ⟨rfl, rfl, rfl, fun h => absurd h (by decide)⟩
            · try simp at hp
              try simp only [hp]
              try clear hp
              go_wp2
              exact ⟨rfl, rfl, rfl, fun _ => rfl⟩
          · intro fu wx vals hC hp
            obtain rfl : wx = W := hC
            simp [predL, predE, Region.binds, PreV, SnV] at hp
            simp only [fillA, if_true, Act.put]
            simp
            clear cl c2 c3 u0 u1 u2 u3 y0 y1 y2 y3 y4 y5 y6
            cases g
            · try simp at hp
              try simp only [hp]
              try clear hp
              go_wp2
              exact ⟨rfl, rfl, rfl, fun h => absurd h (by decide)⟩
            · try simp at hp
              try simp only [hp]
              try clear hp
              go_wp2
              exact ⟨rfl, rfl, rfl, fun _ => rfl⟩
          · intro fu wx vals hC hp
            obtain rfl : wx = W := hC
            simp [predL, predE, Region.binds, PreV, SnV] at hp
            simp only [fillA, if_true, Act.put]
            simp
            clear cl c2 c3 u0 u1 u2 u3 y0 y1 y2 y3 y4 y5 y6
            cases g
            · try simp at hp
              try simp only [hp]
              try clear hp
              go_wp2
              exact ⟨rfl, rfl, rfl, fun h => absurd h (by decide)⟩
            · try simp at hp
              try simp only [hp]
              try clear hp
              go_wp2
              exact ⟨rfl, rfl, rfl, fun _ => rfl⟩
          · intro fu wx vals hC hp
            obtain rfl : wx = W := hC
            simp [predL, predE, Region.binds, PreV, SnV] at hp
            simp only [fillA, if_true, Act.put]
            simp
            clear c2 c3 u0 u1 u2 u3 y0 y1 y2 y3 y4 y5 y6
            cases g
            · try simp at hp
              try simp only [hp]
              try clear hp
              go_wp2
              exact ⟨rfl, rfl, rfl, fun h => absurd h (by decide)⟩
            · try simp at hp
              try simp only [hp]
              try clear hp
              go_wp2
              exact ⟨rfl, rfl, rfl, fun _ => rfl⟩
          · intro fu wx vals hC hp
            obtain rfl : wx = W := hC
            simp [predL, predE, Region.binds, PreV, SnV] at hp
            simp only [fillA, if_true, Act.put]
            simp
            clear cl c2 c3 u0 u1 u2 u3 y0 y1 y2 y3 y4 y5 y6
            cases g
            · try simp at hp
              try simp only [hp]
              try clear hp
              go_wp2
              exact ⟨rfl, rfl, rfl, fun h => absurd h (by decide)⟩
            · try simp at hp
              try simp only [hp]
              try clear hp
              go_wp2
              exact ⟨rfl, rfl, rfl, fun _ => rfl⟩
          · intro fu wx vals hC hp
            obtain rfl : wx = W := hC
            simp [predL, predE, Region.binds, PreV, SnV] at hp
            simp only [fillA, if_true, Act.put]
            simp
            clear cl c2 c3 u0 u1 u2 u3 y0 y1 y2 y3 y4 y5 y6
            cases g
            · try simp at hp
              try simp only [hp]
              try clear hp
              go_wp2
              exact ⟨rfl, rfl, rfl, fun h => absurd h (by decide)⟩
            · try simp at hp
              try simp only [hp]
              try clear hp
              go_wp2
              exact ⟨rfl, rfl, rfl, fun _ => rfl⟩
          · intro fu wx vals hC hp
            obtain rfl : wx = W := hC
            simp [predL, predE, Region.binds, PreV, SnV] at hp
            simp only [fillA, if_true, Act.put]
            simp
            clear cl c2 c3 u0 u1 u2 u3 y0 y1 y2 y3 y4 y5 y6
            cases g
            · try simp at hp
              try simp only [hp]
              try clear hp
              go_wp2
              exact ⟨rfl, rfl, rfl, fun h => absurd h (by decide)⟩
            · try simp at hp
              try simp only [hp]
              try clear hp
              go_wp2
              exact ⟨rfl, rfl, rfl, fun _ => rfl⟩
          · intro fu wx vals hC hp
            obtain rfl : wx = W := hC
            simp [predL, predE, Region.binds, PreV, SnV] at hp
            simp only [fillA, if_true, Act.put]
            simp
            clear cl c3 u0 u1 u2 u3 y0 y1 y2 y3 y4 y5 y6
            cases g
            · try simp at hp
              try simp only [hp]
              try clear hp
              go_wp2
              exact ⟨rfl, rfl, rfl, fun h => absurd h (by decide)⟩
            · try simp at hp
              try simp only [hp]
              try clear hp
              go_wp2
              exact ⟨rfl, rfl, rfl, fun _ => rfl⟩
          · intro fu wx vals hC hp
            obtain rfl : wx = W := hC
            simp [predL, predE, Region.binds, PreV, SnV] at hp
            simp only [fillA, if_true, Act.put]
            simp
            clear cl c2 c3 u0 u1 u2 u3 y0 y1 y2 y3 y4 y5 y6
            cases g
            · try simp at hp
              try simp only [hp]
              try clear hp
              go_wp2
              exact ⟨rfl, rfl, rfl, fun h => absurd h (by decide)⟩
            · try simp at hp
              try simp only [hp]
              try clear hp
              go_wp2
              exact ⟨rfl, rfl, rfl, fun _ => rfl⟩
          · intro fu wx vals hC hp
            obtain rfl : wx = W := hC
            simp [predL, predE, Region.binds, PreV, SnV] at hp
            simp only [fillA, if_true, Act.put]
            simp
            clear cl c2 c3 u0 u1 u2 u3 y0 y1 y2 y3 y4 y5 y6
            cases g
            · try simp at hp
              try simp only [hp]
              try clear hp
              go_wp2
              exact ⟨rfl, rfl, rfl, fun h => absurd h (by decide)⟩
            · try simp at hp
              have hq := HGE.out.1 rfl
              try simp only [hp]
              try clear hp
              go_wp2
              exact ⟨rfl, rfl, rfl, fun _ => rfl⟩
          · intro fu wx vals hC hp
            obtain rfl : wx = W := hC
            simp [predL, predE, Region.binds, PreV, SnV] at hp
            simp only [fillA, if_true, Act.put]
            simp
            clear cl c2 c3 u0 u1 u2 u3 y0 y1 y2 y3 y4 y5 y6
            cases g
            · obtain rfl : hs = false := HGE.out.2 rfl
              simp at hp
              simp only [hp]
              clear hp
              go_wp2
              exact ⟨rfl, rfl, rfl, rfl⟩
            · simp at hp
              simp only [hp]
              clear hp
              go_wp2
              exact ⟨rfl, rfl, rfl, rfl⟩
          · intro fu wx vals hC hp
            obtain rfl : wx = W := hC
            simp [predL, predE, Region.binds, PreV, SnV] at hp
            simp only [fillA, if_true, Act.put]
            simp
            clear cl c2 c3 u0 u1 u2 u3 y0 y1 y2 y3 y4 y5 y6
            try simp only [hp]
            try clear hp
            go_wp2
            exact ⟨rfl, rfl, rfl, rfl⟩
          · intro fu wx vals hC hp
            obtain rfl : wx = W := hC
            simp [predL, predE, Region.binds, PreV, SnV] at hp
            simp only [fillA, if_true, Act.put]
            simp
            clear cl c2 c3 u0 u1 u2 u3 y0 y1 y2 y3 y4 y5 y6
            try simp only [hp]
            try clear hp
            go_wp2
            exact ⟨rfl, rfl, rfl, rfl⟩
          · intro fu wx vals hC hp
            obtain rfl : wx = W := hC
            simp [predL, predE, Region.binds, PreV, SnV] at hp
            simp only [fillA, if_true, Act.put]
            simp
            clear cl c2 c3 u0 u1 u2 u3 y0 y1 y2 y3 y4 y5 y6
            try simp only [hp]
            try clear hp
            go_wp2
            exact ⟨rfl, rfl, rfl, rfl⟩
          · intro fu wx vals hC hp
            obtain rfl : wx = W := hC
            simp [predL, predE, Region.binds, PreV, SnV] at hp
            simp only [fillA, if_true, Act.put]
            simp
            clear cl c2 c3 u0 u1 u2 u3 y0 y1 y2 y3 y4 y5 y6
            try simp only [hp]
            try clear hp
            go_wp2
            exact ⟨rfl, rfl, rfl, rfl⟩
          · intro fu wx vals hC hp
            obtain rfl : wx = W := hC
            simp [predL, predE, Region.binds, PreV, SnV] at hp
            simp only [fillA, if_true, Act.put]
            simp
            clear cl c2 c3 y0 y1 y2 y3 y4 y5 y6
            cases hs
            · try simp at hp
              try simp only [hp]
              try clear hp
              go_wp2
              exact ⟨rfl, rfl, rfl, fun h => absurd h (by decide)⟩
            · try simp at hp
              try simp only [hp]
              try clear hp
              go_wp2
              exact ⟨rfl, rfl, rfl, fun _ => rfl⟩
          · intro fu wx vals hC hp
            obtain rfl : wx = W := hC
            simp [predL, predE, Region.binds, PreV, SnV] at hp
            simp only [fillA, if_true, Act.put]
            simp
            clear cl c2 c3 u0 u1 u2 u3 y0 y1 y2 y3 y4 y5 y6
            cases hs
            · try simp at hp
              try simp only [hp]
              try clear hp
              go_wp2
              exact ⟨rfl, rfl, rfl, fun h => absurd h (by decide)⟩
            · try simp at hp
              try simp only [hp]
              try clear hp
              go_wp2
              exact ⟨rfl, rfl, rfl, fun _ => rfl⟩
          · intro fu wx vals hC hp
            obtain rfl : wx = W := hC
            simp [predL, predE, Region.binds, PreV, SnV] at hp
            simp only [fillA, if_true, Act.put]
            simp
            clear cl c2 c3 u0 u1 u2 u3 y0 y1 y2 y3 y4 y5 y6
            cases hs
            · try simp at hp
              try simp only [hp]
              try clear hp
              go_wp2
              exact ⟨rfl, rfl, rfl, fun h => absurd h (by decide)⟩
            · try simp at hp
              try simp only [hp]
              try clear hp
              go_wp2
              exact ⟨rfl, rfl, rfl, fun _ => rfl⟩
          · intro fu wx vals hC hp
            obtain rfl : wx = W := hC
            simp [predL, predE, Region.binds, PreV, SnV] at hp
            simp only [fillA, if_true, Act.put]
            simp
            clear cl c2 c3 u0 u1 u2 u3 y0 y1 y2 y3 y4 y5 y6
            cases hs
            · try simp at hp
              try simp only [hp]
              try clear hp
              go_wp2
              exact ⟨rfl, rfl, rfl, fun h => absurd h (by decide)⟩
            · try simp at hp
              try simp only [hp]
              try clear hp
              go_wp2
              exact ⟨rfl, rfl, rfl, fun _ => rfl⟩
          · intro fu wx vals hC hp
            obtain rfl : wx = W := hC
            simp [predL, predE, Region.binds, PreV, SnV] at hp
            simp only [fillA, if_true, Act.put]
            simp
            clear cl c3 u0 u1 u2 u3 y0 y1 y2 y3 y4 y5 y6
            cases hs
            · try simp at hp
              try simp only [hp]
              try clear hp
              go_wp2
              exact ⟨rfl, rfl, rfl, fun h => absurd h (by decide)⟩
            · try simp at hp
              try simp only [hp]
              try clear hp
              go_wp2
              exact ⟨rfl, rfl, rfl, fun _ => rfl⟩
          · intro fu wx vals hC hp
            obtain rfl : wx = W := hC
            simp [predL, predE, Region.binds, PreV, SnV] at hp
            simp only [fillA, if_true, Act.put]
            simp
            clear cl c2 c3 u0 u1 u2 u3 y0 y1 y2 y3 y4 y5 y6
            cases hs
            · try simp at hp
              try simp only [hp]
              try clear hp
              go_wp2
              exact ⟨rfl, rfl, rfl, fun h => absurd h (by decide)⟩
            · try simp at hp
              try simp only [hp]
              try clear hp
              go_wp2
              exact ⟨rfl, rfl, rfl, fun _ => rfl⟩
          · intro fu wx vals hC hp
            obtain rfl : wx = W := hC
            simp [predL, predE, Region.binds, PreV, SnV] at hp
            simp only [fillA, if_true, Act.put]
            simp
            clear cl c2 c3 u0 u1 u2 u3 y0 y1 y2 y3 y4 y5 y6
            cases hs
            · try simp at hp
              try simp only [hp]
              try clear hp
              go_wp2
              exact ⟨rfl, rfl, rfl, fun h => absurd h (by decide)⟩
            · try simp at hp
              try simp only [hp]
              try clear hp
              go_wp2
              exact ⟨rfl, rfl, rfl, fun _ => rfl⟩
          · intro fu wx vals hC hp
            obtain rfl : wx = W := hC
            simp [predL, predE, Region.binds, PreV, SnV] at hp
            simp only [fillA, if_true, Act.put]
            simp
            clear cl c2 c3 u0 u1 u2 u3 y0 y1 y2 y3 y4 y5 y6
            cases hs
            · try simp at hp
              try simp only [hp]
              try clear hp
              go_wp2
              exact ⟨rfl, rfl, rfl, fun h => absurd h (by decide)⟩
            · try simp at hp
              try simp only [hp]
              try clear hp
              go_wp2
              exact ⟨rfl, rfl, rfl, fun _ => rfl⟩
          · intro fu wx vals hC hp
            obtain rfl : wx = W := hC
            simp [predL, predE, Region.binds, PreV, SnV] at hp
            simp only [fillA, if_true, Act.put]
            simp
            clear c2 c3 u0 u1 u2 u3 y0 y1 y2 y3 y4 y5 y6
            cases hs
            · try simp at hp
              try simp only [hp]
              try clear hp
              go_wp2
              exact ⟨rfl, rfl, rfl, fun h => absurd h (by decide)⟩
            · try simp at hp
              try simp only [hp]
              try clear hp
              go_wp2
              exact ⟨rfl, rfl, rfl, fun _ => rfl⟩
          · intro fu wx vals hC hp
            obtain rfl : wx = W := hC
            simp [predL, predE, Region.binds, PreV, SnV] at hp
            simp only [fillA, if_true, Act.put]
            simp
            clear cl c2 c3 u0 u1 u2 u3 y0 y1 y2 y3 y4 y5 y6
            cases hs
            · try simp at hp
              try simp only [hp]
              try clear hp
              go_wp2
              exact ⟨rfl, rfl, rfl, fun h => absurd h (by decide)⟩
            · try simp at hp
              obtain ⟨rfl, rfl, hq, _⟩ := HSS.out rfl
              have hq0 : (0 : Int) ≤ mS := by omega
              try simp only [hp]
              try clear hp
              go_wp2
              exact ⟨rfl, rfl, rfl, fun _ => rfl⟩
          · intro fu wx vals hC hp
            obtain rfl : wx = W := hC
            simp [predL, predE, Region.binds, PreV, SnV] at hp
            simp only [fillA, if_true, Act.put]
            simp
            clear cl c2 c3 u0 u1 u2 u3 y0 y1 y2 y3 y4 y5 y6
            cases hs
            · try simp at hp
              try simp only [hp]
              try clear hp
              go_wp2
              exact ⟨rfl, rfl, rfl, fun h => absurd h (by decide)⟩
            · try simp at hp
              obtain ⟨rfl, rfl, _, q0, q1, q2, q3⟩ := HSS.out rfl
              try simp only [hp]
              try clear hp
              go_wp2
              exact ⟨rfl, rfl, rfl, fun _ => rfl⟩
          · intro fu wx vals hC hp
            obtain rfl : wx = W := hC
            simp [predL, predE, Region.binds, PreV, SnV] at hp
            simp only [fillA, if_true, Act.put]
            simp
            clear cl c2 c3 u0 u1 u2 u3 y0 y1 y2 y3 y4 y5 y6
            cases hs
            · try simp at hp
              try simp only [hp]
              try clear hp
              go_wp2
              exact ⟨rfl, rfl, rfl, fun h => absurd h (by decide)⟩
            · try simp at hp
              try simp only [hp]
              try clear hp
              go_wp2
              exact ⟨rfl, rfl, rfl, fun _ => rfl⟩
          · intro fu wx vals hC hp
            obtain rfl : wx = W := hC
            simp [predL, predE, Region.binds, PreV, SnV] at hp
            simp only [fillA, if_true, Act.put]
            simp
            clear cl c2 c3 u0 u1 u2 u3 y0 y1 y2 y3 y4 y5 y6
            cases hs
            all_goals
              simp at hp
              simp only [hp]
              clear hp
              go_wp2
              exact ⟨rfl, rfl, rfl, rfl⟩
          · intro fu wx vals hC hp
            obtain rfl : wx = W := hC
            simp [predL, predE, Region.binds, PreV, SnV] at hp
            simp only [fillA, if_true, Act.put]
            simp
            clear cl c2 c3 u0 u1 u2 u3 y0 y1 y2 y3 y4 y5 y6
            try simp only [hp]
            try clear hp
            go_wp2
            exact ⟨rfl, rfl, rfl, rfl⟩
          · intro fu wx vals hC hp
            obtain rfl : wx = W := hC
            simp [predL, predE, Region.binds, PreV, SnV] at hp
            simp only [fillA, if_true, Act.put]
            simp
            clear cl c2 c3 u0 u1 u2 u3 y0 y1 y2 y3 y4 y5 y6
            try simp only [hp]
            try clear hp
            go_wp2
            exact ⟨rfl, rfl, rfl, rfl⟩
          · intro fu wx vals hC hp
            obtain rfl : wx = W := hC
            simp [predL, predE, Region.binds, PreV, SnV] at hp
            simp only [fillA, if_true, Act.put]
            simp
            clear cl c2 c3 u0 u1 u2 u3 y0 y1 y2 y3 y4 y5 y6
            try simp only [hp]
            try clear hp
            go_wp2
            exact ⟨rfl, rfl, rfl, rfl⟩
          · intro fu wx vals hC hp
            obtain rfl : wx = W := hC
            simp [predL, predE, Region.binds, PreV, SnV] at hp
            simp only [fillA, if_true, Act.put]
            simp
            clear cl c2 c3 u0 u1 u2 u3 y0 y1 y2 y3 y4 y5 y6
            try simp only [hp]
            try clear hp
            go_wp2
            exact ⟨rfl, rfl, rfl, rfl⟩
          · intro fu wx vals hC hp
            obtain rfl : wx = W := hC
            simp [predL, predE, Region.binds, PreV, SnV] at hp
            simp only [fillA, if_true, Act.put]
            simp
            clear cl c2 c3 u0 u1 u2 u3 y0 y1 y2 y3 y4 y5 y6
            try simp only [hp]
            try clear hp
            go_wp2
            exact ⟨rfl, rfl, rfl, rfl⟩
          · intro fu wx vals hC hp
            obtain rfl : wx = W := hC
            simp [predL, predE, Region.binds, PreV, SnV] at hp
            simp only [fillA, if_true, Act.put]
            simp
            clear cl c2 c3 u0 u1 u2 u3 y0 y1 y2 y3 y4 y5 y6
            try simp only [hp]
            try clear hp
            go_wp2
            exact ⟨rfl, rfl, rfl, rfl⟩
          · intro fu wx vals hC hp
            obtain rfl : wx = W := hC
            simp [predL, predE, Region.binds, PreV, SnV] at hp
            simp only [fillA, if_true, Act.put]
            simp
            clear cl c2 c3 u0 u1 u2 u3 y0 y1 y2 y3 y4 y5 y6
            try simp only [hp]
            try clear hp
            go_wp2
            exact ⟨rfl, rfl, rfl, rfl⟩
          · intro fu wx vals hC hp
            obtain rfl : wx = W := hC
            simp [predL, predE, Region.binds, PreV, SnV] at hp
            simp only [fillA, if_true, Act.put]
            simp
            clear c2 c3 u0 u1 u2 u3 y0 y1 y2 y3 y4 y5 y6
            try simp only [hp]
            try clear hp
            go_wp2
            exact ⟨rfl, rfl, rfl, rfl⟩
          · intro fu wx vals hC hp
            obtain rfl : wx = W := hC
            simp [predL, predE, Region.binds, PreV, SnV] at hp
            simp only [fillA, if_true, Act.put]
            simp
            clear cl c2 c3 u0 u1 u2 u3 y0 y1 y2 y3 y4 y5 y6
            simp only [hp]
            clear hp
            go_wp2_with fail
            (with_reducible refine HTH.out.mono ?_); rintro e w' ⟨rfl, rfl⟩
            go_wp2
            exact ⟨rfl, rfl, rfl, rfl⟩
          · intro fu wx vals hC hp
            obtain rfl : wx = W := hC
            simp [predL, predE, Region.binds, PreV, SnV] at hp
            simp only [fillA, if_true, Act.put]
            simp
            clear cl c2 c3 u0 u1 u2 u3 y0 y1 y2 y3 y4 y5 y6
            try simp only [hp]
            try clear hp
            go_wp2
            exact ⟨rfl, rfl, rfl, rfl⟩
          · intro fu wx vals hC hp
            obtain rfl : wx = W := hC
            simp [predL, predE, Region.binds, PreV, SnV] at hp
            simp only [fillA, if_true, Act.put]
            simp
            clear cl c2 c3 u0 u1 u2 u3 y0 y1 y2 y3 y4 y5 y6
            try simp only [hp]
            try clear hp
            go_wp2
            exact ⟨rfl, rfl, rfl, rfl⟩
          · intro fu wx vals hC hp
            obtain rfl : wx = W := hC
            simp [predL, predE, Region.binds, PreV, SnV] at hp
            simp only [fillA, if_true, Act.put]
            simp
            clear cl c2 c3 u0 u1 u2 u3 y0 y1 y2 y3 y4 y5 y6
            try simp only [hp]
            try clear hp
            go_wp2
            exact ⟨rfl, rfl, rfl, rfl⟩
          · intro fu wx vals hC hp
            obtain rfl : wx = W := hC
            simp [predL, predE, Region.binds, PreV, SnV] at hp
            simp only [fillA, if_true, Act.put]
            simp
            clear cl c2 c3 u0 u1 u2 u3 y0 y1 y2 y3 y4 y5 y6
            try simp only [hp]
            try clear hp
            go_wp2
            exact ⟨rfl, rfl, rfl, rfl⟩
          · intro fu wx vals hC hp
            obtain rfl : wx = W := hC
            simp [predL, predE, Region.binds, PreV, SnV] at hp
            simp only [fillA, if_true, Act.put]
            simp
            clear cl c2 c3 u0 u1 u2 u3 y0 y1 y2 y3 y4 y5 y6
            try simp only [hp]
            try clear hp
            go_wp2
            exact ⟨rfl, rfl, rfl, rfl⟩
          · intro fu wx vals hC hp
            obtain rfl : wx = W := hC
            simp [predL, predE, Region.binds, PreV, SnV] at hp
            simp only [fillA, if_true, Act.put]
            simp
            clear cl c2 c3 u0 u1 u2 u3
            cases th
            · try simp at hp
              try simp only [hp]
              try clear hp
              go_wp2
              exact ⟨rfl, rfl, rfl, fun h => absurd h (by decide)⟩
            · try simp at hp
              try simp only [hp]
              try clear hp
              go_wp2
              exact ⟨rfl, rfl, rfl, fun _ => rfl⟩
          · intro fu wx vals hC hp
            obtain rfl : wx = W := hC
            simp [predL, predE, Region.binds, PreV, SnV] at hp
            simp only [fillA, if_true, Act.put]
            simp
            clear cl c2 c3 u0 u1 u2 u3 y0 y1 y2 y3 y4 y5 y6
            cases th
            · try simp at hp
              try simp only [hp]
              try clear hp
              go_wp2
              exact ⟨rfl, rfl, rfl, fun h => absurd h (by decide)⟩
            · try simp at hp
              try simp only [hp]
              try clear hp
              go_wp2
              exact ⟨rfl, rfl, rfl, fun _ => rfl⟩
          · intro fu wx vals hC hp
            obtain rfl : wx = W := hC
            simp [predL, predE, Region.binds, PreV, SnV] at hp
            simp only [fillA, if_true, Act.put]
            simp
            clear cl c2 c3 u0 u1 u2 u3 y0 y1 y2 y3 y4 y5 y6
            cases th
            · try simp at hp
              try simp only [hp]
              try clear hp
              go_wp2
              exact ⟨rfl, rfl, rfl, fun h => absurd h (by decide)⟩
            · try simp at hp
              try simp only [hp]
              try clear hp
              go_wp2
              exact ⟨rfl, rfl, rfl, fun _ => rfl⟩
          · intro fu wx vals hC hp
            obtain rfl : wx = W := hC
            simp [predL, predE, Region.binds, PreV, SnV] at hp
            simp only [fillA, if_true, Act.put]
            simp
            clear cl c2 c3 u0 u1 u2 u3 y0 y1 y2 y3 y4 y5 y6
            cases th
            · try simp at hp
              try simp only [hp]
              try clear hp
              go_wp2
              exact ⟨rfl, rfl, rfl, fun h => absurd h (by decide)⟩
            · try simp at hp
              try simp only [hp]
              try clear hp
              go_wp2
              exact ⟨rfl, rfl, rfl, fun _ => rfl⟩
          · intro fu wx vals hC hp
            obtain rfl : wx = W := hC
            simp [predL, predE, Region.binds, PreV, SnV] at hp
            simp only [fillA, if_true, Act.put]
            simp
            clear cl c2 u0 u1 u2 u3 y0 y1 y2 y3 y4 y5 y6
            cases th
            · try simp at hp
              try simp only [hp]
              try clear hp
              go_wp2
              exact ⟨rfl, rfl, rfl, fun h => absurd h (by decide)⟩
            · try simp at hp
              try simp only [hp]
              try clear hp
              go_wp2
              exact ⟨rfl, rfl, rfl, fun _ => rfl⟩
          · intro fu wx vals hC hp
            obtain rfl : wx = W := hC
            simp [predL, predE, Region.binds, PreV, SnV] at hp
            simp only [fillA, if_true, Act.put]
            simp
            clear cl c2 c3 u0 u1 u2 u3 y0 y1 y2 y3 y4 y5 y6
            cases th
            · try simp at hp
              try simp only [hp]
              try clear hp
              go_wp2
              exact ⟨rfl, rfl, rfl, fun h => absurd h (by decide)⟩
            · try simp at hp
              try simp only [hp]
              try clear hp
              go_wp2
              exact ⟨rfl, rfl, rfl, fun _ => rfl⟩
          · intro fu wx vals hC hp
            obtain rfl : wx = W := hC
            simp [predL, predE, Region.binds, PreV, SnV] at hp
            simp only [fillA, if_true, Act.put]
            simp
            clear cl c2 c3 u0 u1 u2 u3 y0 y1 y2 y3 y4 y5 y6
            cases th
            · try simp at hp
              try simp only [hp]
              try clear hp
              go_wp2
              exact ⟨rfl, rfl, rfl, fun h => absurd h (by decide)⟩
            · try simp at hp
              try simp only [hp]
              try clear hp
              go_wp2
              exact ⟨rfl, rfl, rfl, fun _ => rfl⟩
          · intro fu wx vals hC hp
            obtain rfl : wx = W := hC
            simp [predL, predE, Region.binds, PreV, SnV] at hp
            simp only [fillA, if_true, Act.put]
            simp
            clear cl c2 c3 u0 u1 u2 u3 y0 y1 y2 y3 y4 y5 y6
            cases th
            · try simp at hp
              try simp only [hp]
              try clear hp
              go_wp2
              exact ⟨rfl, rfl, rfl, fun h => absurd h (by decide)⟩
            · try simp at hp
              try simp only [hp]
              try clear hp
              go_wp2
              exact ⟨rfl, rfl, rfl, fun _ => rfl⟩
          · intro fu wx vals hC hp
            obtain rfl : wx = W := hC
            simp [predL, predE, Region.binds, PreV, SnV] at hp
            simp only [fillA, if_true, Act.put]
            simp
            clear c2 c3 u0 u1 u2 u3 y0 y1 y2 y3 y4 y5 y6
            cases th
            · try simp at hp
              try simp only [hp]
              try clear hp
              go_wp2
              exact ⟨rfl, rfl, rfl, fun h => absurd h (by decide)⟩
            · try simp at hp
              try simp only [hp]
              try clear hp
              go_wp2
              exact ⟨rfl, rfl, rfl, fun _ => rfl⟩
          · intro fu wx vals hC hp
            obtain rfl : wx = W := hC
            simp [predL, predE, Region.binds, PreV, SnV] at hp
            simp only [fillA, if_true, Act.put]
            simp
            clear cl c2 c3 u0 u1 u2 u3 y0 y1 y2 y3 y4 y5 y6
            cases th
            · try simp at hp
              try simp only [hp]
              try clear hp
              go_wp2
              exact ⟨rfl, rfl, rfl, fun h => absurd h (by decide)⟩
            · try simp at hp
              obtain ⟨rfl, rfl, hq, _⟩ := HFF.out rfl
              have hq0 : (0 : Int) ≤ mF := by omega
              try simp only [hp]
              try clear hp
              go_wp2
              exact ⟨rfl, rfl, rfl, fun _ => rfl⟩
          · intro fu wx vals hC hp
            obtain rfl : wx = W := hC
            simp [predL, predE, Region.binds, PreV, SnV] at hp
            simp only [fillA, if_true, Act.put]
            simp
            clear cl c2 c3 u0 u1 u2 u3 y0 y1 y2 y3 y4 y5 y6
            cases th
            · try simp at hp
              try simp only [hp]
              try clear hp
              go_wp2
              exact ⟨rfl, rfl, rfl, fun h => absurd h (by decide)⟩
            · try simp at hp
              obtain ⟨rfl, rfl, _, q0, q1, q2, q3, q4, q5, q6⟩ := HFF.out rfl
              try simp only [hp]
              try clear hp
              go_wp2
              exact ⟨rfl, rfl, rfl, fun _ => rfl⟩
          · intro fu wx vals hC hp
            obtain rfl : wx = W := hC
            simp [predL, predE, Region.binds, PreV, SnV] at hp
            simp only [fillA, if_true, Act.put]
            simp
            clear cl c2 c3 u0 u1 u2 u3 y0 y1 y2 y3 y4 y5 y6
            cases th
            · try simp at hp
              try simp only [hp]
              try clear hp
              go_wp2
              exact ⟨rfl, rfl, rfl, fun h => absurd h (by decide)⟩
            · try simp at hp
              try simp only [hp]
              try clear hp
              go_wp2
              exact ⟨rfl, rfl, rfl, fun _ => rfl⟩
          · intro fu wx vals hC hp
            obtain rfl : wx = W := hC
            simp [predL, predE, Region.binds, PreV, SnV] at hp
            simp only [fillA, if_true, Act.put]
            simp
            clear cl c2 c3 u0 u1 u2 u3 y0 y1 y2 y3 y4 y5 y6
            cases th
            all_goals
              simp at hp
              simp only [hp]
              clear hp
              go_wp2
              exact ⟨rfl, rfl, rfl, rfl⟩
          · intro fu wx vals hC hp
            obtain rfl : wx = W := hC
            simp [predL, predE, Region.binds, PreV, SnV] at hp
            simp only [fillA, if_true, Act.put]
            simp
            clear cl c2 c3 u0 u1 u2 u3 y0 y1 y2 y3 y4 y5 y6
            try simp only [hp]
            try clear hp
            go_wp2
            exact ⟨rfl, rfl, rfl, rfl⟩
        · intro w9 vals hC hV
          obtain rfl : w9 = W := hC
          have e62 := (show vals 62 = .bool false from hV 62 (by simp))
          simp only [fillA, if_true, Act.put]
          simp
          simp only [e62]
          clear hV e62
          go_wp2
          go_roundw
          case rel => exact ⟨j + 1, by omega, by go_num, HGW, HWW⟩
          case measure => simp [intOf]; omega
      · obtain rfl : j = 6 := by omega
        go_wp2
        go_ret
        exact ⟨rfl, HG.out⟩
end Go.Proofs.Ytgojbomdkdlclaa

