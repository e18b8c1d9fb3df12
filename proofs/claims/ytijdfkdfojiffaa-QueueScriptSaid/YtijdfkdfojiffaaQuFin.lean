/-
  Layer 11: the walk of the statement on a sequence of calls (QueueScript). Every input; no condition.
-/
import Derived.Test.YtijdfkdfojiffaaQuAct
namespace Go.Proofs.Ytijdfkdfojiffaa
open Go.ChangeShapes Go.WideShapes Go.ChangeAt Go.RowKit
set_option linter.unusedVariables false

/-- Two drawn numbers, with choices alone. -/
def HqC (B : Nat) (a : Option Addr) (len cap K : Nat) (w0 : World) (fu : Nat) (w : World) : Prop := ∃ k, k + fu ≤ K ∧ Has B a len cap k w0 w
def HqV (B : Nat) (i : Nat) (v : Value) (w : World) : Prop :=
  match i with
  | 0 => v = .pointer (some ⟨B, 0, none⟩)
  | 1 => InV 0 4 v
  | 2 => InV 1 5 v
  | 3 => RwV B 1 262144 3 v w
  | 4 => v = .pointer (some ⟨B, 0, none⟩)
  | 5 => InV 0 2 v
  | 6 => PtV B 1 262144 v w
  | 7 => InV 1 262144 v
  | 8 => InV 1 5 v
  | 9 => InV 1 262144 v
  | _ => True
theorem HqV.keep {B : Nat} (i : Nat) (v : Value) (w w' : World) (h : DrR B w w') (hv : HqV B i v w) : HqV B i v w' := by
  unfold HqV at *
  split at hv <;> first | exact hv | exact h.row hv | exact h.ptr hv | trivial
theorem HqC.step {B : Nat} {a : Option Addr} {len cap K fu : Nat} {w0 w : World} (h : HqC B a len cap K w0 (fu + 1) w) : HqC B a len cap K w0 fu w := by
  obtain ⟨k, hk, h1⟩ := h; exact ⟨k, by omega, h1⟩
theorem HqC.below {B : Nat} {a : Option Addr} {len cap K fu : Nat} {w0 w w' : World} (h : HqC B a len cap K w0 (fu + 1) w) (hb : Below w.heap.size w w') : HqC B a len cap K w0 fu w' := by
  obtain ⟨k, hk, h1⟩ := h; exact ⟨k, by omega, h1.below hb⟩
theorem sc_caps {x y : Int} (x0 : 1 ≤ x) (x1 : x ≤ 5) (y0 : 1 ≤ y) (y1 : y ≤ 262144) : cpB x y = true := by
  unfold cpB
  simp only [Bool.and_eq_true, decide_eq_true_eq]
  omega
/-- A slice of the queue's packets. -/
def SlV (q : Qu) (v : Value) (w : World) : Prop := ∃ A c, v = .slice A q.L.length c ∧ SrAt csP 5 w 0 w.heap.size A q.L
/-- The test of a round: before act (5) and behind it; q is the queue that act has left. -/
def ScC (B : Nat) (a : Option Addr) (len cap k K : Nat) (w0 : World) (C : Nat) (b : Qb) (D R : Nat) (q0 : Qu) (q : Qu) (L : Nat → Bool) (w : World) : Prop :=
  (L 5 = false → SQ B a len cap k w0 C b D R q0 q0 w ∧ ∀ j, 5 ≤ j → L j = false) ∧ (L 5 = true → ∃ kk, kk ≤ K ∧ SQ B a len cap kk w0 C b D R q q w)
def ScV (B H R : Nat) (j : Int) (q : Qu) (i : Nat) (v : Value) (w : World) : Prop :=
  match i with
  | 0 => v = .pointer (some ⟨B, 0, none⟩)
  | 1 => v = .pointer (some ⟨H, 0, none⟩)
  | 2 => v = .pointer (some ⟨R, 0, none⟩)
  | 3 => v = .int .i64 j
  | 4 => v = .int .i64 (j + 1)
  | 5 => v = .bool true
  | 6 => v = .bool false
  | 7 => v = .bool false
  | 8 => v = .pointer (some ⟨H, 0, none⟩)
  | 9 => v = .int .i64 q.L.length
  | 10 => v = .pointer (some ⟨R, 0, none⟩)
  | 11 => v = .pointer (some ⟨R, 0, none⟩)
  | 12 => v = .pointer (some ⟨R, 2, none⟩)
  | 13 => SlV q v w
  | 14 => v = .int .i64 q.L.length
  | 15 => v = .bool false
  | 16 => v = .bool false
  | 17 => v = .bool false
  | 18 => v = .pointer (some ⟨H, 0, none⟩)
  | 19 => v = .int .i64 (sumB q.L)
  | 20 => v = .pointer (some ⟨R, 0, none⟩)
  | 21 => v = .int .i64 (sumB q.L)
  | 22 => v = .bool false
  | 23 => v = .bool false
  | 24 => v = .bool false
  | 25 => v = .pointer (some ⟨H, 0, none⟩)
  | 26 => SlV q v w
  | 27 => v = .pointer (some ⟨R, 0, none⟩)
  | 28 => v = .pointer (some ⟨R, 0, none⟩)
  | 29 => v = .pointer (some ⟨R, 2, none⟩)
  | 30 => SlV q v w
  | 31 => v = .bool true
  | 32 => v = .bool false
  | 33 => v = .bool false
  | _ => True
theorem SlV.later {q : Qu} {v : Value} {w w' : World} (h : SlV q v w) (hb : Below w.heap.size w w') : SlV q v w' := by
  obtain ⟨A, c, e, h1⟩ := h
  exact ⟨A, c, e, (h1.below hb (Nat.le_refl _)).wider (Nat.le_refl _) hb.size⟩
theorem ScV.keep {B H R : Nat} {j : Int} {q : Qu} (w w' : World) (hb : Below w.heap.size w w') (i : Nat) (v : Value) (hv : ScV B H R j q i v w) : ScV B H R j q i v w' := by
  unfold ScV at *
  split at hv <;> first | exact hv | exact hv.later hb | trivial
theorem ScV.first {B H R : Nat} {j : Int} {q q' : Qu} {w w' : World} {i : Nat} (hi : i < 5) {v : Value} (hv : ScV B H R j q i v w) : ScV B H R j q' i v w' := by
  match i, hi with
  | 0, _ => exact hv
  | 1, _ => exact hv
  | 2, _ => exact hv
  | 3, _ => exact hv
  | 4, _ => exact hv
section
variable {B : Nat} {a : Option Addr} {len cap k K C D R : Nat} {w0 w w' : World} {b : Qb} {q0 q : Qu} {L : Nat → Bool}
theorem ScC.five (h : ScC B a len cap k K w0 C b D R q0 q L w) {p : Nat} (hp : L p = true) (h5 : 5 ≤ p) : L 5 = true := by
  cases h0 : L 5 with
  | true => rfl
  | false => have := (h.1 h0).2 p h5; rw [hp] at this; cases this
theorem ScC.pre (h : ScC B a len cap k K w0 C b D R q0 q L w) {i : Nat} (hi : i < 5) : ScC B a len cap k K w0 C b D R q0 q (setL L i) w :=
  ⟨fun e => by
    rw [setL_ne (by omega)] at e
    exact ⟨(h.1 e).1, fun j hj => by rw [setL_ne (by omega)]; exact (h.1 e).2 j hj⟩, fun e => by rw [setL_ne (by omega)] at e; exact h.2 e⟩
theorem ScC.post (h : ScC B a len cap k K w0 C b D R q0 q L w) (h5 : L 5 = true) {i : Nat} (hi : 5 ≠ i) (hb : Below w.heap.size w w') : ScC B a len cap k K w0 C b D R q0 q (setL L i) w' :=
  ⟨(fun e => by rw [setL_ne hi, h5] at e; cases e), (fun e => by
    obtain ⟨kk, hk, hs⟩ := h.2 h5
    exact ⟨kk, hk, hs.below hb⟩)⟩
theorem ScC.pivot {q' : Qu} {kk : Nat} (hk : kk ≤ K) (hs : SQ B a len cap kk w0 C b D R q' q' w') : ScC B a len cap k K w0 C b D R q0 q' (setL L 5) w' :=
  ⟨(fun e => by rw [setL_at] at e; cases e), fun _ => ⟨kk, hk, hs⟩⟩
end
theorem rqbytesS_any {D R : Nat} {S : Nat → Prop} {q : Qu} {w : World} (h : RQO D R S q w) : Calls Try.prog 14 #[.pointer (some ⟨R, 0, none⟩)] w (Calm (.int .i64 (sumB q.L)) w) := by
  refine (rqbytes_any h).mono ?_
  rintro e w' ⟨e1, rfl⟩
  exact ⟨e1, Below.refl _ _⟩
/-- New at any caps, beside the two queues. -/
def NewAny (x : Int) (w : World) (e : Ending) (w' : World) : Prop := ∃ p, e = .returned (.tuple #[p, .int .i64 x]) ∧ Below w.heap.size w w'
theorem qnewE_any (p c : Int) (w : World) : Calls Try.prog 9 #[.int .i64 p, .int .i64 c] w (NewAny (qnE p c) w) := by
  unfold qnE
  cases hc : cpB p c
  · refine (qnew_no hc w).mono ?_
    rintro e w' ⟨e1, h1⟩
    exact ⟨_, e1, h1⟩
  · refine (qnew_any hc w).mono ?_
    rintro e w' ⟨b, e1, _, h1⟩
    exact ⟨_, e1, h1⟩
theorem rqnewE_any (p c : Int) (w : World) : Calls Try.prog 10 #[.int .i64 p, .int .i64 c] w (NewAny (qnE p c) w) := by
  unfold qnE
  cases hc : cpB p c
  · refine (rqnew_no hc w).mono ?_
    rintro e w' ⟨e1, rfl⟩
    exact ⟨_, e1, Below.refl _ _⟩
  · refine (rqnew_any hc w).mono ?_
    rintro e w' ⟨R, S, e1, _, h1⟩
    exact ⟨_, e1, h1⟩
set_option maxRecDepth 100000 in
set_option maxHeartbeats 16000000 in
theorem walkScript11 (A : Option Addr) (len cap : Nat) (x y : Int) (w : World) (he : Elems w.heap.size A len w) :
    Calls Try.prog 3 #[.slice A len cap, .int .i64 x, .int .i64 y] w fun e w' => e = .returned (.bool true) ∧ Below w.heap.size w w' := by
  have hg := Has.new (cap := cap) he
  have HC0 := Lib.hid (show HqC w.heap.size A len cap 10 w 10 (w.alloc (.cells #[.slice A len cap, .int .i64 0] 54)).drew from ⟨0, by omega, hg.drew⟩)
  clear he hg
  go_enter Try.func3, Try.ntmps3
  go_wp2_with (go_at_call 7; (with_reducible refine (new_any A len cap _).mono ?_); rintro e w' ⟨rfl, rfl⟩)
  refine wp_region_loose 115 (by kernel_rfl) (by kernel_rfl) (HqC w.heap.size A len cap 10 w) (DrR w.heap.size) (HqV w.heap.size) rfl (fun i v w w' h hv => HqV.keep i v w w' h hv) HC0.out ?_ ?_
  · simp only [OblAll]
    refine ⟨?_, ?_, ?_, ?_, ?_, ?_, ?_, ?_, ?_, ?_, trivial⟩
    all_goals
      intro fu wx vals hC hp
      simp [predL, predE, Region.binds, PreV, HqV] at hp
      simp only [fillA, if_true, Act.put]
      simp
      have HCx := Lib.hid hC
    · clear hp
      go_wp2
      exact ⟨rfl, HCx.out.step, DrR.refl _ _, rfl⟩
    · simp only [hp]
      clear hp
      obtain ⟨kk, hkk, hg'⟩ := hC
      have HX := Lib.hid (has_next w.heap.size A len cap kk 5 w wx hg' (by omega) (by omega) (by omega))
      clear hg'
      go_wp2_with fail
      (with_reducible refine HX.out.mono ?_)
      rintro e w' ⟨r, r0, r1, rfl, hs, ho⟩
      have HF := Lib.hid (And.intro (show HqC w.heap.size A len cap 10 w fu w' from ⟨kk + 1, by omega, hs⟩) (DrR.only ho))
      clear hs ho
      go_wp2
      exact ⟨rfl, HF.out.1, HF.out.2, r, ⟨r0, by omega⟩, rfl⟩
    · obtain ⟨z, hz, e1⟩ := hp
      have HX := Lib.hid (show 1 ≤ 1 + z ∧ 1 + z ≤ 5 by omega)
      have hw1 : IntKind.i64.wrap (1 + z) = 1 + z := IntWalk.i64_in _ (by omega)
      simp only [e1]
      clear e1 hC hz
      go_wp2
      exact ⟨rfl, HCx.out.step, DrR.refl _ _, 1 + z, HX.out, rfl⟩
    · have hB := hC.choose_spec.2.1.lt
      clear hp
      go_wp2
      exact ⟨rfl, HCx.out.below ((Below.refl _ _).alloc (Nat.le_refl _) _), DrR.below ((Below.refl _ _).alloc (Nat.le_refl _) _), RwV.new hB (L := [100, 5000, 262144]) rfl (by decide) rfl _⟩
    · clear hp
      go_wp2
      exact ⟨rfl, HCx.out.step, DrR.refl _ _, rfl⟩
    · simp only [hp]
      clear hp
      obtain ⟨kk, hkk, hg'⟩ := hC
      have HX := Lib.hid (has_next w.heap.size A len cap kk 3 w wx hg' (by omega) (by omega) (by omega))
      clear hg'
      go_wp2_with fail
      (with_reducible refine HX.out.mono ?_)
      rintro e w' ⟨r, r0, r1, rfl, hs, ho⟩
      have HF := Lib.hid (And.intro (show HqC w.heap.size A len cap 10 w fu w' from ⟨kk + 1, by omega, hs⟩) (DrR.only ho))
      clear hs ho
      go_wp2
      exact ⟨rfl, HF.out.1, HF.out.2, r, ⟨r0, by omega⟩, rfl⟩
    · obtain ⟨hrow, r, hr, e3⟩ := hp
      obtain ⟨n, rfl⟩ := Int.eq_ofNat_of_zero_le hr.1
      have hn' : n ≤ 2 := by omega
      obtain ⟨g, g1, g2, e1, hpt⟩ := hrow.at_ (i := n) (by omega)
      have HX := Lib.hid hpt
      simp only [e1, e3]
      clear e1 e3 hC hrow hpt hr
      go_wp2
      exact ⟨rfl, HCx.out.step, DrR.refl _ _, HX.out⟩
    · obtain ⟨g, o, g1, g2, e1, z, hz, hc⟩ := hp
      have HX := Lib.hid hz
      simp only [e1]
      clear e1 hC hz
      go_wp2
      exact ⟨rfl, HCx.out.step, DrR.refl _ _, z, HX.out, rfl⟩
    · obtain ⟨z, hz, e1⟩ := hp.1
      have HX := Lib.hid hz
      simp only [e1]
      clear e1 hC hz
      go_wp2
      exact ⟨rfl, HCx.out.step, DrR.refl _ _, z, HX.out, rfl⟩
    · obtain ⟨z, hz, e1⟩ := hp.1
      have HX := Lib.hid hz
      simp only [e1]
      clear e1 hC hz
      go_wp2
      exact ⟨rfl, HCx.out.step, DrR.refl _ _, z, HX.out, rfl⟩
  · intro wz vals hC hV
    have e8 := hV 8 (by simp)
    have e9 := hV 9 (by simp)
    simp only [HqV] at e8 e9
    obtain ⟨n1, hn1, e8⟩ := e8
    obtain ⟨n2, hn2, e9⟩ := e9
    obtain ⟨k3, hk3, h3⟩ := hC
    have hcp := sc_caps hn1.1 hn1.2 hn2.1 hn2.2
    simp only [fillA, if_true, Act.put]
    simp
    simp only [e8, e9]
    have H3 := Lib.hid h3
    have HN := Lib.hid (qnew_any hcp wz)
    have HM := Lib.hid (fun W => rqnew_any hcp W)
    clear e8 e9 hV h3 HC0 hcp hn1 hn2
    generalize vals 0 = u0 at *
    generalize vals 1 = u1 at *
    generalize vals 2 = u2 at *
    generalize vals 3 = u3 at *
    generalize vals 4 = u4 at *
    generalize vals 5 = u5 at *
    generalize vals 6 = u6 at *
    generalize vals 7 = u7 at *
    go_wp2_with fail
    (with_reducible refine HN.out.mono ?_); intro e w2 ha
    obtain ⟨b, rfl, h2⟩ := GQ.new H3.out ha
    generalize wz.heap.size = C at h2
    have H2 := Lib.hid h2
    clear ha h2 HN H3
    go_wp2_with fail
    (with_reducible refine (HM.out _).mono ?_); intro e w3 ha
    obtain ⟨R, rfl, h3⟩ := SQ.start H2.out ha
    generalize w2.heap.size = D at h3
    have H3 := Lib.hid h3
    clear ha h3 HM H2
    go_wp2_with fail
    go_loopw [14] (fun s14 wr => ∃ (j k : Nat) (q : Qu), j ≤ 30 ∧ s14 = .int .i64 j ∧ k ≤ 10 + 60 * j ∧ Hid (SQ w.heap.size A len cap k w C b D R q q wr)) (fun s14 _ => 30 - (intOf s14).toNat)
    case atStart => exact ⟨0, k3, _, by omega, rfl, by omega, H3⟩
    case round =>
      obtain ⟨j, k, q, hj, rfl, hk, HS⟩ := hrel
      clear H3
      by_cases hlt : j < 30
      · have hlt' : (j : Int) < 30 := by omega
        have hwj : IntKind.i64.wrap ((j : Int) + 1) = (j : Int) + 1 := IntWalk.i64_in _ (by omega)
        have HC0 := Lib.hid (show ScC w.heap.size A len cap k (k + 60) w C b D R q q (fun _ => false) wr.drew from ⟨fun _ => ⟨HS.out.below (Below.refl _ _).drew, fun _ _ => rfl⟩, fun e => by cases e⟩)
        clear HS
        go_wp2_with fail
        refine wp_region_looseG 115 (by kernel_rfl) (by kernel_rfl) (ScC w.heap.size A len cap k (k + 60) w C b D R q) (ScV w.heap.size b.H R j) q rfl HC0.out ?_ ?_
        · simp only [OblAllG]
          refine ⟨?_, ?_, ?_, ?_, ?_, ?_, ?_, ?_, ?_, ?_, ?_, ?_, ?_, ?_, ?_, ?_, ?_, ?_, ?_, ?_, ?_, ?_, ?_, ?_, ?_, ?_, ?_, ?_, ?_, ?_, ?_, ?_, ?_, ?_, trivial⟩
          all_goals
            intro γ L wx vals hi hu hcl hC hp
            simp [predL, predE, Region.binds, UpL] at hu
            clear hcl
            have hcl : True := trivial
            simp [predL, predE, Region.binds, PreV, ScV] at hp
            simp only [fillA, if_true, Act.put]
            simp
            have HCx := Lib.hid hC
          · clear hC hcl hu hi
            clear hp
            go_wp2
            exact ⟨rfl, γ, HCx.out.pre (by decide), rfl, fun _ _ _ h => h⟩
          · clear hC hcl hu hi
            clear hp
            go_wp2
            exact ⟨rfl, γ, HCx.out.pre (by decide), rfl, fun _ _ _ h => h⟩
          · clear hC hcl hu hi
            clear hp
            go_wp2
            exact ⟨rfl, γ, HCx.out.pre (by decide), rfl, fun _ _ _ h => h⟩
          · clear hC hcl hu hi
            clear hp
            go_wp2
            exact ⟨rfl, γ, HCx.out.pre (by decide), rfl, fun _ _ _ h => h⟩
          · clear hC hcl hu hi
            simp only [hp]
            clear hp
            go_wp2
            exact ⟨rfl, γ, HCx.out.pre (by decide), rfl, fun _ _ _ h => h⟩
          · have h5 := hC.1 hi
            have HX := Lib.hid (act_any h5.1 (by omega) ((j : Int) + 1))
            have HL := Lib.hid h5.2
            unfold ActAns at HX
            simp only [hp]
            clear hp hC hcl hu hi h5
            go_wp2_with fail
            (with_reducible refine HX.out.mono ?_); rintro e w' ⟨rfl, k', q', hk', hs⟩
            have HF := Lib.hid (show ScC w.heap.size A len cap k (k + 60) w C b D R q q' (setL L 5) w' from ScC.pivot hk' hs)
            clear hs
            go_wp2
            exact ⟨rfl, q', HF.out, rfl, fun jj u hj h => ScV.first (by
              rcases Nat.lt_or_ge jj 5 with h1 | h1
              · exact h1
              · have := HL.out jj h1; rw [hj] at this; cases this) h⟩
          · have h5 := hC.five (p := 5) (by simp [hu]) (by decide)
            have HF := Lib.hid (hC.post h5 (i := 6) (by decide) (Below.refl _ _))
            simp only [hp]
            clear hp hC hcl hu hi h5
            go_wp2
            exact ⟨rfl, γ, HF.out, rfl, fun _ _ _ h => h⟩
          · have h5 := hC.five (p := 6) (by simp [hu]) (by decide)
            have HF := Lib.hid (hC.post h5 (i := 7) (by decide) (Below.refl _ _))
            simp only [hp]
            clear hp hC hcl hu hi h5
            go_wp2
            exact ⟨rfl, γ, HF.out, rfl, fun _ _ _ h => h⟩
          · have h5 := hC.five (p := 7) (by simp [hu]) (by decide)
            have HF := Lib.hid (hC.post h5 (i := 8) (by decide) (Below.refl _ _))
            simp only [hp]
            clear hp hC hcl hu hi h5
            go_wp2
            exact ⟨rfl, γ, HF.out, rfl, fun _ _ _ h => h⟩
          · have h5 := hC.five (p := 7) (by simp [hu]) (by decide)
            obtain ⟨kk, hkk, hs⟩ := hC.2 h5
            have hx := qlenO_any hs.2.2.2.2.1
            unfold Calm at hx
            have HX := Lib.hid hx
            have HF := Lib.hid (fun w' hb => hC.post (w' := w') h5 (i := 9) (by decide) hb)
            simp only [hp]
            clear hp hC hcl hu hi h5 hs hx
            go_wp2_with fail
            (with_reducible refine HX.out.mono ?_); rintro e w' ⟨rfl, hb⟩
            have HB := Lib.hid hb
            clear hb
            go_wp2
            exact ⟨rfl, γ, HF.out _ HB.out, rfl, fun jj u _ h => ScV.keep _ _ HB.out jj u h⟩
          · have h5 := hC.five (p := 7) (by simp [hu]) (by decide)
            have HF := Lib.hid (hC.post h5 (i := 10) (by decide) (Below.refl _ _))
            simp only [hp]
            clear hp hC hcl hu hi h5
            go_wp2
            exact ⟨rfl, γ, HF.out, rfl, fun _ _ _ h => h⟩
          · have h5 := hC.five (p := 10) (by simp [hu]) (by decide)
            have HF := Lib.hid (hC.post h5 (i := 11) (by decide) (Below.refl _ _))
            simp only [hp]
            clear hp hC hcl hu hi h5
            go_wp2
            exact ⟨rfl, γ, HF.out, rfl, fun _ _ _ h => h⟩
          · have h5 := hC.five (p := 11) (by simp [hu]) (by decide)
            have HF := Lib.hid (hC.post h5 (i := 12) (by decide) (Below.refl _ _))
            simp only [hp]
            clear hp hC hcl hu hi h5
            go_wp2
            exact ⟨rfl, γ, HF.out, rfl, fun _ _ _ h => h⟩
          · have h5 := hC.five (p := 12) (by simp [hu]) (by decide)
            obtain ⟨kk, hkk, hs⟩ := hC.2 h5
            obtain ⟨A9, c9, e9, ha9, hR9, _⟩ := hs.ref
            have HF := Lib.hid (hC.post h5 (i := 13) (by decide) (Below.refl _ _))
            have HA := Lib.hid ha9
            simp only [hp]
            clear hp hC hcl hu hi h5 hs ha9
            go_wp2
            exact ⟨rfl, γ, HF.out, ⟨A9, c9, rfl, HA.out⟩, fun _ _ _ h => h⟩
          · have hsl : SlV γ (vals 13) wx := by simp [hp]
            obtain ⟨A9, c9, e9, _⟩ := hsl
            have h5 := hC.five (p := 13) (by simp [hu]) (by decide)
            have HF := Lib.hid (hC.post h5 (i := 14) (by decide) (Below.refl _ _))
            simp only [hp, e9]
            clear hp e9 hC hcl hu hi h5
            go_wp2
            exact ⟨rfl, γ, HF.out, rfl, fun _ _ _ h => h⟩
          · have hnn : ((γ.L.length : Int) != γ.L.length) = false := by simp
            have h5 := hC.five (p := 9) (by simp [hu]) (by decide)
            have HF := Lib.hid (hC.post h5 (i := 15) (by decide) (Below.refl _ _))
            simp only [hp]
            clear hp hC hcl hu hi h5
            go_wp2
            exact ⟨rfl, γ, HF.out, rfl, fun _ _ _ h => h⟩
          · have h5 := hC.five (p := 15) (by simp [hu]) (by decide)
            have HF := Lib.hid (hC.post h5 (i := 16) (by decide) (Below.refl _ _))
            simp only [hp]
            clear hp hC hcl hu hi h5
            go_wp2
            exact ⟨rfl, γ, HF.out, rfl, fun _ _ _ h => h⟩
          · have h5 := hC.five (p := 16) (by simp [hu]) (by decide)
            have HF := Lib.hid (hC.post h5 (i := 17) (by decide) (Below.refl _ _))
            simp only [hp]
            clear hp hC hcl hu hi h5
            go_wp2
            exact ⟨rfl, γ, HF.out, rfl, fun _ _ _ h => h⟩
          · have h5 := hC.five (p := 17) (by simp [hu]) (by decide)
            have HF := Lib.hid (hC.post h5 (i := 18) (by decide) (Below.refl _ _))
            simp only [hp]
            clear hp hC hcl hu hi h5
            go_wp2
            exact ⟨rfl, γ, HF.out, rfl, fun _ _ _ h => h⟩
          · have h5 := hC.five (p := 17) (by simp [hu]) (by decide)
            obtain ⟨kk, hkk, hs⟩ := hC.2 h5
            have hx := qbytesO_any hs.2.2.2.2.1
            unfold Calm at hx
            have HX := Lib.hid hx
            have HF := Lib.hid (fun w' hb => hC.post (w' := w') h5 (i := 19) (by decide) hb)
            simp only [hp]
            clear hp hC hcl hu hi h5 hs hx
            go_wp2_with fail
            (with_reducible refine HX.out.mono ?_); rintro e w' ⟨rfl, hb⟩
            have HB := Lib.hid hb
            clear hb
            go_wp2
            exact ⟨rfl, γ, HF.out _ HB.out, rfl, fun jj u _ h => ScV.keep _ _ HB.out jj u h⟩
          · have h5 := hC.five (p := 17) (by simp [hu]) (by decide)
            have HF := Lib.hid (hC.post h5 (i := 20) (by decide) (Below.refl _ _))
            simp only [hp]
            clear hp hC hcl hu hi h5
            go_wp2
            exact ⟨rfl, γ, HF.out, rfl, fun _ _ _ h => h⟩
          · have h5 := hC.five (p := 17) (by simp [hu]) (by decide)
            obtain ⟨kk, hkk, hs⟩ := hC.2 h5
            have hx := rqbytesS_any hs.2.2.2.2.2.choose_spec
            unfold Calm at hx
            have HX := Lib.hid hx
            have HF := Lib.hid (fun w' hb => hC.post (w' := w') h5 (i := 21) (by decide) hb)
            simp only [hp]
            clear hp hC hcl hu hi h5 hs hx
            go_wp2_with fail
            (with_reducible refine HX.out.mono ?_); rintro e w' ⟨rfl, hb⟩
            have HB := Lib.hid hb
            clear hb
            go_wp2
            exact ⟨rfl, γ, HF.out _ HB.out, rfl, fun jj u _ h => ScV.keep _ _ HB.out jj u h⟩
          · have hnn : ((sumB γ.L : Int) != sumB γ.L) = false := by simp
            have h5 := hC.five (p := 19) (by simp [hu]) (by decide)
            have HF := Lib.hid (hC.post h5 (i := 22) (by decide) (Below.refl _ _))
            simp only [hp]
            clear hp hC hcl hu hi h5
            go_wp2
            exact ⟨rfl, γ, HF.out, rfl, fun _ _ _ h => h⟩
          · have h5 := hC.five (p := 22) (by simp [hu]) (by decide)
            have HF := Lib.hid (hC.post h5 (i := 23) (by decide) (Below.refl _ _))
            simp only [hp]
            clear hp hC hcl hu hi h5
            go_wp2
            exact ⟨rfl, γ, HF.out, rfl, fun _ _ _ h => h⟩
          · have h5 := hC.five (p := 23) (by simp [hu]) (by decide)
            have HF := Lib.hid (hC.post h5 (i := 24) (by decide) (Below.refl _ _))
            simp only [hp]
            clear hp hC hcl hu hi h5
            go_wp2
            exact ⟨rfl, γ, HF.out, rfl, fun _ _ _ h => h⟩
          · have h5 := hC.five (p := 24) (by simp [hu]) (by decide)
            have HF := Lib.hid (hC.post h5 (i := 25) (by decide) (Below.refl _ _))
            simp only [hp]
            clear hp hC hcl hu hi h5
            go_wp2
            exact ⟨rfl, γ, HF.out, rfl, fun _ _ _ h => h⟩
          · have h5 := hC.five (p := 24) (by simp [hu]) (by decide)
            obtain ⟨kk, hkk, hs⟩ := hC.2 h5
            have hx := qpackets_any hs.2.2.2.2.1
            unfold GotP at hx
            have HX := Lib.hid hx
            have HF := Lib.hid (fun w' hb => hC.post (w' := w') h5 (i := 26) (by decide) hb)
            simp only [hp]
            clear hp hC hcl hu hi h5 hs hx
            go_wp2_with fail
            (with_reducible refine HX.out.mono ?_); rintro e w' ⟨A9, c9, rfl, hr, hb⟩
            have HB := Lib.hid hb
            have HR := Lib.hid (show SlV γ (.slice A9 γ.L.length c9) w' from ⟨A9, c9, rfl, (SrAt.own csP_len hr rfl).wider (Nat.zero_le _) (Nat.le_refl _)⟩)
            clear hb hr
            go_wp2
            exact ⟨rfl, γ, HF.out _ HB.out, HR.out, fun jj u _ h => ScV.keep _ _ HB.out jj u h⟩
          · have h5 := hC.five (p := 24) (by simp [hu]) (by decide)
            have HF := Lib.hid (hC.post h5 (i := 27) (by decide) (Below.refl _ _))
            simp only [hp]
            clear hp hC hcl hu hi h5
            go_wp2
            exact ⟨rfl, γ, HF.out, rfl, fun _ _ _ h => h⟩
          · have h5 := hC.five (p := 27) (by simp [hu]) (by decide)
            have HF := Lib.hid (hC.post h5 (i := 28) (by decide) (Below.refl _ _))
            simp only [hp]
            clear hp hC hcl hu hi h5
            go_wp2
            exact ⟨rfl, γ, HF.out, rfl, fun _ _ _ h => h⟩
          · have h5 := hC.five (p := 28) (by simp [hu]) (by decide)
            have HF := Lib.hid (hC.post h5 (i := 29) (by decide) (Below.refl _ _))
            simp only [hp]
            clear hp hC hcl hu hi h5
            go_wp2
            exact ⟨rfl, γ, HF.out, rfl, fun _ _ _ h => h⟩
          · have h5 := hC.five (p := 29) (by simp [hu]) (by decide)
            obtain ⟨kk, hkk, hs⟩ := hC.2 h5
            obtain ⟨A9, c9, e9, ha9, hR9, _⟩ := hs.ref
            have HF := Lib.hid (hC.post h5 (i := 30) (by decide) (Below.refl _ _))
            have HA := Lib.hid ha9
            simp only [hp]
            clear hp hC hcl hu hi h5 hs ha9
            go_wp2
            exact ⟨rfl, γ, HF.out, ⟨A9, c9, rfl, HA.out⟩, fun _ _ _ h => h⟩
          · have h5 := hC.five (p := 26) (by simp [hu]) (by decide)
            obtain ⟨kk, hkk, hs⟩ := hC.2 h5
            have hfew := hs.okP.few
            have hp1 : SlV γ (vals 26) wx := by simp [hp]
            have hp2 : SlV γ (vals 30) wx := by simp [hp]
            obtain ⟨A8, c8, e8, ha8⟩ := hp1
            obtain ⟨A9, c9, e9, ha9⟩ := hp2
            have hx := equalPk_any A8 A9 c8 c9 γ.L _ _ _ _ wx (by omega) ha8 ha9
            unfold Calm at hx
            have HX := Lib.hid hx
            have HF := Lib.hid (fun w' hb => hC.post (w' := w') h5 (i := 31) (by decide) hb)
            simp only [hp, e8, e9]
            clear hp hC hcl hu hi h5 hs hx ha8 ha9 e8 e9 hfew
            go_wp2_with fail
            (with_reducible refine HX.out.mono ?_); rintro e w' ⟨rfl, hb⟩
            have HB := Lib.hid hb
            clear hb
            go_wp2
            exact ⟨rfl, γ, HF.out _ HB.out, rfl, fun jj u _ h => ScV.keep _ _ HB.out jj u h⟩
          · have h5 := hC.five (p := 31) (by simp [hu]) (by decide)
            have HF := Lib.hid (hC.post h5 (i := 32) (by decide) (Below.refl _ _))
            simp only [hp]
            clear hp hC hcl hu hi h5
            go_wp2
            exact ⟨rfl, γ, HF.out, rfl, fun _ _ _ h => h⟩
          · have h5 := hC.five (p := 32) (by simp [hu]) (by decide)
            have HF := Lib.hid (hC.post h5 (i := 33) (by decide) (Below.refl _ _))
            simp only [hp]
            clear hp hC hcl hu hi h5
            go_wp2
            exact ⟨rfl, γ, HF.out, rfl, fun _ _ _ h => h⟩
        · intro γ wz2 vals L hC hall hV
          have e33 := hV 33 (by simp)
          simp only [ScV] at e33
          obtain ⟨kk, hkk, hs⟩ := hC.2 (hall 5 (by simp))
          have HS2 := Lib.hid hs
          simp only [fillA, if_true, Act.put]
          simp
          simp only [e33]
          clear e33 hV hC hs hall HC0
          go_wp2
          go_roundw
          case rel => exact ⟨j + 1, kk, γ, by omega, by go_num, by omega, HS2⟩
          case measure => simp [intOf]; omega
      · obtain rfl : j = 30 := by omega
        have HN := Lib.hid (fun W => qnewE_any x y W)
        have HM := Lib.hid (fun W => rqnewE_any x y W)
        have HW := Lib.hid (fun w => awake11_any w)
        unfold NewAny at HN HM
        unfold Calm at HW
        obtain ⟨z, hz⟩ : ∃ z, qnE x y = z := ⟨_, rfl⟩
        rw [hz] at HN HM
        have hzz : (z == z) = true := by simp
        clear hz
        go_wp2_with fail
        (with_reducible refine (HN.out _).mono ?_); rintro e w4 ⟨p4, rfl, hb4⟩
        have H4 := Lib.hid (HS.out.below hb4)
        clear HS hb4
        go_wp2_with fail
        (with_reducible refine (HM.out _).mono ?_); rintro e w5 ⟨p5, rfl, hb5⟩
        have H5 := Lib.hid (H4.out.below hb5)
        have HX := Lib.hid (H5.out.callP (fun hS => qsetCaps_any hS x y))
        clear H4 hb5
        go_wp2_with fail
        (with_reducible refine HX.out.mono ?_); rintro e w6 ⟨rfl, h6, _⟩
        have HX := Lib.hid (h6.callR (fun S hS => rqsetCaps_any hS x y))
        obtain ⟨z2, hz2⟩ : ∃ z, qcE q x y = z := ⟨_, rfl⟩
        rw [hz2] at HX
        rw [hz2]
        have hzz2 : (z2 == z2) = true := by simp
        clear h6 hz2 H5
        go_wp2_with fail
        (with_reducible refine HX.out.mono ?_); rintro e w7 ⟨rfl, h7, _⟩
        have HB := Lib.hid h7.bel
        clear h7 HX
        go_wp2_with fail
        (with_reducible refine (HW.out _).mono ?_); rintro e w8 ⟨rfl, hb8⟩
        have HF := Lib.hid (HB.out.trans (hb8.mono HB.out.size))
        clear hb8
        go_wp2
        go_ret
        exact ⟨rfl, HF.out⟩
end Go.Proofs.Ytijdfkdfojiffaa

