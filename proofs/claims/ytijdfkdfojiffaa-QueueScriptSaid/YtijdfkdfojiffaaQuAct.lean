/-
  Layer 11: one call on the program's queue and the reference's (act).
-/
import Derived.Test.YtijdfkdfojiffaaQuScr
namespace Go.Proofs.Ytijdfkdfojiffaa
open Go.ChangeShapes Go.WideShapes Go.ChangeAt Go.RowKit
set_option linter.unusedVariables false

structure Qq where
  p : Qu
  r : Qu
def ActAns (B : Nat) (a : Option Addr) (len cap k : Nat) (w0 : World) (C : Nat) (b : Qb) (D R : Nat) (e : Ending) (w' : World) : Prop :=
  e = .returned (.bool true) ∧ ∃ k' q', k' ≤ k + 60 ∧ SQ B a len cap k' w0 C b D R q' q' w'
/-- The region of the two pushes: which of them have been made. -/
def PpC (B : Nat) (a : Option Addr) (len cap k : Nat) (w0 : World) (C : Nat) (b : Qb) (D R PB : Nat) (q : Qu) (p : Pk) (γ : Qq) (L : Nat → Bool) (w : World) : Prop :=
  SQ B a len cap k w0 C b D R γ.p γ.r w ∧ (L 11 = false → Whole w PB 40 (csP p).toArray) ∧ (∀ k, qfoot b k → k < PB) ∧ PB < w.heap.size ∧ γ.p = (if L 8 then puT q p else q) ∧ γ.r = (if L 11 then puT q p else q)
def PpV (H R : Nat) (p0 p1 p2 p3 p4 : Int) (g : Bool) (x : Int) (γ : Qq) (i : Nat) (v : Value) (_ : World) : Prop :=
  match i with
  | 0 => v = .agg #[.int .i64 p0, .int .i64 p1, .int .i64 p2, .int .i64 p3, .int .i64 p4]
  | 1 => v = .bool g
  | 2 => v = .agg #[.int .i64 p0, .int .i64 p1, .int .i64 p2, .int .i64 p3, .int .i64 p4]
  | 3 => v = .bool g
  | 4 => v = .bool true
  | 5 => v = .bool true
  | 6 => v = .pointer (some ⟨H, 0, none⟩)
  | 7 => v = .agg #[.int .i64 p0, .int .i64 p1, .int .i64 p2, .int .i64 p3, .int .i64 p4]
  | 8 => v = .int .i64 x
  | 9 => v = .pointer (some ⟨R, 0, none⟩)
  | 10 => v = .agg #[.int .i64 p0, .int .i64 p1, .int .i64 p2, .int .i64 p3, .int .i64 p4]
  | 11 => v = .int .i64 x
  | 12 => v = .bool true
  | 13 => v = .bool true
  | 14 => v = .bool true
  | _ => True
section
variable {B : Nat} {a : Option Addr} {len cap k C D R PB : Nat} {w0 w w' : World} {b : Qb} {q : Qu} {p : Pk} {γ : Qq} {L : Nat → Bool}
theorem PpC.step (h : PpC B a len cap k w0 C b D R PB q p γ L w) (hb : Below w.heap.size w w') {i : Nat} (h8 : 8 ≠ i) (h11 : 11 ≠ i) : PpC B a len cap k w0 C b D R PB q p γ (setL L i) w' := by
  obtain ⟨h1, h2, h3, h4, h5, h6⟩ := h
  exact ⟨h1.below hb, by rw [setL_ne h11]; exact fun e => (h2 e).later hb, h3, Nat.lt_of_lt_of_le h4 hb.size, by rw [setL_ne h8]; exact h5, by rw [setL_ne h11]; exact h6⟩
theorem PpC.refl (h : PpC B a len cap k w0 C b D R PB q p γ L w) {i : Nat} (h8 : 8 ≠ i) (h11 : 11 ≠ i) : PpC B a len cap k w0 C b D R PB q p γ (setL L i) w := h.step (Below.refl _ _) h8 h11
theorem PpC.op8 (h : PpC B a len cap k w0 C b D R PB q p γ L w) (hL : L 8 = false) : γ.p = q ∧ Calls Try.prog 23 #[.pointer (some ⟨b.H, 0, none⟩), aggP p] w fun e w' => e = .returned (.int .i64 (puE q p)) ∧ PpC B a len cap k w0 C b D R PB q p ⟨puT q p, γ.r⟩ (setL L 8) w' := by
  obtain ⟨h1, h2, h3, h4, h5, h6⟩ := h
  rw [hL] at h5
  have e1 : γ.p = q := h5
  refine ⟨e1, (h1.callP (fun hS => qpush_any hS p)).mono ?_⟩
  rintro e w' ⟨k1, k2, k3⟩
  rw [e1] at k1 k2
  exact ⟨k1, k2, by rw [setL_ne (by decide)]; exact fun e => k3.whole (h2 e) (fun hf => by have := h3 _ hf; omega), h3, Nat.lt_of_lt_of_le h4 k3.size, by rw [setL_at]; rfl, by rw [setL_ne (by decide)]; exact h6⟩
theorem PpC.op11 (h : PpC B a len cap k w0 C b D R PB q p γ L w) (hL : L 11 = false) : Calls Try.prog 29 #[.pointer (some ⟨R, 0, none⟩), aggP p] w fun e w' => e = .returned (.int .i64 (puE q p)) ∧ PpC B a len cap k w0 C b D R PB q p ⟨γ.p, puT q p⟩ (setL L 11) w' := by
  obtain ⟨h1, h2, h3, h4, h5, h6⟩ := h
  rw [hL] at h6
  have e1 : γ.r = q := h6
  refine (h1.callR (fun S hS => rqpush_any hS p)).mono ?_
  rintro e w' ⟨k1, k2, S, k3, k4⟩
  rw [e1] at k1 k2
  exact ⟨k1, k2, (fun e => by rw [setL_at] at e; cases e), h3, Nat.lt_of_lt_of_le h4 k4.size, by rw [setL_ne (by decide)]; exact h5, by rw [setL_at]; rfl⟩
end
/-- A call of the reference's beside a block just made. -/
theorem SQ.boxR {B : Nat} {a : Option Addr} {len cap k C D R : Nat} {w0 w : World} {b : Qb} {q r r' : Qu} {x : Value} {f : FuncId} {args : Array Value} {t : TypeId} {cs : Array Value} (h : SQ B a len cap k w0 C b D R q r w)
    (hc : ∀ S, RQO D R S r (w.alloc (.cells cs t)) → Calls Try.prog f args (w.alloc (.cells cs t)) (RQAns D R S r' x (w.alloc (.cells cs t)))) : Calls Try.prog f args (w.alloc (.cells cs t)) fun e w' => e = .returned x ∧ SQ B a len cap k w0 C b D R q r' w' ∧ Whole w' w.heap.size t cs := by
  have hb := (Below.refl w.heap.size w).alloc (Nat.le_refl _) (.cells cs t)
  obtain ⟨h0, h1, h2, h3, h4, S, h5⟩ := h
  refine (hc S (h5.below hb)).mono ?_
  rintro e w' ⟨e1, S', k1, k2, k3⟩
  have h4' := h4.below hb
  exact ⟨e1, ⟨h0, h1, h2, (h3.below hb).trod (S := S) (fun i hi => by have := h5.2.2 i hi; omega) k2, h4'.chg k2 (fun i i1 i2 => by have := h5.2.2 i i2; have := h2 i i1; omega), S', k1⟩, k2.whole (Whole.fresh w t cs) (fun e => by have := (h5.2.2 _ e).2; omega)⟩
/-- Two drawn numbers, with SQ. -/
def TqC (B : Nat) (a : Option Addr) (len cap K : Nat) (w0 : World) (C : Nat) (b : Qb) (D R : Nat) (q r : Qu) (fu : Nat) (w : World) : Prop := ∃ k, k + fu ≤ K ∧ SQ B a len cap k w0 C b D R q r w
def TqV (B : Nat) (i : Nat) (v : Value) (w : World) : Prop :=
  match i with
  | 0 => v = .pointer (some ⟨B, 0, none⟩)
  | 1 => InV 0 66 v
  | 2 => RwV B 0 262145 4 v w
  | 3 => v = .pointer (some ⟨B, 0, none⟩)
  | 4 => InV 0 3 v
  | 5 => PtV B 0 262145 v w
  | 6 => InV 0 262145 v
  | 7 => InV 0 66 v
  | 8 => InV 0 262145 v
  | _ => True
theorem TqV.keep {B : Nat} (i : Nat) (v : Value) (w w' : World) (h : DrR B w w') (hv : TqV B i v w) : TqV B i v w' := by
  unfold TqV at *
  split at hv <;> first | exact hv | exact h.row hv | exact h.ptr hv | trivial
section
variable {B : Nat} {a : Option Addr} {len cap k K C D R fu : Nat} {w0 w w' : World} {b : Qb} {q r : Qu}
theorem TqC.step (h : TqC B a len cap K w0 C b D R q r (fu + 1) w) : TqC B a len cap K w0 C b D R q r fu w := by
  obtain ⟨k, hk, h1⟩ := h; exact ⟨k, by omega, h1⟩
theorem TqC.below (h : TqC B a len cap K w0 C b D R q r (fu + 1) w) (hb : Below w.heap.size w w') : TqC B a len cap K w0 C b D R q r fu w' := by
  obtain ⟨k, hk, h1⟩ := h; exact ⟨k, by omega, h1.below hb⟩
end
set_option maxRecDepth 100000 in
set_option maxHeartbeats 8000000 in
theorem act_any {B : Nat} {a : Option Addr} {len cap k C D R : Nat} {w0 w : World} {b : Qb} {q : Qu} (h : SQ B a len cap k w0 C b D R q q w) (hk : k ≤ 10000000) (id : Int) :
    Calls Try.prog 11 #[.pointer (some ⟨B, 0, none⟩), .pointer (some ⟨b.H, 0, none⟩), .pointer (some ⟨R, 0, none⟩), .int .i64 id] w (ActAns B a len cap k w0 C b D R) := by
  have HX := Lib.hid (h.next (n := 9) (by omega) (by omega) (by omega))
  clear h
  unfold ActAns
  go_enter Try.func11, Try.ntmps11
  go_wp2_with fail
  (with_reducible refine HX.out.mono ?_)
  rintro e w1 ⟨t, t0, t1, rfl, h1, _⟩
  have H1 := Lib.hid h1
  clear HX h1
  rcases (by omega : (t = 0 ∨ t = 1 ∨ t = 2 ∨ t = 3) ∨ t = 4 ∨ t = 5 ∨ t = 6 ∨ t = 7 ∨ t = 8) with ht | rfl | rfl | rfl | rfl | rfl
  · have HX := Lib.hid (H1.out.some_ id (by omega))
    clear H1
    rcases ht with rfl | rfl | rfl | rfl
    all_goals
      go_wp2_with fail
      (with_reducible refine HX.out.mono ?_)
      rintro e w2 ⟨p, rfl, k2, hk2, h2⟩
      have hv1 := fun w => qvalid_any p w
      have hv2 := fun w => rvalid_any p w
      obtain ⟨g, hgq⟩ : ∃ g, pkOk p = g := ⟨_, rfl⟩
      obtain ⟨x, hxq⟩ : ∃ x, puE q p = x := ⟨_, rfl⟩
      rw [hgq] at hv1 hv2
      obtain ⟨p0, p1, p2, p3, p4⟩ := p
      unfold aggP at hv1 hv2 ⊢
      simp only at hv1 hv2 ⊢
      have HVa := Lib.hid hv1
      have HVb := Lib.hid hv2
      have HXQ := Lib.hid hxq
      have HC0 := Lib.hid (show PpC B a len cap k2 w0 C b D R w2.heap.size q ⟨p0, p1, p2, p3, p4⟩ ⟨q, q⟩ (fun _ => false) (w2.alloc (.cells #[.int .i64 p0, .int .i64 p1, .int .i64 p2, .int .i64 p3, .int .i64 p4] 40)).drew from ⟨h2.below ((Below.refl _ _).alloc (Nat.le_refl _) _).drew, (fun _ => Whole.fresh w2 _ _), (fun j hj => by have := (h2.2.2.2.2.1.lt j hj).2; omega), by simp [World.drew], rfl, rfl⟩)
      clear hv1 hv2 hgq h2 HX hxq
      go_wp2_with fail
      refine wp_region_looseG 137 (by kernel_rfl) (by kernel_rfl) (PpC B a len cap k2 w0 C b D R w2.heap.size q ⟨p0, p1, p2, p3, p4⟩) (PpV b.H R p0 p1 p2 p3 p4 g x) ⟨q, q⟩ rfl HC0.out ?_ ?_
      · simp only [OblAllG]
        refine ⟨?_, ?_, ?_, ?_, ?_, ?_, ?_, ?_, ?_, ?_, ?_, ?_, ?_, ?_, ?_, trivial⟩
        all_goals
          intro γ L wx vals hi hu hcl hC hp
          simp [predL, predE, Region.binds, UpL] at hu
          simp [ClosedL, UpL, predL, predE, Region.binds] at hcl
          simp [predL, predE, Region.binds, PreV, PpV] at hp
          simp only [fillA, if_true, Act.put]
          simp
          have HCx := Lib.hid hC
        · have hpb := hC.2.1 (by clear hC hp HCx; cases h : L 11 with | false => rfl | true => exfalso; grind)
          have y0 := hpb.read 0
          have y1 := hpb.read 1
          have y2 := hpb.read 2
          have y3 := hpb.read 3
          have y4 := hpb.read 4
          simp [csP] at y0 y1 y2 y3 y4
          clear hp hpb hC hcl hu hi
          go_wp2
          exact ⟨rfl, γ, HCx.out.refl (by decide) (by decide), rfl, fun _ _ _ h => h⟩
        · simp only [hp]
          clear hp hC hcl hu hi
          go_wp2_with fail
          (with_reducible refine (HVa.out _).mono ?_); rintro e w' ⟨rfl, hb⟩
          have HF := Lib.hid (HCx.out.step hb (i := 1) (by decide) (by decide))
          clear hb
          go_wp2
          exact ⟨rfl, γ, HF.out, rfl, fun _ _ _ h => h⟩
        · have hpb := hC.2.1 (by clear hC hp HCx; cases h : L 11 with | false => rfl | true => exfalso; grind)
          have y0 := hpb.read 0
          have y1 := hpb.read 1
          have y2 := hpb.read 2
          have y3 := hpb.read 3
          have y4 := hpb.read 4
          simp [csP] at y0 y1 y2 y3 y4
          clear hp hpb hC hcl hu hi
          go_wp2
          exact ⟨rfl, γ, HCx.out.refl (by decide) (by decide), rfl, fun _ _ _ h => h⟩
        · simp only [hp]
          clear hp hC hcl hu hi
          go_wp2_with fail
          (with_reducible refine (HVb.out _).mono ?_); rintro e w' ⟨rfl, hb⟩
          have HF := Lib.hid (HCx.out.step hb (i := 3) (by decide) (by decide))
          clear hb
          go_wp2
          exact ⟨rfl, γ, HF.out, rfl, fun _ _ _ h => h⟩
        · have hgg : (g == g) = true := by simp
          simp only [hp]
          clear hp hC hcl hu hi
          go_wp2
          exact ⟨rfl, γ, HCx.out.refl (by decide) (by decide), rfl, fun _ _ _ h => h⟩
        · simp only [hp]
          clear hp hC hcl hu hi
          go_wp2
          exact ⟨rfl, γ, HCx.out.refl (by decide) (by decide), rfl, fun _ _ _ h => h⟩
        · simp only [hp]
          clear hp hC hcl hu hi
          go_wp2
          exact ⟨rfl, γ, HCx.out.refl (by decide) (by decide), rfl, fun _ _ _ h => h⟩
        · have hpb := hC.2.1 (by clear hC hp HCx; cases h : L 11 with | false => rfl | true => exfalso; grind)
          have y0 := hpb.read 0
          have y1 := hpb.read 1
          have y2 := hpb.read 2
          have y3 := hpb.read 3
          have y4 := hpb.read 4
          simp [csP] at y0 y1 y2 y3 y4
          simp only [hp]
          clear hp hpb hC hcl hu hi
          go_wp2
          exact ⟨rfl, γ, HCx.out.refl (by decide) (by decide), rfl, fun _ _ _ h => h⟩
        · have hx := (hC.op8 hi).2
          rw [HXQ.out] at hx
          have HX := Lib.hid (show Calls Try.prog 23 #[.pointer (some ⟨b.H, 0, none⟩), .agg #[.int .i64 p0, .int .i64 p1, .int .i64 p2, .int .i64 p3, .int .i64 p4]] _ _ from hx)
          simp only [hp]
          clear hp hC hcl hu hi hx
          go_wp2_with fail
          (with_reducible refine HX.out.mono ?_); rintro e w' ⟨rfl, hq⟩
          have HQ := Lib.hid hq
          clear hq
          go_wp2
          exact ⟨rfl, _, HQ.out, rfl, fun _ _ _ h => h⟩
        · simp only [hp]
          clear hp hC hcl hu hi
          go_wp2
          exact ⟨rfl, γ, HCx.out.refl (by decide) (by decide), rfl, fun _ _ _ h => h⟩
        · have hpb := hC.2.1 (by clear hC hp HCx; cases h : L 11 with | false => rfl | true => exfalso; grind)
          have y0 := hpb.read 0
          have y1 := hpb.read 1
          have y2 := hpb.read 2
          have y3 := hpb.read 3
          have y4 := hpb.read 4
          simp [csP] at y0 y1 y2 y3 y4
          simp only [hp]
          clear hp hpb hC hcl hu hi
          go_wp2
          exact ⟨rfl, γ, HCx.out.refl (by decide) (by decide), rfl, fun _ _ _ h => h⟩
        · have hx := hC.op11 hi
          rw [HXQ.out] at hx
          have HX := Lib.hid (show Calls Try.prog 29 #[.pointer (some ⟨R, 0, none⟩), .agg #[.int .i64 p0, .int .i64 p1, .int .i64 p2, .int .i64 p3, .int .i64 p4]] _ _ from hx)
          simp only [hp]
          clear hp hC hcl hu hi hx
          go_wp2_with fail
          (with_reducible refine HX.out.mono ?_); rintro e w' ⟨rfl, hq⟩
          have HQ := Lib.hid hq
          clear hq
          go_wp2
          exact ⟨rfl, _, HQ.out, rfl, fun _ _ _ h => h⟩
        · have hxx : (x == x) = true := by simp
          simp only [hp]
          clear hp hC hcl hu hi
          go_wp2
          exact ⟨rfl, γ, HCx.out.refl (by decide) (by decide), rfl, fun _ _ _ h => h⟩
        · simp only [hp]
          clear hp hC hcl hu hi
          go_wp2
          exact ⟨rfl, γ, HCx.out.refl (by decide) (by decide), rfl, fun _ _ _ h => h⟩
        · simp only [hp]
          clear hp hC hcl hu hi
          go_wp2
          exact ⟨rfl, γ, HCx.out.refl (by decide) (by decide), rfl, fun _ _ _ h => h⟩
      · intro γ wz vals L hC hall hV
        have e14 := hV 14 (by simp)
        simp only [PpV] at e14
        simp only [fillA, if_true, Act.put]
        simp
        simp only [e14]
        obtain ⟨h7, _, _, _, h8, h9⟩ := hC
        rw [hall 8 (by simp)] at h8
        rw [hall 11 (by simp)] at h9
        simp only [if_true] at h8 h9
        rw [h8, h9] at h7
        have H7 := Lib.hid h7
        clear e14 hV h7 h8 h9 hall HC0
        go_wp2
        go_ret
        exact ⟨rfl, k2, _, by omega, H7.out⟩
  · have HX := Lib.hid (H1.out.next (n := 12) (by omega) (by omega) (by omega))
    clear H1
    go_wp2_with fail
    (with_reducible refine HX.out.mono ?_)
    rintro e w2 ⟨s, s0, s1, rfl, h2, _⟩
    have HX := Lib.hid (h2.gotP (fun hS => qexpire_any hS s))
    have hfew : (exL q s).length ≤ 64 := Nat.le_trans (flt_len _ _) h2.okP.few
    clear h2
    go_wp2_with fail
    (with_reducible refine HX.out.mono ?_)
    rintro e w3 ⟨A3, c3, rfl, h3⟩
    have HX := Lib.hid (h3.gotR (fun S hS => rqexpire_any hS s))
    clear h3
    go_wp2_with fail
    (with_reducible refine HX.out.mono ?_)
    rintro e w4 ⟨A4, c4, rfl, h4, ha3, ha4⟩
    have he := equalPk_any A3 A4 c3 c4 (exL q s) _ _ _ _ w4 (by omega) ha3 ha4
    unfold Calm at he
    have HE := Lib.hid he
    have H4 := Lib.hid h4
    clear h4 ha3 ha4 he HX
    go_wp2_with fail
    (with_reducible refine HE.out.mono ?_); rintro e w5 ⟨rfl, hb5⟩
    have H5 := Lib.hid (H4.out.below hb5)
    clear hb5
    go_wp2
    go_ret
    exact ⟨rfl, _, _, by omega, H5.out⟩
  · have HC0 := Lib.hid (show TqC B a len cap (k + 1 + 9) w0 C b D R q q 9 w1.drew from ⟨k + 1, by omega, H1.out.below (Below.refl _ _).drew⟩)
    clear H1
    go_wp2_with fail
    refine wp_region_loose 137 (by kernel_rfl) (by kernel_rfl) (TqC B a len cap (k + 1 + 9) w0 C b D R q q) (DrR B) (TqV B) rfl (fun i v w w' h hv => TqV.keep i v w w' h hv) HC0.out ?_ ?_
    · simp only [OblAll]
      refine ⟨?_, ?_, ?_, ?_, ?_, ?_, ?_, ?_, ?_, trivial⟩
      all_goals
        intro fu wx vals hC hp
        simp [predL, predE, Region.binds, PreV, TqV] at hp
        simp only [fillA, if_true, Act.put]
        simp
        have HCx := Lib.hid hC
      · clear hp
        go_wp2
        exact ⟨rfl, HCx.out.step, DrR.refl _ _, rfl⟩
      · simp only [hp]
        clear hp
        obtain ⟨kk, hkk, hg'⟩ := hC
        have HX := Lib.hid (hg'.next (n := 67) (by omega) (by omega) (by omega))
        clear hg'
        go_wp2_with fail
        (with_reducible refine HX.out.mono ?_)
        rintro e w' ⟨r, r0, r1, rfl, hs, ho⟩
        have HF := Lib.hid (And.intro (show TqC B a len cap (k + 1 + 9) w0 C b D R q q fu w' from ⟨kk + 1, by omega, hs⟩) (DrR.only ho))
        clear hs ho
        go_wp2
        exact ⟨rfl, HF.out.1, HF.out.2, r, ⟨r0, by omega⟩, rfl⟩
      · have hB := (hC.choose_spec.2).gen.lt
        clear hp
        go_wp2
        exact ⟨rfl, HCx.out.below ((Below.refl _ _).alloc (Nat.le_refl _) _), DrR.below ((Below.refl _ _).alloc (Nat.le_refl _) _), RwV.new hB (L := [0, 60, 262144, 262145]) rfl (by decide) rfl _⟩
      · clear hp
        go_wp2
        exact ⟨rfl, HCx.out.step, DrR.refl _ _, rfl⟩
      · simp only [hp]
        clear hp
        obtain ⟨kk, hkk, hg'⟩ := hC
        have HX := Lib.hid (hg'.next (n := 4) (by omega) (by omega) (by omega))
        clear hg'
        go_wp2_with fail
        (with_reducible refine HX.out.mono ?_)
        rintro e w' ⟨r, r0, r1, rfl, hs, ho⟩
        have HF := Lib.hid (And.intro (show TqC B a len cap (k + 1 + 9) w0 C b D R q q fu w' from ⟨kk + 1, by omega, hs⟩) (DrR.only ho))
        clear hs ho
        go_wp2
        exact ⟨rfl, HF.out.1, HF.out.2, r, ⟨r0, by omega⟩, rfl⟩
      · obtain ⟨hrow, r, hr, e3⟩ := hp
        obtain ⟨n, rfl⟩ := Int.eq_ofNat_of_zero_le hr.1
        have hn' : n ≤ 3 := by omega
        obtain ⟨g, g1, g2, e1, hpt⟩ := hrow.at_ (i := n) (by omega)
        have HX := Lib.hid hpt
        simp only [e1, e3]
        clear e1 e3 hC hrow hpt hr
        go_wp2
        exact ⟨rfl, HCx.out.step, DrR.refl _ _, HX.out⟩
      · obtain ⟨g, o, g1, g2, e1, z, hz, hc⟩ := hp
        have HX := Lib.hid hz
        simp only [e1]
        clear e1 hC hz
        go_wp2
        exact ⟨rfl, HCx.out.step, DrR.refl _ _, z, HX.out, rfl⟩
      · obtain ⟨z, hz, e1⟩ := hp.1
        have HX := Lib.hid hz
        simp only [e1]
        clear e1 hC hz
        go_wp2
        exact ⟨rfl, HCx.out.step, DrR.refl _ _, z, HX.out, rfl⟩
      · obtain ⟨z, hz, e1⟩ := hp.1
        have HX := Lib.hid hz
        simp only [e1]
        clear e1 hC hz
        go_wp2
        exact ⟨rfl, HCx.out.step, DrR.refl _ _, z, HX.out, rfl⟩
    · intro wz vals hC hV
      have e7 := hV 7 (by simp)
      have e8 := hV 8 (by simp)
      simp only [TqV] at e7 e8
      obtain ⟨n1, _, e7⟩ := e7
      obtain ⟨n2, _, e8⟩ := e8
      obtain ⟨k3, hk3, h3⟩ := hC
      simp only [fillA, if_true, Act.put]
      simp
      simp only [e7, e8]
      have HX := Lib.hid (h3.callP (fun hS => qsetCaps_any hS n1 n2))
      clear e7 e8 hV h3 HC0
      go_wp2_with fail
      (with_reducible refine HX.out.mono ?_)
      rintro e w4 ⟨rfl, h4, _⟩
      have HX := Lib.hid (h4.callR (fun S hS => rqsetCaps_any hS n1 n2))
      generalize qcE q n1 n2 = x at *
      clear h4
      go_wp2_with fail
      (with_reducible refine HX.out.mono ?_)
      rintro e w5 ⟨rfl, h5, _⟩
      have H5 := Lib.hid h5
      have hxx : (x == x) = true := by simp
      clear h5 HX
      go_wp2
      go_ret
      exact ⟨rfl, _, _, by omega, H5.out⟩
  · cases hL : q.L with
    | nil =>
      have HX := Lib.hid (H1.out.ask (fun hS => qhead_no hS hL))
      clear H1
      go_wp2_with fail
      (with_reducible refine HX.out.mono ?_)
      rintro e w2 ⟨rfl, h2, _⟩
      unfold aggP pk0
      simp only
      have h3 := h2.below ((Below.refl _ _).alloc (Nat.le_refl _) (.cells #[.int .i64 0, .int .i64 0, .int .i64 0, .int .i64 0, .int .i64 0] 40))
      obtain ⟨A, c, c2, _, hR, _⟩ := h3.ref
      rw [hL] at c2
      have c2' : (w2.alloc (.cells #[.int .i64 0, .int .i64 0, .int .i64 0, .int .i64 0, .int .i64 0] 40)).cell? ⟨R, 2, none⟩ = some (.slice A 0 c) := c2
      have HF := Lib.hid (fun n => h3.below (Below_drewN (Below.refl _ _) n))
      have d0 : decide ((0 : Nat) < 0) = false := by decide
      have d1 : decide ((0 : Int) < 0) = false := by decide
      clear h2 h3 c2 hL HX
      go_wp2_with fail
      go_quiet (fail)
      go_wp2
      go_ret
      exact ⟨rfl, _, _, by omega, HF.out _⟩
    | cons p T =>
      have HX := Lib.hid (H1.out.ask (fun hS => qhead_yes hS hL))
      clear H1
      go_wp2_with fail
      (with_reducible refine HX.out.mono ?_)
      rintro e w2 ⟨rfl, h2, _⟩
      obtain ⟨p0, p1, p2, p3, p4⟩ := p
      unfold aggP
      simp only
      have h3 := h2.below ((Below.refl _ _).alloc (Nat.le_refl _) (.cells #[.int .i64 p0, .int .i64 p1, .int .i64 p2, .int .i64 p3, .int .i64 p4] 40))
      have hfew := h3.okR.few
      obtain ⟨A, c, c2, ha, hR, _⟩ := h3.ref
      rw [hL] at c2 ha hfew
      obtain ⟨bb, off, rfl, _, _, e0, e1, e2, e3, e4⟩ := ha.pk (k := 0) (by simp)
      simp only [List.getElem_cons_zero, Nat.zero_mul, Nat.add_zero] at e0 e1 e2 e3 e4
      obtain ⟨n, hn⟩ : ∃ n, ((⟨p0, p1, p2, p3, p4⟩ : Pk) :: T).length = n := ⟨_, rfl⟩
      have hn0 : 0 < n := by rw [← hn]; simp
      rw [hn] at c2 hfew
      have HF := Lib.hid (fun n => h3.below (Below_drewN (Below.refl _ _) n))
      have d0 : decide ((0 : Nat) < n) = true := decide_eq_true hn0
      have d1 : decide ((0 : Int) < (n : Int)) = true := decide_eq_true (by omega)
      clear h2 h3 hL HX ha hn
      go_wp2_with fail
      go_quiet (fail)
      go_wp2
      go_ret
      exact ⟨rfl, _, _, by omega, HF.out _⟩
  · have HX := Lib.hid (H1.out.next (n := 4) (by omega) (by omega) (by omega))
    clear H1
    go_wp2_with fail
    (with_reducible refine HX.out.mono ?_)
    rintro e w2 ⟨s, s0, s1, rfl, h2, _⟩
    by_cases hs : s = 0
    · subst hs
      have HX := Lib.hid (h2.gotP (fun hS => qclear_any hS))
      have hfew := h2.okP.few
      clear h2
      go_wp2_with fail
      (with_reducible refine HX.out.mono ?_)
      rintro e w3 ⟨A3, c3, rfl, h3⟩
      have HX := Lib.hid (h3.gotR (fun S hS => rqclear_any hS))
      clear h3
      go_wp2_with fail
      (with_reducible refine HX.out.mono ?_)
      rintro e w4 ⟨A4, c4, rfl, h4, ha3, ha4⟩
      have he := equalPk_any A3 A4 c3 c4 q.L _ _ _ _ w4 (by omega) ha3 ha4
      unfold Calm at he
      have HE := Lib.hid he
      have H4 := Lib.hid h4
      clear h4 ha3 ha4 he HX
      go_wp2_with fail
      (with_reducible refine HE.out.mono ?_); rintro e w5 ⟨rfl, hb5⟩
      have H5 := Lib.hid (H4.out.below hb5)
      clear hb5
      go_wp2
      go_ret
      exact ⟨rfl, _, _, by omega, H5.out⟩
    · have H1 := Lib.hid h2
      clear h2 HX
      have HX := Lib.hid (H1.out.callP (fun hS => qpop_any hS))
      clear H1
      go_wp2_with fail
      (with_reducible refine HX.out.mono ?_)
      rintro e w3 ⟨rfl, h3, _⟩
      have hx := h3.boxR (cs := #[.int .i64 (qpV q).i, .int .i64 (qpV q).f, .int .i64 (qpV q).l, .int .i64 (qpV q).a, .int .i64 (qpV q).d]) (t := 40) (fun S hS => rqpop_any hS)
      generalize qpV q = pv at *
      generalize qpE q = pe at *
      obtain ⟨p0, p1, p2, p3, p4⟩ := pv
      unfold aggP at hx ⊢
      simp only at hx ⊢
      have HX := Lib.hid hx
      clear h3 hx
      go_wp2_with fail
      (with_reducible refine HX.out.mono ?_)
      rintro e w4 ⟨rfl, h4, hw4⟩
      have y0 := hw4.read 0
      have y1 := hw4.read 1
      have y2 := hw4.read 2
      have y3 := hw4.read 3
      have y4 := hw4.read 4
      simp at y0 y1 y2 y3 y4
      have H4 := Lib.hid (h4.below ((Below.refl _ _).alloc (Nat.le_refl _) (.cells #[.int .i64 p0, .int .i64 p1, .int .i64 p2, .int .i64 p3, .int .i64 p4] 40)))
      have hlt := hw4.size_lt
      have hpe : (pe == pe) = true := by simp
      clear h4 hw4 HX
      go_wp2
      go_ret
      exact ⟨rfl, _, _, by omega, H4.out⟩
  · have HX := Lib.hid (H1.out.callP (fun hS => qpop_any hS))
    clear H1
    go_wp2_with fail
    (with_reducible refine HX.out.mono ?_)
    rintro e w3 ⟨rfl, h3, _⟩
    have hx := h3.boxR (cs := #[.int .i64 (qpV q).i, .int .i64 (qpV q).f, .int .i64 (qpV q).l, .int .i64 (qpV q).a, .int .i64 (qpV q).d]) (t := 40) (fun S hS => rqpop_any hS)
    generalize qpV q = pv at *
    generalize qpE q = pe at *
    obtain ⟨p0, p1, p2, p3, p4⟩ := pv
    unfold aggP at hx ⊢
    simp only at hx ⊢
    have HX := Lib.hid hx
    clear h3 hx
    go_wp2_with fail
    (with_reducible refine HX.out.mono ?_)
    rintro e w4 ⟨rfl, h4, hw4⟩
    have y0 := hw4.read 0
    have y1 := hw4.read 1
    have y2 := hw4.read 2
    have y3 := hw4.read 3
    have y4 := hw4.read 4
    simp at y0 y1 y2 y3 y4
    have H4 := Lib.hid (h4.below ((Below.refl _ _).alloc (Nat.le_refl _) (.cells #[.int .i64 p0, .int .i64 p1, .int .i64 p2, .int .i64 p3, .int .i64 p4] 40)))
    have hlt := hw4.size_lt
    have hpe : (pe == pe) = true := by simp
    clear h4 hw4 HX
    go_wp2
    go_ret
    exact ⟨rfl, _, _, by omega, H4.out⟩
end Go.Proofs.Ytijdfkdfojiffaa

