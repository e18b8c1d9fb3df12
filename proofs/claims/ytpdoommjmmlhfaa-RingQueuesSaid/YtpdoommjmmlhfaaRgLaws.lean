/-
  Layer 5: one contract for each of the ring's calls; the ring beside choices; awake.
-/
import Derived.Test.YtpdoommjmmlhfaaRgOps2
import Derived.Test.YtpdoommjmmlhfaaRgNew
import Derived.Test.YtpdoommjmmlhfaaEqInt
namespace Go.Proofs.Ytpdoommjmmlhfaa
open Go.ChangeShapes Go.WideShapes Go.ChangeAt Go.RowKit
set_option linter.unusedVariables false

/-! ### What a call answers and leaves, as plain functions -/
def insE (c n : Nat) : Int := if n = c then 4 else 0
def insN (c n : Nat) : Nat := if n = c then n else n + 1
def insL (c n : Nat) (L : Nat → Int) (x : Int) (front : Bool) : Nat → Int := if n = c then L else if front = true then consN x L else upd L n x
def inR (n : Nat) (i : Int) : Bool := decide (0 ≤ i ∧ i < n)
def takN (n : Nat) (i : Int) : Nat := if inR n i = true then n - 1 else n
def takL (L : Nat → Int) (n : Nat) (i : Int) : Nat → Int := if inR n i = true then rmvN L i.toNat else L
def takV (L : Nat → Int) (n : Nat) (i : Int) : Int := if inR n i = true then L i.toNat else 0
def takE (n : Nat) (i r : Int) : Int := if inR n i = true then 0 else r
theorem inR_yes {n : Nat} {i : Int} (h0 : 0 ≤ i) (h1 : i < n) : inR n i = true := decide_eq_true ⟨h0, h1⟩
theorem inR_no {n : Nat} {i : Int} (h : i < 0 ∨ (n : Int) ≤ i) : inR n i = false := decide_eq_false (by omega)
theorem inR_iff {n : Nat} {i : Int} : inR n i = true ↔ 0 ≤ i ∧ i < n := by unfold inR; simp
section
variable {w : World} {C H g cap n : Nat} {L : Nat → Int}
theorem rgpush_any (h : RingO C H g cap n L w) (x : Int) :
    Calls Try.prog 17 #[.pointer (some ⟨H, 0, none⟩), .int .i64 x] w (RgAns C H g cap (insN cap n) (insL cap n L x false) (.int .i64 (insE cap n)) w) := by
  unfold insN insL insE
  by_cases e : n = cap
  · subst e; rw [if_pos rfl, if_pos rfl, if_pos rfl]; exact rgpush_full h x
  · rw [if_neg e, if_neg e, if_neg e]; exact rgpush_ok h (by have := h.size; omega) x
theorem rgfront_any (h : RingO C H g cap n L w) (x : Int) :
    Calls Try.prog 19 #[.pointer (some ⟨H, 0, none⟩), .int .i64 x] w (RgAns C H g cap (insN cap n) (insL cap n L x true) (.int .i64 (insE cap n)) w) := by
  unfold insN insL insE
  by_cases e : n = cap
  · subst e; rw [if_pos rfl, if_pos rfl, if_pos rfl]; exact rgfront_full h x
  · rw [if_neg e, if_neg e, if_neg e]; exact rgfront_ok h (by have := h.size; omega) x
theorem rgpop_any (h : RingO C H g cap n L w) :
    Calls Try.prog 18 #[.pointer (some ⟨H, 0, none⟩)] w (RgAns C H g cap (takN n 0) (takL L n 0) (.tuple #[.int .i64 (takV L n 0), .int .i64 (takE n 0 5)]) w) := by
  unfold takN takL takV takE
  rcases Nat.eq_zero_or_pos n with rfl | hn
  · have e : inR 0 0 = false := inR_no (.inr (Int.le_refl _))
    rw [e]; exact rgpop_none h
  · obtain ⟨n, rfl⟩ : ∃ m, n = m + 1 := ⟨n - 1, by omega⟩
    rw [inR_yes (Int.le_refl _) (by omega)]; exact rgpop_ok h
theorem rgback_any (h : RingO C H g cap n L w) :
    Calls Try.prog 21 #[.pointer (some ⟨H, 0, none⟩)] w (RgAns C H g cap (takN n ((n : Int) - 1)) (takL L n ((n : Int) - 1)) (.tuple #[.int .i64 (takV L n ((n : Int) - 1)), .int .i64 (takE n ((n : Int) - 1) 5)]) w) := by
  unfold takN takL takV takE
  rcases Nat.eq_zero_or_pos n with rfl | hn
  · have e : inR 0 (((0 : Nat) : Int) - 1) = false := inR_no (.inl (by decide))
    rw [e]; exact rgback_none h
  · obtain ⟨n, rfl⟩ : ∃ m, n = m + 1 := ⟨n - 1, by omega⟩
    rw [inR_yes (by omega) (by omega), show ((((n + 1 : Nat) : Int) - 1).toNat) = n by omega]
    refine (rgback_ok h).mono ?_
    rintro e w' ⟨rfl, h1, h2⟩
    exact ⟨rfl, h1.same (fun i hi => by show L i = rmvN L n i; unfold rmvN; rw [if_pos hi]), h2⟩
theorem rgrem_any (h : RingO C H g cap n L w) (i : Int) :
    Calls Try.prog 22 #[.pointer (some ⟨H, 0, none⟩), .int .i64 i] w (RgAns C H g cap (takN n i) (takL L n i) (.tuple #[.int .i64 (takV L n i), .int .i64 (takE n i 6)]) w) := by
  unfold takN takL takV takE
  by_cases hi : 0 ≤ i ∧ i < n
  · rw [inR_yes hi.1 hi.2]
    obtain ⟨n, rfl⟩ : ∃ m, n = m + 1 := ⟨n - 1, by omega⟩
    exact rgrem_ok h i i.toNat (by omega) (by omega)
  · rw [inR_no (by omega)]; exact rgrem_none h i (by omega)
theorem rgat_any (h : RingO C H g cap n L w) (i : Int) :
    Calls Try.prog 20 #[.pointer (some ⟨H, 0, none⟩), .int .i64 i] w fun e w' => e = .returned (.tuple #[.int .i64 (takV L n i), .bool (inR n i)]) ∧ ∃ q, w' = w.drewN q := by
  unfold takV
  obtain ⟨f, X, h, hX, _⟩ := h
  by_cases hi : 0 ≤ i ∧ i < n
  · rw [inR_yes hi.1 hi.2]
    have := rat_yes h i i.toNat _ (by omega) (by omega) rfl
    rw [hX _ (by omega)] at this; exact this
  · rw [inR_no (by omega)]
    exact (rat_no h i (by omega)).mono fun _ _ ⟨a, b⟩ => ⟨a, 0, b.symm⟩
end
theorem Cells.chg {w w' : World} {L B m : Nat} {A : Option Addr} {f : Nat → Value} {S : Nat → Prop} (h : Cells w L B A m f) (hk : Chg S w w') (hB : B ≤ w.heap.size) (hS : ∀ k, S k → k < L) : Cells w' L B A m f :=
  h.keep fun b o h1 h2 => hk.cell (by omega) (fun e => by have := hS b e; omega) o

/-! ### The ring beside choices -/
def GR (B : Nat) (a : Option Addr) (len cap q : Nat) (w0 : World) (C H g c n : Nat) (L : Nat → Int) (w : World) : Prop :=
  Has B a len cap q w0 w ∧ B < C ∧ RingO C H g c n L w
section
variable {B len cap q C H g c n : Nat} {a : Option Addr} {w0 w : World} {L : Nat → Int}
theorem GR.call {f : FuncId} {args : Array Value} {n' : Nat} {L' : Nat → Int} {x : Value} (h : GR B a len cap q w0 C H g c n L w) (hc : RingO C H g c n L w → Calls Try.prog f args w (RgAns C H g c n' L' x w)) :
    Calls Try.prog f args w fun e w' => e = .returned x ∧ GR B a len cap q w0 C H g c n' L' w' ∧ Chg (rgfoot H g) w w' := by
  obtain ⟨h1, h2, h3⟩ := h
  refine (hc h3).mono ?_
  rintro e w' ⟨rfl, h4, h5⟩
  exact ⟨rfl, ⟨h1.trod (fun i hi => by have := h3.lo i hi; omega) h5, h2, h4⟩, h5⟩
theorem GR.next {N : Int} (h : GR B a len cap q w0 C H g c n L w) (n0 : 1 ≤ N) (n1 : N ≤ 1000000000) (hq : q ≤ 1000000000) :
    Calls Try.prog 8 #[.pointer (some ⟨B, 0, none⟩), .int .i64 N] w fun e w' => ∃ r : Int, 0 ≤ r ∧ r < N ∧ e = .returned (.int .i64 r) ∧ GR B a len cap (q + 1) w0 C H g c n L w' ∧ Only B w w' := by
  obtain ⟨h1, h2, h3⟩ := h
  refine (has_next B a len cap q N w0 w h1 n0 n1 hq).mono ?_
  rintro e w' ⟨r, r0, r1, rfl, h4, h5⟩
  exact ⟨r, r0, r1, rfl, ⟨h4, h2, h3.only h2 h5⟩, h5⟩
theorem GR.below {w' : World} (h : GR B a len cap q w0 C H g c n L w) (hb : Below w.heap.size w w') : GR B a len cap q w0 C H g c n L w' :=
  ⟨h.1.below hb, h.2.1, h.2.2.below hb⟩
theorem GR.end_ (h : GR B a len cap q w0 C H g c n L w) : Below B w0 w := h.1.2
theorem GR.lt (h : GR B a len cap q w0 C H g c n L w) : B < w.heap.size := h.1.1.lt
theorem GR.foot (h : GR B a len cap q w0 C H g c n L w) : ∀ k, rgfoot H g k → k < w.heap.size := fun k hk => (h.2.2.lo k hk).2
theorem GR.same {L' : Nat → Int} (h : GR B a len cap q w0 C H g c n L w) (he : ∀ i, i < n → L i = L' i) : GR B a len cap q w0 C H g c n L' w := ⟨h.1, h.2.1, h.2.2.same he⟩
theorem GR.at_ (h : GR B a len cap q w0 C H g c n L w) (i : Int) :
    Calls Try.prog 20 #[.pointer (some ⟨H, 0, none⟩), .int .i64 i] w fun e w' => e = .returned (.tuple #[.int .i64 (takV L n i), .bool (inR n i)]) ∧ GR B a len cap q w0 C H g c n L w' ∧ Below w.heap.size w w' :=
  (rgat_any h.2.2 i).mono fun _ _ ⟨e, q, hq⟩ => by
    have hb := Below_drewN (Below.refl w.heap.size w) q
    subst hq
    exact ⟨e, h.below hb, hb⟩
theorem GR.start {W w' : World} {e : Ending} {K : Nat} (hg : Has B a len cap q w0 W) (ha : RgNew K W e w') : ∃ H g, e = .returned (.tuple #[.pointer (some ⟨H, 0, none⟩), .int .i64 0]) ∧ GR B a len cap q w0 W.heap.size H g K 0 (fun _ => 0) w' := by
  obtain ⟨H, g, rfl, h1, h2⟩ := ha
  exact ⟨H, g, rfl, hg.below h2, hg.1.lt, h1⟩
end
/-! ### awake -/
theorem RgAns.from_ {C H g cap n n' : Nat} {L L' : Nat → Int} {x : Value} {w0 w w' : World} {e : Ending} (h : RingO C H g cap n L w) (hw : Chg (fun k => C ≤ k) w0 w) (ha : RgAns C H g cap n' L' x w e w') : e = .returned x ∧ RingO C H g cap n' L' w' ∧ Chg (fun k => C ≤ k) w0 w' :=
  ⟨ha.1, ha.2.1, hw.trans (ha.2.2.wider (fun k _ hk => (h.lo k hk).1))⟩
theorem three_nums (w : World) : Nums (w.alloc (.cells #[.int .i64 2, .int .i64 3, .int .i64 4] 3)) w.heap.size (w.heap.size + 1) (some ⟨w.heap.size, 0, none⟩) 3 (fun j => (j : Int) + 2) := by
  intro j hj
  refine ⟨w.heap.size, 0, rfl, Nat.le_refl _, by omega, ?_⟩
  rw [(Whole.new w 3 _).read]
  rcases (by omega : j = 0 ∨ j = 1 ∨ j = 2) with rfl | rfl | rfl <;> rfl
set_option maxRecDepth 100000 in
set_option maxHeartbeats 4000000 in
theorem rgawake_any (w : World) : Calls Try.prog 16 #[] w fun e w' => e = .returned (.bool true) ∧ Below w.heap.size w w' := by
  have HN := Lib.hid (show Calls Try.prog 9 #[.int .i64 3] w (RgNew 3 w) from rgnew_ok 3 w (by decide) (by decide))
  go_enter Try.func16, Try.ntmps16
  go_wp2_with fail
  (with_reducible refine HN.out.mono ?_)
  rintro e w1 ⟨H, g, rfl, h1, hb1⟩
  have k1 : Chg (fun k => w.heap.size ≤ k) w w1 := Chg.of_below hb1
  have H1 := Lib.hid h1
  have K1 := Lib.hid k1
  have HP := Lib.hid (rgpush_ok h1 (by decide) 1)
  clear h1 hb1 k1
  go_wp2_with fail
  (with_reducible refine HP.out.mono ?_)
  intro e w2 ha
  obtain ⟨rfl, h2, k2⟩ := ha.from_ H1.out K1.out
  have H2 := Lib.hid h2
  have K2 := Lib.hid k2
  have HP2 := Lib.hid (rgpush_ok h2 (by decide) 2)
  clear h2 k2 ha
  go_wp2_with fail
  (with_reducible refine HP2.out.mono ?_)
  intro e w3 ha
  obtain ⟨rfl, h3, k3⟩ := ha.from_ H2.out K2.out
  have H3 := Lib.hid h3
  have K3 := Lib.hid k3
  have HP3 := Lib.hid (rgpush_ok h3 (by decide) 3)
  clear h3 k3 ha
  go_wp2_with fail
  (with_reducible refine HP3.out.mono ?_)
  intro e w4 ha
  obtain ⟨rfl, h4, k4⟩ := ha.from_ H3.out K3.out
  have h4 := h4.same (L' := fun j => (j : Int) + 1) (fun i hi => by
    rcases (by omega : i = 0 ∨ i = 1 ∨ i = 2) with rfl | rfl | rfl <;> rfl)
  have H4 := Lib.hid h4
  have K4 := Lib.hid k4
  have HP4 := Lib.hid (show Calls Try.prog 18 #[.pointer (some ⟨H, 0, none⟩)] w4 (RgAns w.heap.size H g 3 2 (rmvN (fun j => (j : Int) + 1) 0) (.tuple #[.int .i64 1, .int .i64 0]) w4) from rgpop_ok h4)
  clear h4 k4 ha
  go_wp2_with fail
  (with_reducible refine HP4.out.mono ?_)
  intro e w5 ha
  obtain ⟨rfl, h5, k5⟩ := ha.from_ H4.out K4.out
  have H5 := Lib.hid h5
  have K5 := Lib.hid k5
  have HP5 := Lib.hid (rgpush_ok h5 (by decide) 4)
  clear h5 k5 ha
  go_wp2_with fail
  (with_reducible refine HP5.out.mono ?_)
  intro e w6 ha
  obtain ⟨rfl, h6, k6⟩ := ha.from_ H5.out K5.out
  have h6 := h6.same (L' := fun j => (j : Int) + 2) (fun i hi => by
    rcases (by omega : i = 0 ∨ i = 1 ∨ i = 2) with rfl | rfl | rfl <;> rfl)
  have H6 := Lib.hid h6
  have K6 := Lib.hid k6
  have HP6 := Lib.hid (rgpush_full h6 5)
  clear h6 k6 ha
  go_wp2_with fail
  (with_reducible refine HP6.out.mono ?_)
  intro e w7 ha
  obtain ⟨rfl, h7, k7⟩ := ha.from_ H6.out K6.out
  have K7 := Lib.hid k7
  have HI := Lib.hid (rgitems_any h7)
  clear h7 k7 ha
  go_wp2_with fail
  (with_reducible refine HI.out.mono ?_)
  rintro e w8 ⟨A, d, rfl, hd, hn, hb8⟩
  clear hd
  have HE := Lib.hid (equalInt_any A (some ⟨w8.heap.size, 0, none⟩) 3 d 3 (fun j => (j : Int) + 2) _ _ _ _ (w8.alloc (.cells #[.int .i64 2, .int .i64 3, .int .i64 4] 3)) (by decide) (Cells.alloc hn (Nat.le_refl _) _) (three_nums w8))
  have HB : Hid (Below w.heap.size w w8) := Lib.hid ((K7.out.trans (Chg.of_below hb8)).below (Nat.le_refl _) (fun _ h => h))
  clear hn hb8 HI HP HP2 HP3 HP4 HP5 HP6 H1 H2 H3 H4 H5 H6 K1 K2 K3 K4 K5 K6 K7
  go_wp2_with fail
  (with_reducible refine HE.out.mono ?_)
  rintro e w9 ⟨rfl, hb9⟩
  have HZ := Lib.hid ((HB.out.alloc HB.out.size _).trans (hb9.mono (by have := HB.out.size; simp; omega)))
  clear HE HB hb9
  go_wp2
  go_ret
  exact ⟨rfl, HZ.out⟩
end Go.Proofs.Ytpdoommjmmlhfaa

