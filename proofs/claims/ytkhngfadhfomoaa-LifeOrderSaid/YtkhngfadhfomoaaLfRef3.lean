/-
  Layer 18: contract of the reference's Stats. Written by gen_lfref3.py.
-/
import Derived.Test.YtkhngfadhfomoaaLfRef
namespace Go.Proofs.Ytkhngfadhfomoaa
open Go.ChangeShapes Go.WideShapes Go.ChangeAt Go.RowKit
set_option linter.unusedVariables false

def lfC (l : List LfE) (p : LfE → Bool) : Int := (l.filter p).length
theorem lfC_next (l : List LfE) (p : LfE → Bool) {k : Nat} (hk : k < l.length) : lfC (l.take (k + 1)) p = lfC (l.take k) p + if p l[k] = true then 1 else 0 := by
  unfold lfC
  by_cases h : p l[k] = true
  · rw [lfilter_yes p l hk h, List.length_append, if_pos h]; simp
  · rw [lfilter_no p l hk (by simpa using h), if_neg h]; simp
theorem lfC_bd (l : List LfE) (p : LfE → Bool) (k : Nat) : 0 ≤ lfC (l.take k) p ∧ lfC (l.take k) p ≤ k := by
  unfold lfC
  have := List.length_filter_le p (l.take k)
  have := List.length_take_le k l
  omega
theorem lfBy_next (l : List LfE) (f : Int) {k : Nat} (hk : k < l.length) : lfBy (l.take (k + 1)) f = lfBy (l.take k) f + if (l[k].f == f && l[k].s == 3) = true then l[k].n else 0 := by
  unfold lfBy
  by_cases h : (l[k].f == f && l[k].s == 3) = true
  · rw [lfilter_yes (fun e : LfE => e.f == f && e.s == 3) l hk h, List.map_append, List.sum_append, if_pos h]; simp
  · rw [lfilter_no (fun e : LfE => e.f == f && e.s == 3) l hk (by simpa using h), if_neg h]; simp
theorem lfBy_bd (l : List LfE) (f : Int) (h : ∀ x ∈ l, (0 ≤ x.f ∧ x.f < 32) ∧ (1 ≤ x.n ∧ x.n ≤ 4096) ∧ 1 ≤ x.s ∧ x.s ≤ 4) : ∀ k : Nat, 0 ≤ lfBy (l.take k) f ∧ lfBy (l.take k) f ≤ 4096 * k
  | 0 => by simp [lfBy]
  | k + 1 => by
    have ih := lfBy_bd l f h k
    by_cases hk : k < l.length
    · rw [lfBy_next l f hk]
      have := h _ (List.getElem_mem hk)
      split <;> omega
    · rw [List.take_of_length_le (by omega)] at ih ⊢
      omega
/-- The numbers of Stats: accepted, delivered, dropped, bytes. -/
def lfS1 (s : LfS) (f : Int) : Int := if lfF f = true then lfC s.l (fun e => e.f == f) else 0
def lfS2 (s : LfS) (f : Int) : Int := if lfF f = true then lfC s.l (fun e => e.f == f && e.s == 3) else 0
def lfS3 (s : LfS) (f : Int) : Int := if lfF f = true then s.r f + lfC s.l (fun e => e.f == f && e.s == 4) else 0
def lfS4 (s : LfS) (f : Int) : Int := if lfF f = true then lfBy s.l f else 0
def lfS0 (f : Int) : Int := if lfF f = true then f else 0
def stA (a b c d e f : Int) : Array Value := #[.int .i64 a, .int .i64 b, .int .i64 c, .int .i64 d, .int .i64 e, .int .i64 f]
def lfSs (s : LfS) (f : Int) : Value := .agg (stA (lfS0 f) (lfS1 s f) (lfS2 s f) (lfS3 s f) (lfS4 s f) 0)
/-- The result's block and the variable's, both the call's own. -/
structure StT (w wr : World) (c1 : Array Value) : Prop where
  r : Whole wr w.heap.size 37 (stA 0 0 0 0 0 0)
  x : Whole wr (w.heap.size + 1) 37 c1
  b : Below w.heap.size w wr
theorem StT.start (w : World) (c1 : Array Value) : StT w ((w.alloc (.cells (stA 0 0 0 0 0 0) 37)).alloc (.cells c1 37)) c1 := by
  have h := Whole.fresh w 37 (stA 0 0 0 0 0 0)
  refine ⟨h.alloc _, ?_, ((Below.refl _ _).alloc (Nat.le_refl _) _).alloc (by simp) _⟩
  have h2 := Whole.fresh (w.alloc (.cells (stA 0 0 0 0 0 0) 37)) 37 c1
  simpa using h2
theorem StT.put {w wr : World} {c1 : Array Value} (h : StT w wr c1) (i : Nat) (u : Value) : StT w (wr.setCell ⟨w.heap.size + 1, i, none⟩ u) (c1.setIfInBounds i u) :=
  ⟨h.r.other (by omega) i u, h.x.put i u, ((Chg.of_below (S := fun k => w.heap.size ≤ k) h.b).setNew (by omega) i u).below (Nat.le_refl _) (fun k hk => hk)⟩
theorem StT.drew {w wr : World} {c1 : Array Value} (h : StT w wr c1) : StT w wr.drew c1 := ⟨h.r.later (Below.refl _ _).drew, h.x.later (Below.refl _ _).drew, h.b.drew⟩
theorem StT.cells {w wr : World} {a b c d e f : Int} (h : StT w wr (stA a b c d e f)) : (wr.cell? ⟨w.heap.size + 1, 0, none⟩ = some (.int .i64 a) ∧ wr.cell? ⟨w.heap.size + 1, 1, none⟩ = some (.int .i64 b) ∧ wr.cell? ⟨w.heap.size + 1, 2, none⟩ = some (.int .i64 c) ∧ wr.cell? ⟨w.heap.size + 1, 3, none⟩ = some (.int .i64 d) ∧ wr.cell? ⟨w.heap.size + 1, 4, none⟩ = some (.int .i64 e) ∧ wr.cell? ⟨w.heap.size + 1, 5, none⟩ = some (.int .i64 f)) ∧ ∀ i, wr.frozen? ⟨w.heap.size + 1, i, none⟩ = false :=
  ⟨⟨(h.x.read 0).trans rfl, (h.x.read 1).trans rfl, (h.x.read 2).trans rfl, (h.x.read 3).trans rfl, (h.x.read 4).trans rfl, (h.x.read 5).trans rfl⟩, h.x.free⟩
theorem StT.res {w wr : World} {c1 : Array Value} (h : StT w wr c1) : (wr.cell? ⟨w.heap.size, 0, none⟩ = some (.int .i64 0) ∧ wr.cell? ⟨w.heap.size, 1, none⟩ = some (.int .i64 0) ∧ wr.cell? ⟨w.heap.size, 2, none⟩ = some (.int .i64 0) ∧ wr.cell? ⟨w.heap.size, 3, none⟩ = some (.int .i64 0) ∧ wr.cell? ⟨w.heap.size, 4, none⟩ = some (.int .i64 0) ∧ wr.cell? ⟨w.heap.size, 5, none⟩ = some (.int .i64 0)) ∧ ∀ i, wr.frozen? ⟨w.heap.size, i, none⟩ = false :=
  ⟨⟨(h.r.read 0).trans rfl, (h.r.read 1).trans rfl, (h.r.read 2).trans rfl, (h.r.read 3).trans rfl, (h.r.read 4).trans rfl, (h.r.read 5).trans rfl⟩, h.r.free⟩
/-- Six cells of a block of the call's own are written. -/
theorem six_put {w wr : World} {g : Nat} (hw : Whole wr g 37 (stA 0 0 0 0 0 0)) (hb : Below w.heap.size w wr) (hg : w.heap.size ≤ g) (a b c d e f : Int) {W2 : World}
    (hW : W2 = (((((wr.setCell ⟨g, 0, none⟩ (.int .i64 a)).setCell ⟨g, 1, none⟩ (.int .i64 b)).setCell ⟨g, 2, none⟩ (.int .i64 c)).setCell ⟨g, 3, none⟩ (.int .i64 d)).setCell ⟨g, 4, none⟩ (.int .i64 e)).setCell ⟨g, 5, none⟩ (.int .i64 f)) :
    (∀ i : Nat, W2.cell? ⟨g, i, none⟩ = (stA a b c d e f)[i]?) ∧ Below w.heap.size w W2 := by
  have h1 := (((((hw.put 0 (.int .i64 a)).put 1 (.int .i64 b)).put 2 (.int .i64 c)).put 3 (.int .i64 d)).put 4 (.int .i64 e)).put 5 (.int .i64 f)
  rw [← hW] at h1
  have hc : ((((((stA 0 0 0 0 0 0).setIfInBounds 0 (.int .i64 a)).setIfInBounds 1 (.int .i64 b)).setIfInBounds 2 (.int .i64 c)).setIfInBounds 3 (.int .i64 d)).setIfInBounds 4 (.int .i64 e)).setIfInBounds 5 (.int .i64 f) = stA a b c d e f := rfl
  rw [hc] at h1
  refine ⟨fun i => h1.read i, ?_⟩
  rw [hW]
  exact ((((((((Chg.of_below (S := fun k => w.heap.size ≤ k) hb).setNew hg 0 _).setNew hg 1 _).setNew hg 2 _).setNew hg 3 _).setNew hg 4 _).setNew hg 5 _)).below (Nat.le_refl _) (fun k hk => hk)
set_option maxRecDepth 100000 in
set_option maxHeartbeats 16000000 in
theorem rsta_any {S : Nat} {s : LfS} {T : Nat → Prop} {w : World} (hb9 : LfB s 9999) (h : LtP S s T w) (f : Int) : Calls Try.prog 14 #[.pointer (some ⟨S, 0, none⟩), .int .i64 f] w (Calm (lfSs s f) w) := by
  have HFL := Lib.hid (fun W => rflow_any f W)
  unfold Calm lfSs
  cases hf : lfF f
  · have e0 : lfS0 f = 0 := by unfold lfS0; rw [hf]; rfl
    have e1 : lfS1 s f = 0 := by unfold lfS1; rw [hf]; rfl
    have e2 : lfS2 s f = 0 := by unfold lfS2; rw [hf]; rfl
    have e3 : lfS3 s f = 0 := by unfold lfS3; rw [hf]; rfl
    have e4 : lfS4 s f = 0 := by unfold lfS4; rw [hf]; rfl
    rw [e0, e1, e2, e3, e4]
    rw [hf] at HFL
    have hx := Whole.fresh w 37 (stA 0 0 0 0 0 0)
    have HB := Lib.hid ((Below.refl w.heap.size w).alloc (Nat.le_refl _) (.cells (stA 0 0 0 0 0 0) 37))
    have k0 := (hx.read 0).trans (rfl : _ = some (Value.int .i64 0))
    have k1 := (hx.read 1).trans (rfl : _ = some (Value.int .i64 0))
    have k2 := (hx.read 2).trans (rfl : _ = some (Value.int .i64 0))
    have k3 := (hx.read 3).trans (rfl : _ = some (Value.int .i64 0))
    have k4 := (hx.read 4).trans (rfl : _ = some (Value.int .i64 0))
    have k5 := (hx.read 5).trans (rfl : _ = some (Value.int .i64 0))
    unfold stA at HB k0 k1 k2 k3 k4 k5 ⊢
    clear h hb9 hf e0 e1 e2 e3 e4 hx
    go_enter Try.func14, Try.ntmps14
    go_wp2_with fail
    (with_reducible refine (HFL.out _).mono ?_); rintro e w1 ⟨rfl, rfl⟩
    go_wp2
    exact bodyPost_ret (v := .agg #[.int .i64 0, .int .i64 0, .int .i64 0, .int .i64 0, .int .i64 0, .int .i64 0]) (by simp [results, Try.results14, go_sem, k0, k1, k2, k3, k4, k5]) rfl ⟨rfl, HB.out⟩
  · have hff := lfF_yes hf
    obtain ⟨fn, rfl⟩ : ∃ fn : Nat, f = fn := ⟨f.toNat, by omega⟩
    have hfn : fn < 32 := by omega
    have hr := hb9.r fn
    have hln := hb9.l
    have e0 : lfS0 fn = fn := by unfold lfS0; rw [hf]; rfl
    have e1 : lfS1 s fn = lfC s.l (fun e => e.f == (fn : Int)) := by unfold lfS1; rw [hf]; rfl
    have e2 : lfS2 s fn = lfC s.l (fun e => e.f == (fn : Int) && e.s == 3) := by unfold lfS2; rw [hf]; rfl
    have e3 : lfS3 s fn = s.r fn + lfC s.l (fun e => e.f == (fn : Int) && e.s == 4) := by unfold lfS3; rw [hf]; rfl
    have e4 : lfS4 s fn = lfBy s.l fn := by unfold lfS4; rw [hf]; rfl
    rw [e0, e1, e2, e3, e4]
    rw [hf] at HFL
    obtain ⟨h0, hS, ⟨A, cL, d0, hR⟩, _, hrf⟩ := h.rd
    have dr := hrf fn hfn
    have HR := Lib.hid hR
    have HOK := Lib.hid h0.e
    obtain ⟨l, sd, sr⟩ := s
    simp only at hln d0 HR HOK dr hr ⊢
    have HN1 := Lib.hid (fun k (hk : k < l.length) => lfC_next l (fun e => e.f == (fn : Int)) hk)
    have HN2 := Lib.hid (fun k (hk : k < l.length) => lfC_next l (fun e => e.f == (fn : Int) && e.s == 3) hk)
    have HN3 := Lib.hid (fun k (hk : k < l.length) => lfC_next l (fun e => e.f == (fn : Int) && e.s == 4) hk)
    have HN4 := Lib.hid (fun k (hk : k < l.length) => lfBy_next l (fn : Int) hk)
    obtain ⟨rr, hrr⟩ : ∃ rr, sr (fn : Int) = rr := ⟨_, rfl⟩
    rw [hrr] at dr hr ⊢
    obtain ⟨n, hN⟩ : ∃ n, l.length = n := ⟨_, rfl⟩
    have HN := Lib.hid hN
    rw [hN] at d0 hln
    have HS0 := Lib.hid d0
    have hT0 := StT.start w (stA fn 0 0 rr 0 0)
    have HT0 := Lib.hid (show StT w ((w.alloc (.cells (stA 0 0 0 0 0 0) 37)).alloc (.cells (stA fn 0 0 rr 0 0) 37)) (stA fn (lfC (l.take 0) (fun e => e.f == (fn : Int))) (lfC (l.take 0) (fun e => e.f == (fn : Int) && e.s == 3)) (rr + lfC (l.take 0) (fun e => e.f == (fn : Int) && e.s == 4)) (lfBy (l.take 0) fn) 0) from by
      have a1 : lfC (l.take 0) (fun e => e.f == (fn : Int)) = 0 := by simp [lfC]
      have a2 : lfC (l.take 0) (fun e => e.f == (fn : Int) && e.s == 3) = 0 := by simp [lfC]
      have a3 : lfC (l.take 0) (fun e => e.f == (fn : Int) && e.s == 4) = 0 := by simp [lfC]
      have a4 : lfBy (l.take 0) (fn : Int) = 0 := by simp [lfBy]
      rw [a1, a2, a3, a4, Int.add_zero]
      exact hT0)
    have HBB := Lib.hid (fun k (hk : k ≤ n) => lfBy_bd l (fn : Int) h0.e k)
    have HEN := Lib.hid (show l.take n = l from List.take_of_length_le (by rw [hN]; exact Nat.le_refl _))
    have hfk : (fn : Int) < 32 := by omega
    have hf0 : (0 : Int) ≤ (fn : Int) := by omega
    unfold stA at HT0
    clear h hb9 hf h0 hR e0 e1 e2 e3 e4 hrf hT0 hrr hN
    go_enter Try.func14, Try.ntmps14
    go_wp2_with fail
    (with_reducible refine (HFL.out _).mono ?_); rintro e w1 ⟨rfl, rfl⟩
    clear HFL
    go_wp2_with fail
    go_loopw [6] (fun s6 wr => ∃ (k : Nat), k ≤ n ∧ s6 = .int .i64 k ∧ Hid (StT w wr (stA fn (lfC (l.take k) (fun e => e.f == (fn : Int))) (lfC (l.take k) (fun e => e.f == (fn : Int) && e.s == 3)) (rr + lfC (l.take k) (fun e => e.f == (fn : Int) && e.s == 4)) (lfBy (l.take k) fn) 0))) (fun s6 _ => n - (intOf s6).toNat)
    case atStart => exact ⟨0, Nat.zero_le _, rfl, HT0⟩
    case round =>
      obtain ⟨k, hk, rfl, HT⟩ := hrel
      clear HT0
      have dd0 := (HT.out.b.cell (p := ⟨S, 0, none⟩) hS).trans HS0.out
      by_cases hlt : k < n
      · have hlt' : (k : Int) < n := by omega
        have hk0 : (0 : Int) ≤ k := by omega
        have hkl : k < l.length := by have := HN.out; omega
        obtain ⟨gL, rfl, hSL, _, hgL, _, c0, c1, c2, _⟩ := HR.out k hkl
        have g0 := (HT.out.b.cell (p := ⟨gL, k * 4, none⟩) hgL).trans c0
        have g1 := (HT.out.b.cell (p := ⟨gL, k * 4 + 1, none⟩) hgL).trans c1
        have g2 := (HT.out.b.cell (p := ⟨gL, k * 4 + 2, none⟩) hgL).trans c2
        have hok := HOK.out _ (List.getElem_mem hkl)
        have n1 := HN1.out k hkl
        have n2 := HN2.out k hkl
        have n3 := HN3.out k hkl
        have n4 := HN4.out k hkl
        have b1 := lfC_bd l (fun e => e.f == (fn : Int)) k
        have b2 := lfC_bd l (fun e => e.f == (fn : Int) && e.s == 3) k
        have b3 := lfC_bd l (fun e => e.f == (fn : Int) && e.s == 4) k
        have b4 := HBB.out k hk
        have HC1 := Lib.hid c1
        generalize l[k] = e at *
        obtain ⟨ef, en, es, ey⟩ := e
        simp only at n1 n2 n3 n4 g0 g1 g2 hok HC1
        generalize lfC (l.take k) (fun e => e.f == (fn : Int)) = a at *
        generalize lfC (l.take k) (fun e => e.f == (fn : Int) && e.s == 3) = d at *
        generalize lfC (l.take k) (fun e => e.f == (fn : Int) && e.s == 4) = p at *
        generalize lfBy (l.take k) (fn : Int) = by_ at *
        have hx := HT.out.cells
        obtain ⟨⟨x0, x1, x2, x3, x4, x5⟩, xf⟩ := hx
        have z1 := xf 1
        have z2 := xf 2
        have z3 := xf 3
        have z4 := xf 4
        have hne1 : S ≠ w.heap.size + 1 := by omega
        have hne2 : gL ≠ w.heap.size + 1 := by omega
        have HP := Lib.hid (fun i u => HT.out.put i u)
        have wr1 : IntKind.i64.wrap (a + 1) = a + 1 := IntWalk.i64_in _ (by omega)
        have wr2 : IntKind.i64.wrap (d + 1) = d + 1 := IntWalk.i64_in _ (by omega)
        have wr3 : IntKind.i64.wrap (rr + p + 1) = rr + p + 1 := IntWalk.i64_in _ (by omega)
        have wr4 : IntKind.i64.wrap (by_ + en) = by_ + en := IntWalk.i64_in _ (by omega)
        clear c0 c1 c2 xf HOK HN1 HN2 HN3 HN4 HBB HEN HR
        by_cases hef : ef = (fn : Int)
        rotate_left 1
        · have hq : (ef != (fn : Int)) = true := by simpa using hef
          have hq2 : (ef == (fn : Int)) = false := by simpa using hef
          rw [hq2] at n1 n2 n3 n4
          simp at n1 n2 n3 n4
          have HT2 := Lib.hid (show StT w wr (stA fn (lfC (l.take (k + 1)) (fun e => e.f == (fn : Int))) (lfC (l.take (k + 1)) (fun e => e.f == (fn : Int) && e.s == 3)) (rr + lfC (l.take (k + 1)) (fun e => e.f == (fn : Int) && e.s == 4)) (lfBy (l.take (k + 1)) fn) 0) from by rw [n1, n2, n3, n4]; exact HT.out)
          clear n1 n2 n3 n4 HT HP
          go_wp2
          go_roundw
          case rel => exact ⟨k + 1, by omega, by go_num, HT2⟩
          case measure => simp [intOf]; omega
        · have hq : (ef != (fn : Int)) = false := by simpa using hef
          have hq2 : (ef == (fn : Int)) = true := by simpa using hef
          rw [hq2] at n1 n2 n3 n4
          subst hef
          by_cases h3 : es = 3
          · subst h3
            simp at n1 n2 n3 n4
            have HA0 := (HT.out.put 1 (.int .i64 (a + 1))).put 2 (.int .i64 (d + 1))
            have HA := HA0.drew
            have HT2 := Lib.hid (show StT w ((((wr.setCell ⟨w.heap.size + 1, 1, none⟩ (.int .i64 (a + 1))).setCell ⟨w.heap.size + 1, 2, none⟩ (.int .i64 (d + 1))).drew).setCell ⟨w.heap.size + 1, 4, none⟩ (.int .i64 (by_ + en))) (stA fn (lfC (l.take (k + 1)) (fun e => e.f == (fn : Int))) (lfC (l.take (k + 1)) (fun e => e.f == (fn : Int) && e.s == 3)) (rr + lfC (l.take (k + 1)) (fun e => e.f == (fn : Int) && e.s == 4)) (lfBy (l.take (k + 1)) fn) 0) from by
              rw [n1, n2, n3, n4]
              exact HA.put 4 (.int .i64 (by_ + en)))
            have HA2 : StT w ((wr.setCell ⟨w.heap.size + 1, 1, none⟩ (.int .i64 (a + 1))).setCell ⟨w.heap.size + 1, 2, none⟩ (.int .i64 (d + 1))).drew (stA fn (a + 1) (d + 1) (rr + p) by_ 0) := HA
            have HAB := HA2.b
            have hx2 := HA2.cells
            obtain ⟨wa, hwa⟩ : ∃ wa, (wr.setCell ⟨w.heap.size + 1, 1, none⟩ (.int .i64 (a + 1))).setCell ⟨w.heap.size + 1, 2, none⟩ (.int .i64 (d + 1)) = wa := ⟨_, rfl⟩
            rw [hwa] at HAB hx2 HT2
            have v0 := (HAB.cell (p := ⟨S, 0, none⟩) hS).trans HS0.out
            have v1 := (HAB.cell (p := ⟨gL, k * 4 + 1, none⟩) hgL).trans HC1.out
            have v2 := hx2.1.2.2.2.2.1
            have v3 := hx2.2 4
            have HWA := Lib.hid hwa
            clear n1 n2 n3 n4 HT HP HA HA0 HA2 HAB hx2 hwa
            go_wp2_with fail
            rw [HWA.out]
            clear x0 x1 x2 x3 x4 x5 z1 z2 z3 z4 dd0 g0 g1 g2
            refine wp_region_looseS 75 (by kernel_rfl) (by kernel_rfl) (StC wa.drew (wa.drew.setCell ⟨w.heap.size + 1, 4, none⟩ (.int .i64 (by_ + en))) (fun i => [.pointer (some ⟨w.heap.size + 1, 4, none⟩), .int .i64 by_, .pointer (some ⟨S, 0, none⟩), .pointer (some ⟨S, 0, none⟩), .pointer (some ⟨S, 0, none⟩), .slice (some ⟨gL, 0, none⟩) n cL, .int .i64 (k : Nat), .pointer (some ⟨gL, k * 4, none⟩), .pointer (some ⟨gL, k * 4 + 1, none⟩), .int .i64 en, .int .i64 (by_ + en), .pointer (some ⟨w.heap.size + 1, 4, none⟩)].getD i undef) 12) rfl StC.start ?_ ?_
            · simp only [OblAllS]
              refine ⟨?_, ?_, ?_, ?_, ?_, ?_, ?_, ?_, ?_, ?_, ?_, ?_, ?_, trivial⟩
              · intro L wx vals hi hu hcl hC
                simp [ClosedL, UpL, predL, predE, Region.binds] at hcl
                have hst : L 12 = false := by clear hC; cases h : L 12 with | false => rfl | true => exfalso; first | (simp_all; done) | grind
                obtain rfl := hC.a hst
                have HCx := Lib.hid hC
                clear hC hcl hu hi hst
                simp only [fillA, if_true, Act.put]
                simp
                go_wp2
                exact ⟨rfl, HCx.out.quiet (by decide) rfl⟩
              · intro L wx vals hi hu hcl hC
                simp [ClosedL, UpL, predL, predE, Region.binds] at hcl
                simp [predL, predE, Region.binds, UpL] at hu
                have hst : L 12 = false := by clear hC; cases h : L 12 with | false => rfl | true => exfalso; first | (simp_all; done) | grind
                have e0 : vals 0 = .pointer (some ⟨w.heap.size + 1, 4, none⟩) := hC.v 0 (by decide) (by simp [hu])
                obtain rfl := hC.a hst
                have HCx := Lib.hid hC
                clear hC hcl hu hi hst
                simp only [fillA, if_true, Act.put]
                simp
                simp only [e0]
                clear e0
                go_wp2
                exact ⟨rfl, HCx.out.quiet (by decide) rfl⟩
              · intro L wx vals hi hu hcl hC
                simp [ClosedL, UpL, predL, predE, Region.binds] at hcl
                have hst : L 12 = false := by clear hC; cases h : L 12 with | false => rfl | true => exfalso; first | (simp_all; done) | grind
                obtain rfl := hC.a hst
                have HCx := Lib.hid hC
                clear hC hcl hu hi hst
                simp only [fillA, if_true, Act.put]
                simp
                go_wp2
                exact ⟨rfl, HCx.out.quiet (by decide) rfl⟩
              · intro L wx vals hi hu hcl hC
                simp [ClosedL, UpL, predL, predE, Region.binds] at hcl
                simp [predL, predE, Region.binds, UpL] at hu
                have hst : L 12 = false := by clear hC; cases h : L 12 with | false => rfl | true => exfalso; first | (simp_all; done) | grind
                have e2 : vals 2 = .pointer (some ⟨S, 0, none⟩) := hC.v 2 (by decide) (by simp [hu])
                obtain rfl := hC.a hst
                have HCx := Lib.hid hC
                clear hC hcl hu hi hst
                simp only [fillA, if_true, Act.put]
                simp
                simp only [e2]
                clear e2
                go_wp2
                exact ⟨rfl, HCx.out.quiet (by decide) rfl⟩
              · intro L wx vals hi hu hcl hC
                simp [ClosedL, UpL, predL, predE, Region.binds] at hcl
                simp [predL, predE, Region.binds, UpL] at hu
                have hst : L 12 = false := by clear hC; cases h : L 12 with | false => rfl | true => exfalso; first | (simp_all; done) | grind
                have e3 : vals 3 = .pointer (some ⟨S, 0, none⟩) := hC.v 3 (by decide) (by simp [hu])
                obtain rfl := hC.a hst
                have HCx := Lib.hid hC
                clear hC hcl hu hi hst
                simp only [fillA, if_true, Act.put]
                simp
                simp only [e3]
                clear e3
                go_wp2
                exact ⟨rfl, HCx.out.quiet (by decide) rfl⟩
              · intro L wx vals hi hu hcl hC
                simp [ClosedL, UpL, predL, predE, Region.binds] at hcl
                simp [predL, predE, Region.binds, UpL] at hu
                have hst : L 12 = false := by clear hC; cases h : L 12 with | false => rfl | true => exfalso; first | (simp_all; done) | grind
                have e4 : vals 4 = .pointer (some ⟨S, 0, none⟩) := hC.v 4 (by decide) (by simp [hu])
                obtain rfl := hC.a hst
                have HCx := Lib.hid hC
                clear hC hcl hu hi hst
                simp only [fillA, if_true, Act.put]
                simp
                simp only [e4]
                clear e4
                go_wp2
                exact ⟨rfl, HCx.out.quiet (by decide) rfl⟩
              · intro L wx vals hi hu hcl hC
                simp [ClosedL, UpL, predL, predE, Region.binds] at hcl
                have hst : L 12 = false := by clear hC; cases h : L 12 with | false => rfl | true => exfalso; first | (simp_all; done) | grind
                obtain rfl := hC.a hst
                have HCx := Lib.hid hC
                clear hC hcl hu hi hst
                simp only [fillA, if_true, Act.put]
                simp
                go_wp2
                exact ⟨rfl, HCx.out.quiet (by decide) rfl⟩
              · intro L wx vals hi hu hcl hC
                simp [ClosedL, UpL, predL, predE, Region.binds] at hcl
                simp [predL, predE, Region.binds, UpL] at hu
                have hst : L 12 = false := by clear hC; cases h : L 12 with | false => rfl | true => exfalso; first | (simp_all; done) | grind
                have e5 : vals 5 = .slice (some ⟨gL, 0, none⟩) n cL := hC.v 5 (by decide) (by simp [hu])
                have e6 : vals 6 = .int .i64 (k : Nat) := hC.v 6 (by decide) (by simp [hu])
                obtain rfl := hC.a hst
                have HCx := Lib.hid hC
                clear hC hcl hu hi hst
                simp only [fillA, if_true, Act.put]
                simp
                simp only [e5, e6]
                clear e5 e6
                go_wp2
                exact ⟨rfl, HCx.out.quiet (by decide) rfl⟩
              · intro L wx vals hi hu hcl hC
                simp [ClosedL, UpL, predL, predE, Region.binds] at hcl
                simp [predL, predE, Region.binds, UpL] at hu
                have hst : L 12 = false := by clear hC; cases h : L 12 with | false => rfl | true => exfalso; first | (simp_all; done) | grind
                have e7 : vals 7 = .pointer (some ⟨gL, k * 4, none⟩) := hC.v 7 (by decide) (by simp [hu])
                obtain rfl := hC.a hst
                have HCx := Lib.hid hC
                clear hC hcl hu hi hst
                simp only [fillA, if_true, Act.put]
                simp
                simp only [e7]
                clear e7
                go_wp2
                exact ⟨rfl, HCx.out.quiet (by decide) rfl⟩
              · intro L wx vals hi hu hcl hC
                simp [ClosedL, UpL, predL, predE, Region.binds] at hcl
                simp [predL, predE, Region.binds, UpL] at hu
                have hst : L 12 = false := by clear hC; cases h : L 12 with | false => rfl | true => exfalso; first | (simp_all; done) | grind
                have e8 : vals 8 = .pointer (some ⟨gL, k * 4 + 1, none⟩) := hC.v 8 (by decide) (by simp [hu])
                obtain rfl := hC.a hst
                have HCx := Lib.hid hC
                clear hC hcl hu hi hst
                simp only [fillA, if_true, Act.put]
                simp
                simp only [e8]
                clear e8
                go_wp2
                exact ⟨rfl, HCx.out.quiet (by decide) rfl⟩
              · intro L wx vals hi hu hcl hC
                simp [ClosedL, UpL, predL, predE, Region.binds] at hcl
                simp [predL, predE, Region.binds, UpL] at hu
                have hst : L 12 = false := by clear hC; cases h : L 12 with | false => rfl | true => exfalso; first | (simp_all; done) | grind
                have e1 : vals 1 = .int .i64 by_ := hC.v 1 (by decide) (by simp [hu])
                have e9 : vals 9 = .int .i64 en := hC.v 9 (by decide) (by simp [hu])
                obtain rfl := hC.a hst
                have HCx := Lib.hid hC
                clear hC hcl hu hi hst
                simp only [fillA, if_true, Act.put]
                simp
                simp only [e1, e9]
                clear e1 e9
                go_wp2
                exact ⟨rfl, HCx.out.quiet (by decide) rfl⟩
              · intro L wx vals hi hu hcl hC
                simp [ClosedL, UpL, predL, predE, Region.binds] at hcl
                have hst : L 12 = false := by clear hC; cases h : L 12 with | false => rfl | true => exfalso; first | (simp_all; done) | grind
                obtain rfl := hC.a hst
                have HCx := Lib.hid hC
                clear hC hcl hu hi hst
                simp only [fillA, if_true, Act.put]
                simp
                go_wp2
                exact ⟨rfl, HCx.out.quiet (by decide) rfl⟩
              · intro L wx vals hi hu hcl hC
                simp [ClosedL, UpL, predL, predE, Region.binds] at hcl
                simp [predL, predE, Region.binds, UpL] at hu
                have hst : L 12 = false := hi
                have e10 : vals 10 = .int .i64 (by_ + en) := hC.v 10 (by decide) (by simp [hu])
                have e11 : vals 11 = .pointer (some ⟨w.heap.size + 1, 4, none⟩) := hC.v 11 (by decide) (by simp [hu])
                obtain rfl := hC.a hst
                have HCx := Lib.hid hC
                clear hC hcl hu hi hst
                simp only [fillA, if_true, Act.put]
                simp
                simp only [e10, e11]
                clear e10 e11
                go_wp2
                exact ⟨rfl, HCx.out.write⟩
            · intro wz vals U hC hall
              have hz := hC.b (hall 12 (by simp))
              subst hz
              simp only [fillA, if_true, Act.put]
              simp
              clear hC hall v0 v1 v2 v3
              generalize vals 0 = t_0 at *
              generalize vals 1 = t_1 at *
              generalize vals 2 = t_2 at *
              generalize vals 3 = t_3 at *
              generalize vals 4 = t_4 at *
              generalize vals 5 = t_5 at *
              generalize vals 6 = t_6 at *
              generalize vals 7 = t_7 at *
              generalize vals 8 = t_8 at *
              generalize vals 9 = t_9 at *
              generalize vals 10 = t_10 at *
              generalize vals 11 = t_11 at *
              go_wp2
              go_roundw
              case rel => exact ⟨k + 1, by omega, by go_num, HT2⟩
              case measure => simp [intOf]; omega
          · by_cases h4 : es = 4
            · subst h4
              simp at n1 n2 n3 n4
              have HT2 := Lib.hid (show StT w ((wr.setCell ⟨w.heap.size + 1, 1, none⟩ (.int .i64 (a + 1))).setCell ⟨w.heap.size + 1, 3, none⟩ (.int .i64 (rr + p + 1))) (stA fn (lfC (l.take (k + 1)) (fun e => e.f == (fn : Int))) (lfC (l.take (k + 1)) (fun e => e.f == (fn : Int) && e.s == 3)) (rr + lfC (l.take (k + 1)) (fun e => e.f == (fn : Int) && e.s == 4)) (lfBy (l.take (k + 1)) fn) 0) from by
                rw [n1, n2, n3, n4, ← Int.add_assoc]
                exact (HT.out.put 1 (.int .i64 (a + 1))).put 3 (.int .i64 (rr + p + 1)))
              clear n1 n2 n3 n4 HT HP
              go_wp2
              go_roundw
              case rel => exact ⟨k + 1, by omega, by go_num, HT2⟩
              case measure => simp [intOf]; omega
            · have h30 : (es == 3) = false := by simpa using h3
              have h40 : (es == 4) = false := by simpa using h4
              rw [h30] at n2 n4
              rw [h40] at n3
              simp at n1 n2 n3 n4
              have HT2 := Lib.hid (show StT w (wr.setCell ⟨w.heap.size + 1, 1, none⟩ (.int .i64 (a + 1))) (stA fn (lfC (l.take (k + 1)) (fun e => e.f == (fn : Int))) (lfC (l.take (k + 1)) (fun e => e.f == (fn : Int) && e.s == 3)) (rr + lfC (l.take (k + 1)) (fun e => e.f == (fn : Int) && e.s == 4)) (lfBy (l.take (k + 1)) fn) 0) from by
                rw [n1, n2, n3, n4]
                exact HT.out.put 1 (.int .i64 (a + 1)))
              clear n1 n2 n3 n4 HT HP
              go_wp2
              go_roundw
              case rel => exact ⟨k + 1, by omega, by go_num, HT2⟩
              case measure => simp [intOf]; omega
      · obtain rfl : k = n := by omega
        have h9 := HT.out
        rw [HEN.out] at h9
        obtain ⟨⟨x0, x1, x2, x3, x4, x5⟩, _⟩ := h9.cells
        obtain ⟨⟨y0, y1, y2, y3, y4, y5⟩, yf⟩ := h9.res
        have f0 := yf 0
        have f1 := yf 1
        have f2 := yf 2
        have f3 := yf 3
        have f4 := yf 4
        have f5 := yf 5
        have HX := Lib.hid (fun (a b c d e f : Int) => six_put (w := w) h9.r h9.b (Nat.le_refl _) a b c d e f rfl)
        have HXX := Lib.hid (HX.out fn (lfC l (fun e => e.f == (fn : Int))) (lfC l (fun e => e.f == (fn : Int) && e.s == 3)) (rr + lfC l (fun e => e.f == (fn : Int) && e.s == 4)) (lfBy l (fn : Int)) 0)
        clear HR HN1 HN2 HN3 HN4 HT HEN HOK yf h9 HBB HX
        go_wp2
        obtain ⟨hcell, hbl⟩ := HXX.out
        have k0 := (hcell 0).trans (rfl : _ = some (Value.int .i64 fn))
        have k1 := (hcell 1).trans (rfl : _ = some (Value.int .i64 (lfC l (fun e => e.f == (fn : Int)))))
        have k2 := (hcell 2).trans (rfl : _ = some (Value.int .i64 (lfC l (fun e => e.f == (fn : Int) && e.s == 3))))
        have k3 := (hcell 3).trans (rfl : _ = some (Value.int .i64 (rr + lfC l (fun e => e.f == (fn : Int) && e.s == 4))))
        have k4 := (hcell 4).trans (rfl : _ = some (Value.int .i64 (lfBy l (fn : Int))))
        have k5 := (hcell 5).trans (rfl : _ = some (Value.int .i64 0))
        exact bodyPost_ret (v := .agg #[.int .i64 fn, .int .i64 (lfC l (fun e => e.f == (fn : Int))), .int .i64 (lfC l (fun e => e.f == (fn : Int) && e.s == 3)), .int .i64 (rr + lfC l (fun e => e.f == (fn : Int) && e.s == 4)), .int .i64 (lfBy l (fn : Int)), .int .i64 0]) (by simp [results, Try.results14, go_sem, k0, k1, k2, k3, k4, k5]) rfl ⟨rfl, hbl⟩
end Go.Proofs.Ytkhngfadhfomoaa

