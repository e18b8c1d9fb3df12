/-
  Layer 14: Worst, the program's and the reference's. Written by gen_fawor.py.
-/
import Derived.Test.YtcdeecigiijabaaFaLst
namespace Go.Proofs.Ytcdeecigiijabaa
open Go.ChangeShapes Go.WideShapes Go.ChangeAt Go.RowKit
set_option linter.unusedVariables false

/-! ### the pair that is least fair, found by two nested loops -/
structure Wo where
  p : Nat
  q : Nat
  e : Int
def upW (f : Nat → Nat → Int) (i j : Nat) (s : Wo) : Wo := if s.e < f i j then ⟨i, j, f i j⟩ else s
def inW (f : Nat → Nat → Int) (i : Nat) (s : Wo) : Nat → Wo
  | 0 => s
  | n + 1 => upW f i (i + 1 + n) (inW f i s n)
def ouW (f : Nat → Nat → Int) (m : Nat) (s : Wo) : Nat → Wo
  | 0 => s
  | n + 1 => inW f n (ouW f m s n) (m - 1 - n)
theorem in_same {f : Nat → Nat → Int} (hf : -4611686018427387904 < f 0 1) : ∀ n, inW f 0 ⟨0, 1, f 0 1⟩ (n + 1) = inW f 0 ⟨0, 1, -4611686018427387904⟩ (n + 1)
  | 0 => by
    show upW f 0 (0 + 1 + 0) ⟨0, 1, f 0 1⟩ = upW f 0 (0 + 1 + 0) ⟨0, 1, -4611686018427387904⟩
    unfold upW
    simp only [Nat.zero_add, Nat.add_zero]
    rw [if_neg (by omega), if_pos hf]
  | n + 1 => by
    show upW f 0 (0 + 1 + (n + 1)) (inW f 0 ⟨0, 1, f 0 1⟩ (n + 1)) = upW f 0 (0 + 1 + (n + 1)) (inW f 0 ⟨0, 1, -4611686018427387904⟩ (n + 1))
    rw [in_same hf n]
theorem ou_same {f : Nat → Nat → Int} (hf : -4611686018427387904 < f 0 1) {m : Nat} (hm : 2 ≤ m) : ∀ n, ouW f m ⟨0, 1, f 0 1⟩ (n + 1) = ouW f m ⟨0, 1, -4611686018427387904⟩ (n + 1)
  | 0 => by
    show inW f 0 ⟨0, 1, f 0 1⟩ (m - 1 - 0) = inW f 0 ⟨0, 1, -4611686018427387904⟩ (m - 1 - 0)
    obtain ⟨k, hk⟩ : ∃ k, m - 1 - 0 = k + 1 := ⟨m - 2, by omega⟩
    rw [hk]; exact in_same hf k
  | n + 1 => by
    show inW f (n + 1) (ouW f m ⟨0, 1, f 0 1⟩ (n + 1)) (m - 1 - (n + 1)) = inW f (n + 1) (ouW f m ⟨0, 1, -4611686018427387904⟩ (n + 1)) (m - 1 - (n + 1))
    rw [ou_same hf hm n]
/-- The gap minus the bound of two samples of a list. -/
def exF (L : List Sp) (i j : Nat) : Int := exI (L.getD i ⟨0, 0, 0⟩) (L.getD j ⟨0, 0, 0⟩)
theorem exF_at {L : List Sp} {i j : Nat} (hi : i < L.length) (hj : j < L.length) : exF L i j = exI L[i] L[j] := by
  unfold exF
  rw [List.getD_eq_getElem?_getD, List.getElem?_eq_getElem hi, List.getD_eq_getElem?_getD, List.getElem?_eq_getElem hj]; rfl
theorem ex_bd {a b : Sp} (h1 : spB a = true) (h2 : spB b = true) : -5904138240 ≤ exI a b ∧ exI a b ≤ 1547734414786560 := by
  have := ga_bd h1 h2
  have := bo_bd h1 h2
  unfold exI; omega
def woT (L : List Sp) : Wo := ouW (exF L) L.length ⟨0, 1, exF L 0 1⟩ L.length
def woR (L : List Sp) : Wo := ouW (exF L) L.length ⟨0, 1, -4611686018427387904⟩ L.length
theorem wo_same {L : List Sp} (hv : vsB L = true) (h2 : 2 ≤ L.length) : woR L = woT L := by
  have hb := ex_bd ((vs_yes hv).1 0 (by omega)) ((vs_yes hv).1 1 (by omega))
  obtain ⟨k, hk⟩ : ∃ k, L.length = k + 1 := ⟨L.length - 1, by omega⟩
  unfold woT woR
  conv => lhs; arg 4; rw [hk]
  conv => rhs; arg 4; rw [hk]
  exact (ou_same (by rw [exF_at (by omega) (by omega)]; omega) h2 k).symm
def woP (L : List Sp) : Int := if ckE L 2 = 0 then ((woT L).p : Int) else 0
def woQ (L : List Sp) : Int := if ckE L 2 = 0 then ((woT L).q : Int) else 0
theorem wo_no {L : List Sp} (h : ckE L 2 ≠ 0) : woP L = 0 ∧ woQ L = 0 := by unfold woP woQ; rw [if_neg h, if_neg h]; exact ⟨rfl, rfl⟩
theorem wo_yes {L : List Sp} (h : ckE L 2 = 0) : woP L = (woT L).p ∧ woQ L = (woT L).q := by unfold woP woQ; rw [if_pos h, if_pos h]; exact ⟨rfl, rfl⟩
theorem ck_yes {L : List Sp} {n : Nat} (h : ckE L n = 0) : vsB L = true ∧ n ≤ L.length := by
  cases hv : vsB L with
  | false => rw [ck_bad hv] at h; omega
  | true =>
    refine ⟨rfl, ?_⟩
    by_cases h2 : L.length < n
    · rw [ck_few hv h2] at h; omega
    · omega
/-- What an outer round starts with, and what its rounds are. -/
theorem up_yes {f : Nat → Nat → Int} {i j : Nat} {s : Wo} {e : Int} (he : f i j = e) (h : s.e < e) : upW f i j s = ⟨i, j, e⟩ := by unfold upW; rw [he, if_pos h]
theorem up_no {f : Nat → Nat → Int} {i j : Nat} {s : Wo} {e : Int} (he : f i j = e) (h : ¬ s.e < e) : upW f i j s = s := by unfold upW; rw [he, if_neg h]
/-- Two samples of a list, whatever has been made since. -/
theorem two_at {L1 B1 : Nat} {A : Option Addr} {L : List Sp} {w : World} (ha : SrAt csP 3 w L1 B1 A L) (hB1 : B1 ≤ w.heap.size) {i j : Nat} (hi : i < L.length) (hj : j < L.length) {bb off : Nat} (hA : A = some ⟨bb, off, none⟩) : ∀ W, Below w.heap.size w W →
    W.cell? ⟨bb, off + i * 3, none⟩ = some (.int .i64 L[i].w) ∧ W.cell? ⟨bb, off + i * 3 + 1, none⟩ = some (.int .i64 L[i].b) ∧ W.cell? ⟨bb, off + i * 3 + 2, none⟩ = some (.int .i64 L[i].m) ∧
    W.cell? ⟨bb, off + j * 3, none⟩ = some (.int .i64 L[j].w) ∧ W.cell? ⟨bb, off + j * 3 + 1, none⟩ = some (.int .i64 L[j].b) ∧ W.cell? ⟨bb, off + j * 3 + 2, none⟩ = some (.int .i64 L[j].m) := by
  intro W hW
  obtain ⟨b1, o1, e1, _, hb1, c0, c1, c2⟩ := ha.sp hi
  obtain ⟨b2, o2, e2, _, _, d0, d1, d2⟩ := ha.sp hj
  rw [hA] at e1 e2
  obtain ⟨rfl, rfl⟩ : bb = b1 ∧ off = o1 := by simpa using e1
  obtain ⟨rfl, rfl⟩ : bb = b2 ∧ off = o2 := by simpa using e2
  have hlt : bb < w.heap.size := by omega
  exact ⟨(hW.cell (p := ⟨bb, _, none⟩) hlt).trans c0, (hW.cell (p := ⟨bb, _, none⟩) hlt).trans c1, (hW.cell (p := ⟨bb, _, none⟩) hlt).trans c2, (hW.cell (p := ⟨bb, _, none⟩) hlt).trans d0, (hW.cell (p := ⟨bb, _, none⟩) hlt).trans d1, (hW.cell (p := ⟨bb, _, none⟩) hlt).trans d2⟩
set_option maxRecDepth 100000 in
set_option maxHeartbeats 8000000 in
theorem pworst_any (A : Option Addr) (c : Nat) (L : List Sp) (L1 B1 : Nat) (w : World) (hB1 : B1 ≤ w.heap.size) (hn : L.length ≤ 100000) (ha : SrAt csP 3 w L1 B1 A L) :
    Calls Try.prog 27 #[.slice A L.length c] w (Calm (.tuple #[.int .i64 (woP L), .int .i64 (woQ L), .int .i64 (ckE L 2)]) w) := by
  have HC := check_any A c L 2 L1 B1 w hB1 hn (by omega) ha
  rw [show ((2 : Nat) : Int) = 2 from rfl] at HC
  by_cases hE : ckE L 2 = 0
  · obtain ⟨hv, h2⟩ := ck_yes hE
    obtain ⟨hvs, h32⟩ := vs_yes hv
    obtain ⟨e1, e2⟩ := wo_yes hE
    rw [hE] at HC ⊢
    rw [e1, e2]
    obtain ⟨bb, off, rfl, -⟩ := ha.sp (k := 0) (by omega)
    have HTA := Lib.hid (fun i j (hi : i < L.length) (hj : j < L.length) => two_at ha hB1 hi hj rfl)
    have HEX := Lib.hid (fun i j (hi : i < L.length) (hj : j < L.length) (W : World) => pexcess_any L[i] L[j] (hvs i hi) (hvs j hj) W)
    have HEF := Lib.hid (fun i j (hi : i < L.length) (hj : j < L.length) => exF_at (L := L) hi hj)
    obtain ⟨N, hN⟩ : ∃ N, L.length = N := ⟨_, rfl⟩
    have h1L : 1 < L.length := by omega
    have hcc := HTA.out 0 1 (by omega) h1L
    have hee := HEX.out 0 1 (by omega) h1L
    have hef := HEF.out 0 1 (by omega) h1L
    have HT : Hid (woT L = ouW (exF L) N ⟨0, 1, exF L 0 1⟩ N) := Lib.hid (by unfold woT; rw [hN])
    obtain ⟨x, hx⟩ : ∃ x, L[0] = x := ⟨_, rfl⟩
    obtain ⟨y, hy⟩ : ∃ y, L[1] = y := ⟨_, rfl⟩
    obtain ⟨e01, he01⟩ : ∃ e, exI x y = e := ⟨_, rfl⟩
    rw [hx, hy] at hcc hee hef
    rw [he01] at hee hef
    obtain ⟨x0, x1, x2⟩ := x
    obtain ⟨y0, y1, y2⟩ := y
    simp only [Nat.zero_mul, Nat.one_mul, Nat.add_zero] at hcc
    rw [hef] at HT
    have HFA := Lib.hid hcc
    have HEE := Lib.hid hee
    have HN0 := Lib.hid hN
    rw [hN] at HC
    rw [show (Value.slice (some ⟨bb, off, none⟩) L.length c) = .slice (some ⟨bb, off, none⟩) N c by rw [hN]]
    have h2' : (2 : Int) ≤ N := by omega
    have h32' : N ≤ 32 := by omega
    have HC := Lib.hid HC
    clear hcc hee hef hx hy he01 hv hvs e1 e2 hE ha hN h1L h32 h2
    unfold Calm aggSp at *
    go_enter Try.func27, Try.ntmps27
    go_wp2_with fail
    (with_reducible refine HC.out.mono ?_); rintro e w1 ⟨rfl, hb⟩
    have HB1 := Lib.hid hb
    have HC4 := Lib.hid (fun (W : World) (hw : Below w1.drew.heap.size w1.drew W) => HFA.out W (HB1.out.trans (((Below.refl _ w1).drew.trans hw).mono HB1.out.size)))
    have HE4 := Lib.hid (fun (W : World) (hw : Below w1.drew.heap.size w1.drew W) => HEE.out W)
    clear hb HC HFA HEE
    go_wp2_with fail
    refine wp_region_looseS 55 (by kernel_rfl) (by kernel_rfl) (StB w1.drew (fun vI => [.slice (some ⟨bb, off, none⟩) N c, .pointer (some ⟨bb, off, none⟩), .agg #[.int .i64 x0, .int .i64 x1, .int .i64 x2], .slice (some ⟨bb, off, none⟩) N c, .pointer (some ⟨bb, off + 3, none⟩), .agg #[.int .i64 y0, .int .i64 y1, .int .i64 y2], .int .i64 e01, .int .i64 e01].getD vI undef)) rfl StB.start ?_ ?_
    · simp only [OblAllS]
      refine ⟨?_, ?_, ?_, ?_, ?_, ?_, ?_, ?_, trivial⟩
      · intro L wx vals hi hu hcl hC
        have HCx := Lib.hid hC
        clear hC hcl hu hi
        simp only [fillA, if_true, Act.put]
        simp
        go_wp2
        exact ⟨rfl, HCx.out.quiet 0 rfl⟩
      · intro L wx vals hi hu hcl hC
        simp [predL, predE, Region.binds, UpL] at hu
        have e0 : vals 0 = .slice (some ⟨bb, off, none⟩) N c := hC.v 0 (by simp [hu])
        have HCx := Lib.hid hC
        clear hC hcl hu hi
        simp only [fillA, if_true, Act.put]
        simp
        simp only [e0]
        clear e0
        go_wp2
        exact ⟨rfl, HCx.out.quiet 1 rfl⟩
      · intro L wx vals hi hu hcl hC
        simp [predL, predE, Region.binds, UpL] at hu
        have e1 : vals 1 = .pointer (some ⟨bb, off, none⟩) := hC.v 1 (by simp [hu])
        have h0 := (HC4.out wx hC.b).1
        have h1 := (HC4.out wx hC.b).2.1
        have h2 := (HC4.out wx hC.b).2.2.1
        have HCx := Lib.hid hC
        clear hC hcl hu hi
        simp only [fillA, if_true, Act.put]
        simp
        simp only [e1]
        clear e1
        go_wp2
        exact ⟨rfl, HCx.out.quiet 2 rfl⟩
      · intro L wx vals hi hu hcl hC
        have HCx := Lib.hid hC
        clear hC hcl hu hi
        simp only [fillA, if_true, Act.put]
        simp
        go_wp2
        exact ⟨rfl, HCx.out.quiet 3 rfl⟩
      · intro L wx vals hi hu hcl hC
        simp [predL, predE, Region.binds, UpL] at hu
        have e3 : vals 3 = .slice (some ⟨bb, off, none⟩) N c := hC.v 3 (by simp [hu])
        have HCx := Lib.hid hC
        clear hC hcl hu hi
        simp only [fillA, if_true, Act.put]
        simp
        simp only [e3]
        clear e3
        go_wp2
        exact ⟨rfl, HCx.out.quiet 4 rfl⟩
      · intro L wx vals hi hu hcl hC
        simp [predL, predE, Region.binds, UpL] at hu
        have e4 : vals 4 = .pointer (some ⟨bb, off + 3, none⟩) := hC.v 4 (by simp [hu])
        have h0 := (HC4.out wx hC.b).2.2.2.1
        have h1 := (HC4.out wx hC.b).2.2.2.2.1
        have h2 := (HC4.out wx hC.b).2.2.2.2.2
        have HCx := Lib.hid hC
        clear hC hcl hu hi
        simp only [fillA, if_true, Act.put]
        simp
        simp only [e4]
        clear e4
        go_wp2
        exact ⟨rfl, HCx.out.quiet 5 rfl⟩
      · intro L wx vals hi hu hcl hC
        simp [predL, predE, Region.binds, UpL] at hu
        have e2 : vals 2 = .agg #[.int .i64 x0, .int .i64 x1, .int .i64 x2] := hC.v 2 (by simp [hu])
        have e5 : vals 5 = .agg #[.int .i64 y0, .int .i64 y1, .int .i64 y2] := hC.v 5 (by simp [hu])
        have HL := Lib.hid (HE4.out wx hC.b)
        have HCx := Lib.hid hC
        clear hC hcl hu hi
        simp only [fillA, if_true, Act.put]
        simp
        simp only [e2, e5]
        clear e2 e5
        go_wp2_with fail
        (with_reducible refine HL.out.mono ?_); rintro e w9 ⟨rfl, hb⟩
        have HX := Lib.hid (HCx.out.step 6 (x := .int .i64 e01) rfl (HCx.out.b.trans (hb.mono HCx.out.b.size)))
        clear hb
        go_wp2
        exact ⟨rfl, HX.out⟩
      · intro L wx vals hi hu hcl hC
        simp [predL, predE, Region.binds, UpL] at hu
        have e6 : vals 6 = .int .i64 e01 := hC.v 6 (by simp [hu])
        have HCx := Lib.hid hC
        clear hC hcl hu hi
        simp only [fillA, if_true, Act.put]
        simp
        simp only [e6]
        clear e6
        go_wp2
        exact ⟨rfl, HCx.out.quiet 7 rfl⟩
    · intro wz vals U hC hall
      have e7 : vals 7 = .int .i64 e01 := hC.v 7 (hall 7 (by simp))
      have hbz := (Below.refl _ w1).drew.trans hC.b
      simp only [fillA, if_true, Act.put]
      simp
      simp only [e7]
      clear hC hall e7
      generalize vals 0 = g0 at *
      generalize vals 1 = g1 at *
      generalize vals 2 = g2 at *
      generalize vals 3 = g3 at *
      generalize vals 4 = g4 at *
      generalize vals 5 = g5 at *
      generalize vals 6 = g6 at *
      have HB2 := Lib.hid (HB1.out.trans (hbz.mono HB1.out.size))
      clear hbz HB1 HC4 HE4
      go_wp2_with fail
      go_loopw [6, 7, 8, 26] (fun s6 s7 s8 s26 wr => ∃ (i : Nat) (s : Wo), i ≤ N ∧ s26 = .int .i64 i ∧ s6 = .int .i64 s.p ∧ s7 = .int .i64 s.q ∧ s8 = .int .i64 s.e ∧ Hid (ouW (exF L) N ⟨0, 1, e01⟩ i = s) ∧ Hid (Below w.heap.size w wr)) (fun _ _ _ s26 _ => N - (intOf s26).toNat)
      case atStart => exact ⟨0, ⟨0, 1, e01⟩, by omega, rfl, rfl, rfl, rfl, Lib.hid rfl, HB2⟩
      case round =>
        obtain ⟨i, s, hi, rfl, rfl, rfl, rfl, HS, HB⟩ := hrel
        clear HB2
        by_cases hlt : i < N
        · have hlt' : (i : Int) < N := by omega
          have hwi : IntKind.i64.wrap ((i : Int) + 1) = (i : Int) + 1 := IntWalk.i64_in _ (by omega)
          obtain ⟨wo, rfl⟩ : ∃ wo : World, wo = wr := ⟨_, rfl⟩
          go_wp2_with fail
          go_loopw [6, 7, 8, 10] (fun s6 s7 s8 s10 wr => ∃ (n : Nat) (t : Wo), i + 1 + n ≤ N ∧ s10 = .int .i64 ((i + 1 + n : Nat) : Int) ∧ s6 = .int .i64 t.p ∧ s7 = .int .i64 t.q ∧ s8 = .int .i64 t.e ∧ Hid (inW (exF L) i s n = t) ∧ Hid (Below w.heap.size w wr)) (fun _ _ _ s10 _ => N - (intOf s10).toNat)
          case atStart => exact ⟨0, s, by omega, by go_num, rfl, rfl, rfl, Lib.hid rfl, HB⟩
          case round =>
            obtain ⟨n, t, hnN, rfl, rfl, rfl, rfl, HT2, HB3⟩ := hrel
            clear HB
            obtain ⟨j, hj⟩ : ∃ j, i + 1 + n = j := ⟨_, rfl⟩
            rw [hj]
            have HJ := Lib.hid hj
            by_cases hlt2 : j < N
            · have hlt2' : (j : Int) < N := by omega
              have hiL : i < L.length := by have := HN0.out; omega
              have hjL : j < L.length := by have := HN0.out; omega
              have hcc := HTA.out i j hiL hjL
              have hee := HEX.out i j hiL hjL
              have hef := HEF.out i j hiL hjL
              obtain ⟨x, hx⟩ : ∃ x, L[i] = x := ⟨_, rfl⟩
              obtain ⟨y, hy⟩ : ∃ y, L[j] = y := ⟨_, rfl⟩
              obtain ⟨ex, hex⟩ : ∃ e, exI x y = e := ⟨_, rfl⟩
              rw [hx, hy] at hcc hee hef
              rw [hex] at hee hef
              obtain ⟨x0, x1, x2⟩ := x
              obtain ⟨y0, y1, y2⟩ := y
              simp only at hcc
              simp only at hee
              have HC4 := Lib.hid (fun (W : World) (hw : Below wr.drew.heap.size wr.drew W) => hcc W (HB3.out.trans (((Below.refl _ wr).drew.trans hw).mono HB3.out.size)))
              have HE4 := Lib.hid (fun (W : World) (hw : Below wr.drew.heap.size wr.drew W) => hee W)
              have HUY := Lib.hid (fun (h : t.e < ex) => (show inW (exF L) i s (n + 1) = ⟨i, j, ex⟩ by show upW (exF L) i (i + 1 + n) (inW (exF L) i s n) = _; rw [HT2.out, HJ.out]; exact up_yes hef h))
              have HUN := Lib.hid (fun (h : ¬ t.e < ex) => (show inW (exF L) i s (n + 1) = t by show upW (exF L) i (i + 1 + n) (inW (exF L) i s n) = _; rw [HT2.out, HJ.out]; exact up_no hef h))
              clear hcc hee hef hx hy hex hj HT2
              go_wp2_with fail
              refine wp_region_looseS 55 (by kernel_rfl) (by kernel_rfl) (StB wr.drew (fun vI => [.slice (some ⟨bb, off, none⟩) N c, .int .i64 (i : Nat), .pointer (some ⟨bb, off + i * 3, none⟩), .agg #[.int .i64 x0, .int .i64 x1, .int .i64 x2], .slice (some ⟨bb, off, none⟩) N c, .int .i64 (j : Nat), .pointer (some ⟨bb, off + j * 3, none⟩), .agg #[.int .i64 y0, .int .i64 y1, .int .i64 y2], .int .i64 ex, .int .i64 ex].getD vI undef)) rfl StB.start ?_ ?_
              · simp only [OblAllS]
                refine ⟨?_, ?_, ?_, ?_, ?_, ?_, ?_, ?_, ?_, ?_, trivial⟩
                · intro L wx vals hi hu hcl hC
                  have HCx := Lib.hid hC
                  clear hC hcl hu hi
                  simp only [fillA, if_true, Act.put]
                  simp
                  go_wp2
                  exact ⟨rfl, HCx.out.quiet 0 rfl⟩
                · intro L wx vals hi hu hcl hC
                  have HCx := Lib.hid hC
                  clear hC hcl hu hi
                  simp only [fillA, if_true, Act.put]
                  simp
                  go_wp2
                  exact ⟨rfl, HCx.out.quiet 1 rfl⟩
                · intro L wx vals hi hu hcl hC
                  simp [predL, predE, Region.binds, UpL] at hu
                  have e0 : vals 0 = .slice (some ⟨bb, off, none⟩) N c := hC.v 0 (by simp [hu])
                  have e1 : vals 1 = .int .i64 (i : Nat) := hC.v 1 (by simp [hu])
                  have HCx := Lib.hid hC
                  clear hC hcl hu hi
                  simp only [fillA, if_true, Act.put]
                  simp
                  simp only [e0, e1]
                  clear e0 e1
                  go_wp2
                  exact ⟨rfl, HCx.out.quiet 2 rfl⟩
                · intro L wx vals hi hu hcl hC
                  simp [predL, predE, Region.binds, UpL] at hu
                  have e2 : vals 2 = .pointer (some ⟨bb, off + i * 3, none⟩) := hC.v 2 (by simp [hu])
                  have h0 := (HC4.out wx hC.b).1
                  have h1 := (HC4.out wx hC.b).2.1
                  have h2 := (HC4.out wx hC.b).2.2.1
                  have HCx := Lib.hid hC
                  clear hC hcl hu hi
                  simp only [fillA, if_true, Act.put]
                  simp
                  simp only [e2]
                  clear e2
                  go_wp2
                  exact ⟨rfl, HCx.out.quiet 3 rfl⟩
                · intro L wx vals hi hu hcl hC
                  have HCx := Lib.hid hC
                  clear hC hcl hu hi
                  simp only [fillA, if_true, Act.put]
                  simp
                  go_wp2
                  exact ⟨rfl, HCx.out.quiet 4 rfl⟩
                · intro L wx vals hi hu hcl hC
                  have HCx := Lib.hid hC
                  clear hC hcl hu hi
                  simp only [fillA, if_true, Act.put]
                  simp
                  go_wp2
                  exact ⟨rfl, HCx.out.quiet 5 rfl⟩
                · intro L wx vals hi hu hcl hC
                  simp [predL, predE, Region.binds, UpL] at hu
                  have e4 : vals 4 = .slice (some ⟨bb, off, none⟩) N c := hC.v 4 (by simp [hu])
                  have e5 : vals 5 = .int .i64 (j : Nat) := hC.v 5 (by simp [hu])
                  have HCx := Lib.hid hC
                  clear hC hcl hu hi
                  simp only [fillA, if_true, Act.put]
                  simp
                  simp only [e4, e5]
                  clear e4 e5
                  go_wp2
                  exact ⟨rfl, HCx.out.quiet 6 rfl⟩
                · intro L wx vals hi hu hcl hC
                  simp [predL, predE, Region.binds, UpL] at hu
                  have e6 : vals 6 = .pointer (some ⟨bb, off + j * 3, none⟩) := hC.v 6 (by simp [hu])
                  have h0 := (HC4.out wx hC.b).2.2.2.1
                  have h1 := (HC4.out wx hC.b).2.2.2.2.1
                  have h2 := (HC4.out wx hC.b).2.2.2.2.2
                  have HCx := Lib.hid hC
                  clear hC hcl hu hi
                  simp only [fillA, if_true, Act.put]
                  simp
                  simp only [e6]
                  clear e6
                  go_wp2
                  exact ⟨rfl, HCx.out.quiet 7 rfl⟩
                · intro L wx vals hi hu hcl hC
                  simp [predL, predE, Region.binds, UpL] at hu
                  have e3 : vals 3 = .agg #[.int .i64 x0, .int .i64 x1, .int .i64 x2] := hC.v 3 (by simp [hu])
                  have e7 : vals 7 = .agg #[.int .i64 y0, .int .i64 y1, .int .i64 y2] := hC.v 7 (by simp [hu])
                  have HL := Lib.hid (HE4.out wx hC.b)
                  have HCx := Lib.hid hC
                  clear hC hcl hu hi
                  simp only [fillA, if_true, Act.put]
                  simp
                  simp only [e3, e7]
                  clear e3 e7
                  go_wp2_with fail
                  (with_reducible refine HL.out.mono ?_); rintro e w9 ⟨rfl, hb⟩
                  have HX := Lib.hid (HCx.out.step 8 (x := .int .i64 ex) rfl (HCx.out.b.trans (hb.mono HCx.out.b.size)))
                  clear hb
                  go_wp2
                  exact ⟨rfl, HX.out⟩
                · intro L wx vals hi hu hcl hC
                  simp [predL, predE, Region.binds, UpL] at hu
                  have e8 : vals 8 = .int .i64 ex := hC.v 8 (by simp [hu])
                  have HCx := Lib.hid hC
                  clear hC hcl hu hi
                  simp only [fillA, if_true, Act.put]
                  simp
                  simp only [e8]
                  clear e8
                  go_wp2
                  exact ⟨rfl, HCx.out.quiet 9 rfl⟩
              · intro wz vals U hC hall
                have e9 : vals 9 = .int .i64 ex := hC.v 9 (hall 9 (by simp))
                have hbz := (Below.refl _ wr).drew.trans hC.b
                simp only [fillA, if_true, Act.put]
                simp
                simp only [e9]
                clear hC hall e9
                generalize vals 0 = g0 at *
                generalize vals 1 = g1 at *
                generalize vals 2 = g2 at *
                generalize vals 3 = g3 at *
                generalize vals 4 = g4 at *
                generalize vals 5 = g5 at *
                generalize vals 6 = g6 at *
                generalize vals 7 = g7 at *
                generalize vals 8 = g8 at *
                have HB4 := Lib.hid (HB3.out.trans (hbz.mono HB3.out.size))
                clear hbz HB3 HC4 HE4
                have hj1 : ((j : Int) + 1) = ((i + 1 + (n + 1) : Nat) : Int) := by have := HJ.out; omega
                have hwj : IntKind.i64.wrap ((j : Int) + 1) = ((i + 1 + (n + 1) : Nat) : Int) := by rw [← hj1]; exact IntWalk.i64_in _ (by omega)
                have hnn : i + 1 + (n + 1) ≤ N := by have := HJ.out; omega
                clear hj1
                by_cases hgt : t.e < ex
                · have HT3 := Lib.hid (HUY.out hgt)
                  clear HUY HUN
                  go_wp2
                  go_roundw
                  case rel => exact ⟨n + 1, ⟨i, j, ex⟩, hnn, rfl, rfl, rfl, rfl, HT3, HB4⟩
                  case measure => have hJJ := HJ.out; simp [intOf]; omega
                · have HT3 := Lib.hid (HUN.out (by omega))
                  clear HUY HUN
                  go_wp2
                  go_roundw
                  case rel => exact ⟨n + 1, t, hnn, rfl, rfl, rfl, rfl, HT3, HB4⟩
                  case measure => have hJJ := HJ.out; simp [intOf]; omega
            · have hnx : n = N - 1 - i := by have := HJ.out; omega
              have HS2 : Hid (ouW (exF L) N ⟨0, 1, e01⟩ (i + 1) = t) := Lib.hid (by
                show inW (exF L) i (ouW (exF L) N ⟨0, 1, e01⟩ i) (N - 1 - i) = t
                rw [HS.out, ← hnx]; exact HT2.out)
              clear HS HT2 HJ hnx hnN hj
              go_wp2
              go_roundw
              case rel => exact ⟨i + 1, t, by omega, by go_num, rfl, rfl, rfl, HS2, HB3⟩
              case measure => simp [intOf]; omega
        · obtain rfl : i = N := by omega
          have HF : Hid (woT L = s) := Lib.hid (HT.out.trans HS.out)
          clear HS HT
          go_wp2
          go_ret3
          exact ⟨by rw [HF.out]; rfl, HB.out⟩
  · obtain ⟨e1, e2⟩ := wo_no hE
    rw [e1, e2]
    generalize ckE L 2 = E at *
    have HC := Lib.hid HC
    have hE1 : (E != 0) = true := by simpa using hE
    clear e1 e2 ha
    unfold Calm at *
    go_enter Try.func27, Try.ntmps27
    go_wp2_with fail
    (with_reducible refine HC.out.mono ?_); rintro e w1 ⟨rfl, hb⟩
    have HB1 := Lib.hid hb
    clear hb HC
    go_wp2
    go_ret3
    exact ⟨rfl, HB1.out⟩
end Go.Proofs.Ytcdeecigiijabaa

