/-
  Layer 17: contract of the reference's insert. Written by gen_rcref2.py.
-/
import Derived.Test.YthmncipenjhknaaRcRef
namespace Go.Proofs.Ythmncipenjhknaa
open Go.ChangeShapes Go.WideShapes Go.ChangeAt Go.RowKit
set_option linter.unusedVariables false

/-- append([]T{}, l[:i]...), append(.., x), append(.., l[i:]...). -/
theorem Elt.ins {α : Type} {cs : α → List Value} {m : Nat} {t TY : TypeId} (E : Elt cs m t TY) {wb : World} {T : Nat → Prop} {A : Option Addr} {c i : Nat} {l : List α} (hl : LsG cs m t wb T (.slice A l.length c) l) (hT : ∀ k, T k → k < wb.heap.size) (hn : l.length ≤ 99999) (hi : i ≤ l.length) (x : α) :
    ∃ A1 c1 w1 A2 c2 w2 A3 c3 w3, (Builtin.append_ #[TY, TY] TY #[.slice (some ⟨wb.heap.size, 0, none⟩) 0 0, .slice A i c]).run Try.prog (wb.alloc (.cells #[] t)) = .ok (.slice A1 i c1) w1 ∧
      (Builtin.append_ #[TY, TY] TY #[.slice A1 i c1, .slice (some ⟨w1.heap.size, 0, none⟩) 1 1]).run Try.prog (w1.alloc (.cells (cs x).toArray t)) = .ok (.slice A2 (i + 1) c2) w2 ∧
      (Builtin.append_ #[TY, TY] TY #[.slice A2 (i + 1) c2, dropG m (.slice A l.length c) i]).run Try.prog w2 = .ok (.slice A3 (l.length + 1) c3) w3 ∧
      Below wb.heap.size wb w1 ∧ Below wb.heap.size wb w2 ∧ Below wb.heap.size wb w3 ∧ w3.ownsRow wb.heap.size t m (.slice A3 (l.length + 1) c3) (l.length + 1) (srs cs (l.take i ++ x :: l.drop i)) := by
  obtain ⟨A', c', e1, e2, e3⟩ := hl.take hi
  obtain ⟨rfl, rfl⟩ : A = A' ∧ c = c' := by simpa using e1
  have hlt : (l.take i).length = i := by rw [List.length_take]; omega
  obtain ⟨A1, c1, w1, run1, own1, hb1⟩ := E.copy e3 hT (by omega)
  rw [hlt] at run1 own1
  obtain ⟨A2, c2, w2, run2, own2, hb2⟩ := E.app_new x own1 (by omega) hb1.size
  have hb2' := hb1.trans (hb2.mono (Nat.le_refl _))
  obtain ⟨A3, c3, w3, run3, own3, hg3⟩ := E.app_ls own2 ((hl.drop hi).keep fun b hb => hb2'.block b (hT b hb)) (by omega) (by rw [List.length_drop]; omega) hb2'.size
  have hb3 : Below wb.heap.size wb w3 := below_grew hb2' (Nat.le_refl _) hg3 (fun k hk => row_own own2 k hk)
  have e9 : i + 1 + (l.drop i).length = l.length + 1 := by rw [List.length_drop]; omega
  rw [e9] at run3 own3
  refine ⟨A1, c1, w1, A2, c2, w2, A3, c3, w3, run1, run2, run3, hb1, hb2', hb3, ?_⟩
  rw [show l.take i ++ x :: l.drop i = l.take i ++ [x] ++ l.drop i by simp]
  exact own3
theorem ins_mem {S : Nat} {s : RcS} {x : RcE} {T : Nat → Prop} {w : World} (hn : s.l.length ≤ 99998) (hP : RrP S s T w) (hx : (0 ≤ x.q ∧ x.q < 65536) ∧ 1 ≤ x.i) {A : Option Addr} {c : Nat} (hd : w.cell? ⟨S, 2, none⟩ = some (.slice A s.l.length c)) :
    ∀ (i : Nat), i ≤ s.l.length → rcIx s x.q = i → ∀ wb : World, Below w.heap.size w wb → (wb.cell? ⟨w.heap.size, 0, none⟩ = some (.int .i64 x.q) ∧ wb.cell? ⟨w.heap.size, 1, none⟩ = some (.int .i64 x.i)) → w.heap.size < wb.heap.size →
    ∃ A1 c1 w1 A2 c2 w2 A3 c3 w3, (Builtin.append_ #[33, 33] 33 #[.slice (some ⟨wb.heap.size, 0, none⟩) 0 0, .slice A i c]).run Try.prog (wb.alloc (.cells #[] 67)) = .ok (.slice A1 i c1) w1 ∧
      (Builtin.append_ #[33, 33] 33 #[.slice A1 i c1, .slice (some ⟨w1.heap.size, 0, none⟩) 1 1]).run Try.prog (w1.alloc (.cells (csH x).toArray 67)) = .ok (.slice A2 (i + 1) c2) w2 ∧
      (Builtin.append_ #[33, 33] 33 #[.slice A2 (i + 1) c2, dropG 2 (.slice A s.l.length c) i]).run Try.prog w2 = .ok (.slice A3 (s.l.length + 1) c3) w3 ∧
      (wb.alloc (.cells #[] 67)).cell? ⟨S, 2, none⟩ = some (.slice A s.l.length c) ∧ (w1.cell? ⟨w.heap.size, 0, none⟩ = some (.int .i64 x.q) ∧ w1.cell? ⟨w.heap.size, 1, none⟩ = some (.int .i64 x.i)) ∧ w2.cell? ⟨S, 2, none⟩ = some (.slice A s.l.length c) ∧ (w3.cell? ⟨S, 2, none⟩ = some (.slice A s.l.length c) ∧ w3.frozen? ⟨S, 2, none⟩ = false) ∧
      (∃ T', RrP S (rcIn s x) T' (w3.setCell ⟨S, 2, none⟩ (.slice A3 (s.l.length + 1) c3)) ∧ ∀ j, T' j → T j ∨ w.heap.size ≤ j) ∧ Chg T w (w3.setCell ⟨S, 2, none⟩ (.slice A3 (s.l.length + 1) c3)) := by
  intro i hi hix wb hb hbox hlt
  obtain ⟨h0, h1, h2, vL, h3, h4⟩ := hP
  have d2 := h3.read 2
  simp [rrC] at d2
  obtain rfl : vL = .slice A s.l.length c := by rw [hd] at d2; exact (Option.some.inj d2).symm
  have hP2 : RrP S s T w := ⟨h0, h1, h2, _, h3, h4⟩
  obtain ⟨_, h1b, _, _, h3b, h4b⟩ := hP2.later hb
  have d2b := h3b.read 2
  simp [rrC] at d2b
  have h4c : LsG csH 2 67 wb T (.slice A s.l.length c) s.l := h4.keep fun b hb9 => hb.block b (h1 b hb9)
  have h3c := h3.carry (hb.block S (h1 S h2))
  obtain ⟨A1, c1, w1, A2, c2, w2, A3, c3, w3, r1, r2, r3, b1, b2, b3, own⟩ := rcElt.ins h4c h1b (by omega) hi x
  have hSb := h1b S h2
  have q2 := (h3c.alloc (.cells #[] 67)).read 2
  have p2 := (h3c.carry (b2.block S hSb)).read 2
  have p3 := (h3c.carry (b3.block S hSb)).read 2
  simp [rrC] at q2 p2 p3
  have hl : (rcIn s x).l = s.l.take i ++ x :: s.l.drop i := by simp only [rcIn, hix]
  have hE := rr_end (S := S) (s := s) (s' := rcIn s x) (T := T) (w := wb) (u := w3) (A2 := A3) (n2 := s.l.length + 1) (c2 := c3) (h0.in_ hx) rfl rfl h1b h2 h3c (by rw [hl]; exact own) (by rw [rcIn_len]) b3
  refine ⟨A1, c1, w1, A2, c2, w2, A3, c3, w3, r1, r2, r3, q2, ⟨(b1.cell (p := ⟨w.heap.size, 0, none⟩) hlt).trans hbox.1, (b1.cell (p := ⟨w.heap.size, 1, none⟩) hlt).trans hbox.2⟩, p2, ⟨p3, (h3c.carry (b3.block S hSb)).free 2⟩, ?_, (Chg.of_below hb).trans hE.2⟩
  obtain ⟨T', g1, g2⟩ := hE.1
  exact ⟨T', g1, fun j hj => (g2 j hj).imp (fun h => h) (fun h => Nat.le_trans hb.size h)⟩
set_option maxRecDepth 100000 in
set_option maxHeartbeats 16000000 in
theorem rrins_any {S : Nat} {s : RcS} {x : RcE} (hn : s.l.length ≤ 99998) (hx : (0 ≤ x.q ∧ x.q < 65536) ∧ 1 ≤ x.i) {base : Nat} : Acts 34 #[.pointer (some ⟨S, 0, none⟩), .agg #[.int .i64 x.q, .int .i64 x.i]] base (RrP S s) (fun _ : Unit => .tuple #[]) fun _ => RrP S (rcIn s x) := by
  intro T w hP hb hs
  have hP' := hP
  obtain ⟨h0, h1, h2, vL, h3, h4⟩ := hP
  have hSw := h1 S h2
  have d1 := h3.read 1
  have d2 := h3.read 2
  simp [rrC] at d1 d2
  have HL := Lib.hid (fun k (hk : k < s.l.length) => h4.rc hk)
  obtain ⟨A, c, rfl, hcl, hcm⟩ := h4.shape
  have HNONE := Lib.hid (show (A = none ∧ s.l.length = 0 ∧ c = 0) ∨ ∃ b off, A = some ⟨b, off, none⟩ by
    obtain ⟨A', c', q1, q2, q3, q4⟩ := h4
    simp only [Value.slice.injEq] at q1
    obtain ⟨rfl, _, rfl⟩ := q1
    rcases q4 with ⟨h8, h⟩ | ⟨b, off, cur, h, _⟩
    · exact .inl ⟨h8, by omega, h⟩
    · exact .inr ⟨b, off, h⟩)
  have HM0 := Lib.hid (ins_mem (x := x) hn hP' hx d2)
  have hcm9 : c ≤ 9223372036854775807 := by unfold maxLen at hcm; omega
  have HIS := Lib.hid (fun k (hk : k < s.l.length) (h : dsV s.nx x.q < dsV s.nx s.l[k].q) (h2 : ∀ j (hj : j < s.l.length), j < k → dsV s.nx s.l[j].q ≤ dsV s.nx x.q) => rcIx_is (s := s) (q := x.q) hk h (fun j hj hjk => by have := h2 j hj hjk; omega))
  have HIN := Lib.hid (fun (h2 : ∀ j (hj : j < s.l.length), dsV s.nx s.l[j].q ≤ dsV s.nx x.q) => rcIx_none (s := s) (q := x.q) (fun j hj => by have := h2 j hj; omega))
  have hfr := Whole.fresh w 67 #[.int .i64 x.q, .int .i64 x.i]
  obtain ⟨xq, xi⟩ := x
  simp only at HM0 HIS HIN hfr
  have HBM := Lib.hid (fun (W : World) (hw : Below (w.heap.size + 1) (w.alloc (.cells #[.int .i64 xq, .int .i64 xi] 67)) W) => (by
    have h9 := hfr.carry (hw.block w.heap.size (by simp))
    have g0 := h9.read 0
    have g1 := h9.read 1
    simp at g0 g1
    exact ⟨⟨g0, g1⟩, by have := hw.size; simp at this; omega⟩ : (W.cell? ⟨w.heap.size, 0, none⟩ = some (.int .i64 xq) ∧ W.cell? ⟨w.heap.size, 1, none⟩ = some (.int .i64 xi)) ∧ w.heap.size < W.heap.size))
  have HA1 := Lib.hid (fun (W : World) (hw : Below (w.heap.size + 1) (w.alloc (.cells #[.int .i64 xq, .int .i64 xi] 67)) W) => ((Below.refl w.heap.size w).alloc (Nat.le_refl _) (.cells #[.int .i64 xq, .int .i64 xi] 67)).trans (hw.mono (by omega)))
  have HCD := Lib.hid (fun (W : World) (hw : Below w.heap.size w W) => And.intro ((hw.cell (p := ⟨S, 1, none⟩) hSw).trans d1) ((hw.cell (p := ⟨S, 2, none⟩) hSw).trans d2))
  have HSZ := Lib.hid (show w.heap.size + 1 = (w.alloc (.cells #[.int .i64 xq, .int .i64 xi] 67)).heap.size by simp)
  have HC1 := Lib.hid (fun (W : World) (hw : Below (w.alloc (.cells #[.int .i64 xq, .int .i64 xi] 67)).drew.heap.size (w.alloc (.cells #[.int .i64 xq, .int .i64 xi] 67)).drew W) => And.intro (HCD.out W (HA1.out W (((Below.refl _ (w.alloc (.cells #[.int .i64 xq, .int .i64 xi] 67))).drew.trans hw).mono (by simp)))).1 (HBM.out W (((Below.refl _ (w.alloc (.cells #[.int .i64 xq, .int .i64 xi] 67))).drew.trans hw).mono (by simp))).1.1)
  clear hP' h0 h1 h2 h3 h4 d1 d2 hb hs hfr hx hcm
  obtain ⟨s1, nx, l⟩ := s
  simp only at hn HL hcl HNONE HM0 HIS HIN HCD HC1
  have HD1 := Lib.hid (fun (W : World) (hw : Below (w.alloc (.cells #[.int .i64 xq, .int .i64 xi] 67)).drew.heap.size (w.alloc (.cells #[.int .i64 xq, .int .i64 xi] 67)).drew W) => (refDist_any nx xq W).mono fun e w' k => Calm.same k)
  obtain ⟨d, hd_⟩ : ∃ d, dsV nx xq = d := ⟨_, rfl⟩
  rw [hd_] at HD1 HIS HIN
  generalize dsE nx xq = de at *
  unfold Calm at *
  obtain ⟨n, hN⟩ : ∃ n, l.length = n := ⟨_, rfl⟩
  have HN := Lib.hid hN
  have HM := Lib.hid (fun (i : Nat) (hi : i ≤ n) hix wb hw => HM0.out i (by omega) hix wb (HA1.out wb hw) (HBM.out wb hw).1 (HBM.out wb hw).2)
  rw [hN] at HM HNONE HCD hcl hn
  clear hN hd_ HM0
  go_enter Try.func34, Try.ntmps34
  go_wp2_with fail
  refine wp_region_looseS 71 (by kernel_rfl) (by kernel_rfl) (StB (w.alloc (.cells #[.int .i64 xq, .int .i64 xi] 67)).drew (fun vI => [.pointer (some ⟨S, 0, none⟩), .pointer (some ⟨S, 0, none⟩), .pointer (some ⟨S, 1, none⟩), .int .i64 nx, .pointer (some ⟨w.heap.size, 0, none⟩), .int .i64 xq, .tuple #[.int .i64 d, .int .i64 de], .tuple #[.int .i64 d, .int .i64 de], .int .i64 d, .int .i64 de, .int .i64 d, .int .i64 de].getD vI undef)) rfl StB.start ?_ ?_
  · simp only [OblAllS]
    refine ⟨?_, ?_, ?_, ?_, ?_, ?_, ?_, ?_, ?_, ?_, ?_, ?_, trivial⟩
    · intro L wx vals hi hu hcl hC
      have HCx := Lib.hid hC
      clear hC hcl hu hi
      simp only [fillA, if_true, Act.put]
      simp
      go_wp2
      exact ⟨rfl, HCx.out.quiet 0 rfl⟩
    · intro L wx vals hi hu hcl hC
      simp [predL, predE, Region.binds, UpL] at hu
      have e0 : vals 0 = .pointer (some ⟨S, 0, none⟩) := hC.v 0 (by simp [hu])
      have HCx := Lib.hid hC
      clear hC hcl hu hi
      simp only [fillA, if_true, Act.put]
      simp
      simp only [e0]
      clear e0
      go_wp2
      exact ⟨rfl, HCx.out.quiet 1 rfl⟩
    · intro L wx vals hi hu hcl hC
      simp [predL, predE, Region.binds, UpL] at hu
      have e1 : vals 1 = .pointer (some ⟨S, 0, none⟩) := hC.v 1 (by simp [hu])
      have HCx := Lib.hid hC
      clear hC hcl hu hi
      simp only [fillA, if_true, Act.put]
      simp
      simp only [e1]
      clear e1
      go_wp2
      exact ⟨rfl, HCx.out.quiet 2 rfl⟩
    · intro L wx vals hi hu hcl hC
      simp [predL, predE, Region.binds, UpL] at hu
      have e2 : vals 2 = .pointer (some ⟨S, 1, none⟩) := hC.v 2 (by simp [hu])
      have h0 := (HC1.out wx hC.b).1
      have HCx := Lib.hid hC
      clear hC hcl hu hi
      simp only [fillA, if_true, Act.put]
      simp
      simp only [e2]
      clear e2
      go_wp2
      exact ⟨rfl, HCx.out.quiet 3 rfl⟩
    · intro L wx vals hi hu hcl hC
      have HCx := Lib.hid hC
      clear hC hcl hu hi
      simp only [fillA, if_true, Act.put]
      simp
      go_wp2
      exact ⟨rfl, HCx.out.quiet 4 rfl⟩
    · intro L wx vals hi hu hcl hC
      simp [predL, predE, Region.binds, UpL] at hu
      have e4 : vals 4 = .pointer (some ⟨w.heap.size, 0, none⟩) := hC.v 4 (by simp [hu])
      have h0 := (HC1.out wx hC.b).2
      have HCx := Lib.hid hC
      clear hC hcl hu hi
      simp only [fillA, if_true, Act.put]
      simp
      simp only [e4]
      clear e4
      go_wp2
      exact ⟨rfl, HCx.out.quiet 5 rfl⟩
    · intro L wx vals hi hu hcl hC
      simp [predL, predE, Region.binds, UpL] at hu
      have e3 : vals 3 = .int .i64 nx := hC.v 3 (by simp [hu])
      have e5 : vals 5 = .int .i64 xq := hC.v 5 (by simp [hu])
      have HL := Lib.hid (HD1.out wx hC.b)
      have HCx := Lib.hid hC
      clear hC hcl hu hi
      simp only [fillA, if_true, Act.put]
      simp
      simp only [e3, e5]
      clear e3 e5
      go_wp2_with fail
      (with_reducible refine HL.out.mono ?_); rintro e w9 ⟨rfl, hb⟩
      have HX := Lib.hid (HCx.out.step 6 (x := .tuple #[.int .i64 d, .int .i64 de]) rfl (HCx.out.b.trans (hb.mono HCx.out.b.size)))
      clear hb
      go_wp2
      exact ⟨rfl, HX.out⟩
    · intro L wx vals hi hu hcl hC
      simp [predL, predE, Region.binds, UpL] at hu
      have e6 : vals 6 = .tuple #[.int .i64 d, .int .i64 de] := hC.v 6 (by simp [hu])
      have HCx := Lib.hid hC
      clear hC hcl hu hi
      simp only [fillA, if_true, Act.put]
      simp
      simp only [e6]
      clear e6
      go_wp2
      exact ⟨rfl, HCx.out.quiet 7 rfl⟩
    · intro L wx vals hi hu hcl hC
      simp [predL, predE, Region.binds, UpL] at hu
      have e7 : vals 7 = .tuple #[.int .i64 d, .int .i64 de] := hC.v 7 (by simp [hu])
      have HCx := Lib.hid hC
      clear hC hcl hu hi
      simp only [fillA, if_true, Act.put]
      simp
      simp only [e7]
      clear e7
      go_wp2
      exact ⟨rfl, HCx.out.quiet 8 rfl⟩
    · intro L wx vals hi hu hcl hC
      simp [predL, predE, Region.binds, UpL] at hu
      have e7 : vals 7 = .tuple #[.int .i64 d, .int .i64 de] := hC.v 7 (by simp [hu])
      have HCx := Lib.hid hC
      clear hC hcl hu hi
      simp only [fillA, if_true, Act.put]
      simp
      simp only [e7]
      clear e7
      go_wp2
      exact ⟨rfl, HCx.out.quiet 9 rfl⟩
    · intro L wx vals hi hu hcl hC
      simp [predL, predE, Region.binds, UpL] at hu
      have e8 : vals 8 = .int .i64 d := hC.v 8 (by simp [hu])
      have HCx := Lib.hid hC
      clear hC hcl hu hi
      simp only [fillA, if_true, Act.put]
      simp
      simp only [e8]
      clear e8
      go_wp2
      exact ⟨rfl, HCx.out.quiet 10 rfl⟩
    · intro L wx vals hi hu hcl hC
      simp [predL, predE, Region.binds, UpL] at hu
      have e9 : vals 9 = .int .i64 de := hC.v 9 (by simp [hu])
      have HCx := Lib.hid hC
      clear hC hcl hu hi
      simp only [fillA, if_true, Act.put]
      simp
      simp only [e9]
      clear e9
      go_wp2
      exact ⟨rfl, HCx.out.quiet 11 rfl⟩
  · intro wz vals U hC hall
    have e10 : vals 10 = .int .i64 d := hC.v 10 (hall 10 (by simp))
    have e11 : vals 11 = .int .i64 de := hC.v 11 (hall 11 (by simp))
    have HZ := Lib.hid (show Below (w.heap.size + 1) (w.alloc (.cells #[.int .i64 xq, .int .i64 xi] 67)) wz from ((Below.refl _ (w.alloc (.cells #[.int .i64 xq, .int .i64 xi] 67))).drew.trans hC.b).mono (by simp))
    simp only [fillA, if_true, Act.put]
    simp
    simp only [e10, e11]
    clear hC hall e10 e11 HC1 HD1
    generalize vals 0 = t_0 at *
    generalize vals 1 = t_1 at *
    generalize vals 2 = t_2 at *
    generalize vals 3 = t_3 at *
    generalize vals 4 = t_4 at *
    generalize vals 5 = t_5 at *
    generalize vals 6 = t_6 at *
    generalize vals 7 = t_7 at *
    generalize vals 8 = t_8 at *
    generalize vals 9 = t_9 at *
    go_wp2_with fail
    go_loopw [6] (fun s6 wr => ∃ k : Nat, k ≤ n ∧ s6 = .int .i64 k ∧ Hid (∀ j (hj : j < l.length), j < k → dsV nx l[j].q ≤ d) ∧ Hid (Below (w.heap.size + 1) (w.alloc (.cells #[.int .i64 xq, .int .i64 xi] 67)) wr)) (fun s6 _ => n - (intOf s6).toNat)
    case atStart => exact ⟨0, Nat.zero_le _, rfl, Lib.hid (fun j _ hj => by omega), HZ⟩
    case round =>
      obtain ⟨k, hk, rfl, HJ, HW⟩ := hrel
      have dd2 := (HCD.out wr (HA1.out wr HW.out)).2
      clear HZ
      by_cases hlt : k < n
      · have hlt' : (k : Int) < n := by omega
        have hk0 : (0 : Int) ≤ k := by omega
        have hkl : k < l.length := by have := HN.out; omega
        obtain ⟨bb, off, c', e1, _, _, hbw, q0, _⟩ := HL.out k hkl
        obtain ⟨rfl, rfl⟩ : A = some ⟨bb, off, none⟩ ∧ c = c' := by simpa using e1
        have HA2 := Lib.hid (fun (W : World) (hw : Below wr.drew.heap.size wr.drew W) => (HW.out.trans (((Below.refl _ wr).drew.trans hw).mono (by have := HW.out.size; simp at this ⊢; omega)) : Below (w.heap.size + 1) (w.alloc (.cells #[.int .i64 xq, .int .i64 xi] 67)) W))
        have HC4 := Lib.hid (fun (W : World) (hw : Below wr.drew.heap.size wr.drew W) => And.intro (HCD.out W (HA1.out W (HA2.out W hw))).1 (And.intro (HCD.out W (HA1.out W (HA2.out W hw))).2 (((HA1.out W (HA2.out W hw)).cell (p := ⟨bb, off + k * 2, none⟩) hbw).trans q0)))
        have HIX := Lib.hid (fun (h : d < dsV nx l[k].q) => HIS.out k hkl h HJ.out)
        have HJ2 := Lib.hid (fun (h : dsV nx l[k].q ≤ d) j (hj : j < l.length) (hjk : j < k + 1) => (by
          rcases Nat.lt_or_ge j k with h1 | h1
          · exact HJ.out j hj h1
          · obtain rfl : j = k := by omega
            exact h : dsV nx l[j].q ≤ d))
        have HD4 := Lib.hid (fun (W : World) (hw : Below wr.drew.heap.size wr.drew W) => (refDist_any nx l[k].q W).mono fun e w' k => Calm.same k)
        unfold Calm at HD4
        generalize l[k].q = lq at *
        generalize dsV nx lq = dk at *
        generalize dsE nx lq = dke at *
        clear HIS HIN HL e1 q0 HNONE HJ
        go_wp2_with fail
        refine wp_region_looseS 71 (by kernel_rfl) (by kernel_rfl) (StB wr.drew (fun vI => [.pointer (some ⟨S, 0, none⟩), .pointer (some ⟨S, 0, none⟩), .pointer (some ⟨S, 1, none⟩), .int .i64 nx, .pointer (some ⟨S, 0, none⟩), .pointer (some ⟨S, 0, none⟩), .pointer (some ⟨S, 2, none⟩), .slice (some ⟨bb, off, none⟩) n c, .int .i64 (k : Nat), .pointer (some ⟨bb, off + k * 2, none⟩), .pointer (some ⟨bb, off + k * 2, none⟩), .int .i64 lq, .tuple #[.int .i64 dk, .int .i64 dke], .tuple #[.int .i64 dk, .int .i64 dke], .int .i64 dk, .int .i64 dke, .int .i64 dk, .int .i64 dke].getD vI undef)) rfl StB.start ?_ ?_
        · simp only [OblAllS]
          refine ⟨?_, ?_, ?_, ?_, ?_, ?_, ?_, ?_, ?_, ?_, ?_, ?_, ?_, ?_, ?_, ?_, ?_, ?_, trivial⟩
          · intro L wx vals hi hu hcl hC
            have HCx := Lib.hid hC
            clear hC hcl hu hi
            simp only [fillA, if_true, Act.put]
            simp
            go_wp2
            exact ⟨rfl, HCx.out.quiet 0 rfl⟩
          · intro L wx vals hi hu hcl hC
            simp [predL, predE, Region.binds, UpL] at hu
            have e0 : vals 0 = .pointer (some ⟨S, 0, none⟩) := hC.v 0 (by simp [hu])
            have HCx := Lib.hid hC
            clear hC hcl hu hi
            simp only [fillA, if_true, Act.put]
            simp
            simp only [e0]
            clear e0
            go_wp2
            exact ⟨rfl, HCx.out.quiet 1 rfl⟩
          · intro L wx vals hi hu hcl hC
            simp [predL, predE, Region.binds, UpL] at hu
            have e1 : vals 1 = .pointer (some ⟨S, 0, none⟩) := hC.v 1 (by simp [hu])
            have HCx := Lib.hid hC
            clear hC hcl hu hi
            simp only [fillA, if_true, Act.put]
            simp
            simp only [e1]
            clear e1
            go_wp2
            exact ⟨rfl, HCx.out.quiet 2 rfl⟩
          · intro L wx vals hi hu hcl hC
            simp [predL, predE, Region.binds, UpL] at hu
            have e2 : vals 2 = .pointer (some ⟨S, 1, none⟩) := hC.v 2 (by simp [hu])
            have h0 := (HC4.out wx hC.b).1
            have HCx := Lib.hid hC
            clear hC hcl hu hi
            simp only [fillA, if_true, Act.put]
            simp
            simp only [e2]
            clear e2
            go_wp2
            exact ⟨rfl, HCx.out.quiet 3 rfl⟩
          · intro L wx vals hi hu hcl hC
            have HCx := Lib.hid hC
            clear hC hcl hu hi
            simp only [fillA, if_true, Act.put]
            simp
            go_wp2
            exact ⟨rfl, HCx.out.quiet 4 rfl⟩
          · intro L wx vals hi hu hcl hC
            simp [predL, predE, Region.binds, UpL] at hu
            have e4 : vals 4 = .pointer (some ⟨S, 0, none⟩) := hC.v 4 (by simp [hu])
            have HCx := Lib.hid hC
            clear hC hcl hu hi
            simp only [fillA, if_true, Act.put]
            simp
            simp only [e4]
            clear e4
            go_wp2
            exact ⟨rfl, HCx.out.quiet 5 rfl⟩
          · intro L wx vals hi hu hcl hC
            simp [predL, predE, Region.binds, UpL] at hu
            have e5 : vals 5 = .pointer (some ⟨S, 0, none⟩) := hC.v 5 (by simp [hu])
            have HCx := Lib.hid hC
            clear hC hcl hu hi
            simp only [fillA, if_true, Act.put]
            simp
            simp only [e5]
            clear e5
            go_wp2
            exact ⟨rfl, HCx.out.quiet 6 rfl⟩
          · intro L wx vals hi hu hcl hC
            simp [predL, predE, Region.binds, UpL] at hu
            have e6 : vals 6 = .pointer (some ⟨S, 2, none⟩) := hC.v 6 (by simp [hu])
            have h0 := (HC4.out wx hC.b).2.1
            have HCx := Lib.hid hC
            clear hC hcl hu hi
            simp only [fillA, if_true, Act.put]
            simp
            simp only [e6]
            clear e6
            go_wp2
            exact ⟨rfl, HCx.out.quiet 7 rfl⟩
          · intro L wx vals hi hu hcl hC
            have HCx := Lib.hid hC
            clear hC hcl hu hi
            simp only [fillA, if_true, Act.put]
            simp
            go_wp2
            exact ⟨rfl, HCx.out.quiet 8 rfl⟩
          · intro L wx vals hi hu hcl hC
            simp [predL, predE, Region.binds, UpL] at hu
            have e7 : vals 7 = .slice (some ⟨bb, off, none⟩) n c := hC.v 7 (by simp [hu])
            have e8 : vals 8 = .int .i64 (k : Nat) := hC.v 8 (by simp [hu])
            have HCx := Lib.hid hC
            clear hC hcl hu hi
            simp only [fillA, if_true, Act.put]
            simp
            simp only [e7, e8]
            clear e7 e8
            go_wp2
            exact ⟨rfl, HCx.out.quiet 9 rfl⟩
          · intro L wx vals hi hu hcl hC
            simp [predL, predE, Region.binds, UpL] at hu
            have e9 : vals 9 = .pointer (some ⟨bb, off + k * 2, none⟩) := hC.v 9 (by simp [hu])
            have HCx := Lib.hid hC
            clear hC hcl hu hi
            simp only [fillA, if_true, Act.put]
            simp
            simp only [e9]
            clear e9
            go_wp2
            exact ⟨rfl, HCx.out.quiet 10 rfl⟩
          · intro L wx vals hi hu hcl hC
            simp [predL, predE, Region.binds, UpL] at hu
            have e10 : vals 10 = .pointer (some ⟨bb, off + k * 2, none⟩) := hC.v 10 (by simp [hu])
            have h0 := (HC4.out wx hC.b).2.2
            have HCx := Lib.hid hC
            clear hC hcl hu hi
            simp only [fillA, if_true, Act.put]
            simp
            simp only [e10]
            clear e10
            go_wp2
            exact ⟨rfl, HCx.out.quiet 11 rfl⟩
          · intro L wx vals hi hu hcl hC
            simp [predL, predE, Region.binds, UpL] at hu
            have e3 : vals 3 = .int .i64 nx := hC.v 3 (by simp [hu])
            have e11 : vals 11 = .int .i64 lq := hC.v 11 (by simp [hu])
            have HL := Lib.hid (HD4.out wx hC.b)
            have HCx := Lib.hid hC
            clear hC hcl hu hi
            simp only [fillA, if_true, Act.put]
            simp
            simp only [e3, e11]
            clear e3 e11
            go_wp2_with fail
            (with_reducible refine HL.out.mono ?_); rintro e w9 ⟨rfl, hb⟩
            have HX := Lib.hid (HCx.out.step 12 (x := .tuple #[.int .i64 dk, .int .i64 dke]) rfl (HCx.out.b.trans (hb.mono HCx.out.b.size)))
            clear hb
            go_wp2
            exact ⟨rfl, HX.out⟩
          · intro L wx vals hi hu hcl hC
            simp [predL, predE, Region.binds, UpL] at hu
            have e12 : vals 12 = .tuple #[.int .i64 dk, .int .i64 dke] := hC.v 12 (by simp [hu])
            have HCx := Lib.hid hC
            clear hC hcl hu hi
            simp only [fillA, if_true, Act.put]
            simp
            simp only [e12]
            clear e12
            go_wp2
            exact ⟨rfl, HCx.out.quiet 13 rfl⟩
          · intro L wx vals hi hu hcl hC
            simp [predL, predE, Region.binds, UpL] at hu
            have e13 : vals 13 = .tuple #[.int .i64 dk, .int .i64 dke] := hC.v 13 (by simp [hu])
            have HCx := Lib.hid hC
            clear hC hcl hu hi
            simp only [fillA, if_true, Act.put]
            simp
            simp only [e13]
            clear e13
            go_wp2
            exact ⟨rfl, HCx.out.quiet 14 rfl⟩
          · intro L wx vals hi hu hcl hC
            simp [predL, predE, Region.binds, UpL] at hu
            have e13 : vals 13 = .tuple #[.int .i64 dk, .int .i64 dke] := hC.v 13 (by simp [hu])
            have HCx := Lib.hid hC
            clear hC hcl hu hi
            simp only [fillA, if_true, Act.put]
            simp
            simp only [e13]
            clear e13
            go_wp2
            exact ⟨rfl, HCx.out.quiet 15 rfl⟩
          · intro L wx vals hi hu hcl hC
            simp [predL, predE, Region.binds, UpL] at hu
            have e14 : vals 14 = .int .i64 dk := hC.v 14 (by simp [hu])
            have HCx := Lib.hid hC
            clear hC hcl hu hi
            simp only [fillA, if_true, Act.put]
            simp
            simp only [e14]
            clear e14
            go_wp2
            exact ⟨rfl, HCx.out.quiet 16 rfl⟩
          · intro L wx vals hi hu hcl hC
            simp [predL, predE, Region.binds, UpL] at hu
            have e15 : vals 15 = .int .i64 dke := hC.v 15 (by simp [hu])
            have HCx := Lib.hid hC
            clear hC hcl hu hi
            simp only [fillA, if_true, Act.put]
            simp
            simp only [e15]
            clear e15
            go_wp2
            exact ⟨rfl, HCx.out.quiet 17 rfl⟩
        · intro wy vals U hC hall
          have e16 : vals 16 = .int .i64 dk := hC.v 16 (hall 16 (by simp))
          have e17 : vals 17 = .int .i64 dke := hC.v 17 (hall 17 (by simp))
          have HY := Lib.hid (HA2.out wy hC.b)
          simp only [fillA, if_true, Act.put]
          simp
          simp only [e16, e17]
          clear hC hall e16 e17 HC4 HD4 HA2 HW
          generalize vals 0 = t_0 at *
          generalize vals 1 = t_1 at *
          generalize vals 2 = t_2 at *
          generalize vals 3 = t_3 at *
          generalize vals 4 = t_4 at *
          generalize vals 5 = t_5 at *
          generalize vals 6 = t_6 at *
          generalize vals 7 = t_7 at *
          generalize vals 8 = t_8 at *
          generalize vals 9 = t_9 at *
          generalize vals 10 = t_10 at *
          generalize vals 11 = t_11 at *
          generalize vals 12 = t_12 at *
          generalize vals 13 = t_13 at *
          generalize vals 14 = t_14 at *
          generalize vals 15 = t_15 at *
          by_cases hdk : d < dk
          · have hix := HIX.out hdk
            have hic : ¬ k = c := by omega
            have hicI : (k : Int) < c := by omega
            have hleI : (k : Int) ≤ n := by omega
            have dd2 := (HCD.out wy (HA1.out wy HY.out)).2
            clear HIX HJ2 HCD HBM HA1 HN
            obtain ⟨A1_, c1_, w1_, A2_, c2_, w2_, A3_, c3_, w3_, run1, run2, run3, k1, ⟨g0, g1⟩, k2, ⟨k3, z3⟩, hR, hC⟩ := HM.out k (by omega) hix wy HY.out
            have HF := Lib.hid (And.intro hR hC)
            unfold dropG at run3
            simp only [if_neg hic, Addr.add_lit] at run3
            unfold csH at run2
            clear hR hC HM
            go_wp2_with (at_builtin; first | refine wpList_append_run rfl (.tmp 48) (.tmp 54) 33 rfl rfl rfl run1 ?_ | refine wpList_append_run rfl (.tmp 56) (.tmp 58) 33 rfl rfl rfl run2 ?_ | refine wpList_append_run rfl (.tmp 61) (.tmp 67) 33 rfl rfl rfl run3 ?_)
            go_end0
            first | exact ⟨rfl, HF.out⟩ | exact ⟨(), rfl, HF.out⟩
          · have hdk' : decide (d < dk) = false := by simp; omega
            have HJ3 := Lib.hid (HJ2.out (by omega))
            clear HIX HJ2
            go_wp2
            go_roundw
            case rel => exact ⟨k + 1, by omega, by go_num, HJ3, HY⟩
            case measure => simp [intOf]; omega
      · obtain rfl : k = n := by omega
        have hix : rcIx ⟨s1, nx, l⟩ xq = k := by
          have h9 := HIN.out (fun j hj => HJ.out j hj (by have := HN.out; omega))
          rw [h9]; exact HN.out
        have hWo := HW.out
        rcases HNONE.out with ⟨rfl, h8, h9⟩ | ⟨bb, off, rfl⟩
        · subst h8 h9
          clear HL HIS HIN HJ HNONE HCD HBM HA1 HN HW
          obtain ⟨A1_, c1_, w1_, A2_, c2_, w2_, A3_, c3_, w3_, run1, run2, run3, k1, ⟨g0, g1⟩, k2, ⟨k3, z3⟩, hR, hC⟩ := HM.out 0 (by omega) hix wr hWo
          have HF := Lib.hid (And.intro hR hC)
          unfold dropG at run3
          simp only at run3
          unfold csH at run2
          clear hR hC HM
          go_wp2_with (at_builtin; first | refine wpList_append_run rfl (.tmp 48) (.tmp 54) 33 rfl rfl rfl run1 ?_ | refine wpList_append_run rfl (.tmp 56) (.tmp 58) 33 rfl rfl rfl run2 ?_ | refine wpList_append_run rfl (.tmp 61) (.tmp 67) 33 rfl rfl rfl run3 ?_)
          go_end0
          first | exact ⟨rfl, HF.out⟩ | exact ⟨(), rfl, HF.out⟩
        · by_cases hic : k = c
          · subst hic
            clear HL HIS HIN HJ HNONE HCD HBM HA1 HN HW
            obtain ⟨A1_, c1_, w1_, A2_, c2_, w2_, A3_, c3_, w3_, run1, run2, run3, k1, ⟨g0, g1⟩, k2, ⟨k3, z3⟩, hR, hC⟩ := HM.out k (by omega) hix wr hWo
            have HF := Lib.hid (And.intro hR hC)
            unfold dropG at run3
            simp only [eq_self, if_true] at run3
            unfold csH at run2
            clear hR hC HM
            go_wp2_with (at_builtin; first | refine wpList_append_run rfl (.tmp 48) (.tmp 54) 33 rfl rfl rfl run1 ?_ | refine wpList_append_run rfl (.tmp 56) (.tmp 58) 33 rfl rfl rfl run2 ?_ | refine wpList_append_run rfl (.tmp 61) (.tmp 67) 33 rfl rfl rfl run3 ?_)
            go_end0
            first | exact ⟨rfl, HF.out⟩ | exact ⟨(), rfl, HF.out⟩
          · have hicI : (k : Int) < c := by omega
            clear HL HIS HIN HJ HNONE HCD HBM HA1 HN HW
            obtain ⟨A1_, c1_, w1_, A2_, c2_, w2_, A3_, c3_, w3_, run1, run2, run3, k1, ⟨g0, g1⟩, k2, ⟨k3, z3⟩, hR, hC⟩ := HM.out k (by omega) hix wr hWo
            have HF := Lib.hid (And.intro hR hC)
            unfold dropG at run3
            simp only [if_neg hic, Addr.add_lit, Nat.sub_self] at run3
            unfold csH at run2
            clear hR hC HM
            go_wp2_with (at_builtin; first | refine wpList_append_run rfl (.tmp 48) (.tmp 54) 33 rfl rfl rfl run1 ?_ | refine wpList_append_run rfl (.tmp 56) (.tmp 58) 33 rfl rfl rfl run2 ?_ | refine wpList_append_run rfl (.tmp 61) (.tmp 67) 33 rfl rfl rfl run3 ?_)
            go_end0
            first | exact ⟨rfl, HF.out⟩ | exact ⟨(), rfl, HF.out⟩
end Go.Proofs.Ythmncipenjhknaa

