/-
  Layer 17: Equal at ids; the choices, the program's receiver and the reference's side by side; awake. Written by gen_rchelp.py.
-/
import Derived.Test.YthmncipenjhknaaRcProg
import Derived.Test.YthmncipenjhknaaEnvW
import Derived.Test.YthmncipenjhknaaLenGen
import Derived.Deep.LoopGhost
import Derived.LoopTactic
namespace Go.Proofs.Ythmncipenjhknaa
open Go.ChangeShapes Go.WideShapes Go.ChangeAt Go.RowKit
set_option linter.unusedVariables false

set_option maxRecDepth 100000 in
set_option maxHeartbeats 4000000 in
theorem eqI_any {v1 v2 : Value} {l : List Int} {w : World} (hn : l.length ≤ 100000) (h1 : LsA csI 1 3 v1 l w) (h2 : LsA csI 1 3 v2 l w) :
    Calls Try.prog 13 #[v1, v2] w (Calm (.bool true) w) := by
  obtain ⟨A1, c1, rfl, g1, k1⟩ := h1.shape
  obtain ⟨A2, c2, rfl, g2, k2⟩ := h2.shape
  have H1 := Lib.hid (fun k (hk : k < l.length) => h1.el hk)
  have H2 := Lib.hid (fun k (hk : k < l.length) => h2.el hk)
  clear h1 h2 g1 g2 k1 k2
  obtain ⟨n, hN⟩ : ∃ n, l.length = n := ⟨_, rfl⟩
  have HN := Lib.hid hN
  rw [hN]
  have hn' : n ≤ 100000 := by omega
  clear hN hn
  unfold Calm
  go_enter Try.func13, Try.ntmps13
  go_wp2
  go_loopw [5] (fun s5 wr => ∃ k : Nat, k ≤ n ∧ s5 = .int .i64 k ∧ Hid (Below w.heap.size w wr)) (fun s5 _ => n - (intOf s5).toNat)
  case atStart => exact ⟨0, Nat.zero_le _, rfl, Lib.hid (Below.refl _ _)⟩
  case round =>
    obtain ⟨k, hk, rfl, HD⟩ := hrel
    by_cases hlt : k < n
    · have hlt' : (k : Int) < n := by omega
      have hk0 : (0 : Int) ≤ k := by omega
      have hkl : k < l.length := by have := HN.out; omega
      obtain ⟨b1, o1, c1', e1, _, hb1, _, _, f1⟩ := H1.out k hkl
      obtain ⟨b2, o2, c2', e2, _, hb2, _, _, f2⟩ := H2.out k hkl
      obtain ⟨rfl, rfl⟩ : A1 = some ⟨b1, o1, none⟩ ∧ c1 = c1' := by simpa using e1
      obtain ⟨rfl, rfl⟩ : A2 = some ⟨b2, o2, none⟩ ∧ c2 = c2' := by simpa using e2
      have d10 : w.cell? ⟨b1, o1 + k * 1 + 0, none⟩ = some (.int .i64 l[k]) := f1 k hkl 0 (by omega)
      have d20 : w.cell? ⟨b2, o2 + k * 1 + 0, none⟩ = some (.int .i64 l[k]) := f2 k hkl 0 (by omega)
      rw [Nat.mul_one, Nat.add_zero] at d10 d20
      clear f1 f2 e1 e2
      generalize l[k] = x at *
      have HC4 := Lib.hid (fun (W : World) (hw : Below wr.drew.heap.size wr.drew W) => (And.intro (((HD.out.trans (((Below.refl _ wr).drew.trans hw).mono HD.out.size)).cell (p := ⟨b1, o1 + k, none⟩) hb1).trans d10) (((HD.out.trans (((Below.refl _ wr).drew.trans hw).mono HD.out.size)).cell (p := ⟨b2, o2 + k, none⟩) hb2).trans d20)))
      clear H1 H2 HN d10 d20
      go_wp2_with fail
      refine wp_region_looseS 26 (by kernel_rfl) (by kernel_rfl) (StB wr.drew (fun vI => [.slice (some ⟨b1, o1, none⟩) n c1, .int .i64 (k : Nat), .pointer (some ⟨b1, o1 + k, none⟩), .int .i64 x, .slice (some ⟨b2, o2, none⟩) n c2, .int .i64 (k : Nat), .pointer (some ⟨b2, o2 + k, none⟩), .int .i64 x, .bool false].getD vI undef)) rfl StB.start ?_ ?_
      · simp only [OblAllS]
        refine ⟨?_, ?_, ?_, ?_, ?_, ?_, ?_, ?_, ?_, trivial⟩
        · intro L wx vals hi hu hcl hC
          have HCx := Lib.hid hC
          clear hC hcl hu hi
          simp only [fillA, if_true, Act.put]
          simp
          go_wp2
          exact ⟨rfl, HCx.out.quiet 0 rfl⟩
        · intro L wx vals hi hu hcl hC
          have HCx := Lib.hid hC
          clear hC hcl hu hi
          simp only [fillA, if_true, Act.put]
          simp
          go_wp2
          exact ⟨rfl, HCx.out.quiet 1 rfl⟩
        · intro L wx vals hi hu hcl hC
          simp [predL, predE, Region.binds, UpL] at hu
          have e0 : vals 0 = .slice (some ⟨b1, o1, none⟩) n c1 := hC.v 0 (by simp [hu])
          have e1 : vals 1 = .int .i64 (k : Nat) := hC.v 1 (by simp [hu])
          have HCx := Lib.hid hC
          clear hC hcl hu hi
          simp only [fillA, if_true, Act.put]
          simp
          simp only [e0, e1]
          clear e0 e1
          go_wp2
          exact ⟨rfl, HCx.out.quiet 2 rfl⟩
        · intro L wx vals hi hu hcl hC
          simp [predL, predE, Region.binds, UpL] at hu
          have e2 : vals 2 = .pointer (some ⟨b1, o1 + k, none⟩) := hC.v 2 (by simp [hu])
          have h0 := (HC4.out wx hC.b).1
          have HCx := Lib.hid hC
          clear hC hcl hu hi
          simp only [fillA, if_true, Act.put]
          simp
          simp only [e2]
          clear e2
          go_wp2
          exact ⟨rfl, HCx.out.quiet 3 rfl⟩
        · intro L wx vals hi hu hcl hC
          have HCx := Lib.hid hC
          clear hC hcl hu hi
          simp only [fillA, if_true, Act.put]
          simp
          go_wp2
          exact ⟨rfl, HCx.out.quiet 4 rfl⟩
        · intro L wx vals hi hu hcl hC
          have HCx := Lib.hid hC
          clear hC hcl hu hi
          simp only [fillA, if_true, Act.put]
          simp
          go_wp2
          exact ⟨rfl, HCx.out.quiet 5 rfl⟩
        · intro L wx vals hi hu hcl hC
          simp [predL, predE, Region.binds, UpL] at hu
          have e4 : vals 4 = .slice (some ⟨b2, o2, none⟩) n c2 := hC.v 4 (by simp [hu])
          have e5 : vals 5 = .int .i64 (k : Nat) := hC.v 5 (by simp [hu])
          have HCx := Lib.hid hC
          clear hC hcl hu hi
          simp only [fillA, if_true, Act.put]
          simp
          simp only [e4, e5]
          clear e4 e5
          go_wp2
          exact ⟨rfl, HCx.out.quiet 6 rfl⟩
        · intro L wx vals hi hu hcl hC
          simp [predL, predE, Region.binds, UpL] at hu
          have e6 : vals 6 = .pointer (some ⟨b2, o2 + k, none⟩) := hC.v 6 (by simp [hu])
          have h1 := (HC4.out wx hC.b).2
          have HCx := Lib.hid hC
          clear hC hcl hu hi
          simp only [fillA, if_true, Act.put]
          simp
          simp only [e6]
          clear e6
          go_wp2
          exact ⟨rfl, HCx.out.quiet 7 rfl⟩
        · intro L wx vals hi hu hcl hC
          simp [predL, predE, Region.binds, UpL] at hu
          have e3 : vals 3 = .int .i64 x := hC.v 3 (by simp [hu])
          have e7 : vals 7 = .int .i64 x := hC.v 7 (by simp [hu])
          have HCx := Lib.hid hC
          clear hC hcl hu hi
          simp only [fillA, if_true, Act.put]
          simp
          simp only [e3, e7]
          clear e3 e7
          go_wp2
          exact ⟨rfl, HCx.out.quiet 8 rfl⟩
      · intro wz vals U hC hall
        have e8 : vals 8 = .bool false := hC.v 8 (hall 8 (by simp))
        have HD2 := Lib.hid (HD.out.trans (((Below.refl _ wr).drew.trans hC.b).mono HD.out.size))
        simp only [fillA, if_true, Act.put]
        simp
        simp only [e8]
        clear hC hall e8 HC4 HD
        generalize vals 0 = t0 at *
        generalize vals 1 = t1 at *
        generalize vals 2 = t2 at *
        generalize vals 3 = t3 at *
        generalize vals 4 = t4 at *
        generalize vals 5 = t5 at *
        generalize vals 6 = t6 at *
        generalize vals 7 = t7 at *
        go_wp2
        go_roundw
        case rel => exact ⟨k + 1, by omega, by go_num, HD2⟩
        case measure => simp [intOf]; omega
    · obtain rfl : k = n := by omega
      clear H1 H2 HN
      go_wp2
      go_ret
      exact ⟨rfl, HD.out⟩

def RcE2 (base B : Nat) (a : Option Addr) (len cap R S : Nat) (q : Nat) (s t : RcS) : RP := Star (RrP S t) (Star (RcP R s) (GenP base B a len cap q))
section
variable {base B : Nat} {a : Option Addr} {len cap R S q : Nat} {s t : RcS} {w w0 w' : World} {X : RP}
theorem RcE2.frm : Frm base (RcE2 base B a len cap R S q s t) := RrP.frm.star (RcP.frm.star GenP.frm)
theorem RcE2.next {n : Int} (n0 : 1 ≤ n) (n1 : n ≤ 1000000000) (hq : q ≤ 1000000000) :
    Acts 8 #[.pointer (some ⟨B, 0, none⟩), .int .i64 n] base (RcE2 base B a len cap R S q s t) (fun r : { r : Int // 0 ≤ r ∧ r < n } => .int .i64 r.1) fun _ => RcE2 base B a len cap R S (q + 1) s t :=
  Acts.right RrP.frm (Acts.right RcP.frm (GenP.next n0 n1 hq))
theorem RcE2.nx1 (h : Inv base w0 (RcE2 base B a len cap R S q s t) w) {n : Int} (n0 : 1 ≤ n) (n1 : n ≤ 1000000000) (hq : q ≤ 1000000000) :
    Calls Try.prog 8 #[.pointer (some ⟨B, 0, none⟩), .int .i64 n] w fun e w' => ∃ r : Int, 0 ≤ r ∧ r < n ∧ e = .returned (.int .i64 r) ∧ Inv base w0 (RcE2 base B a len cap R S (q + 1) s t) w' :=
  (Inv.call h (RcE2.next n0 n1 hq)).mono fun e w' ⟨r, e1, h2⟩ => ⟨r.1, r.2.1, r.2.2, e1, h2⟩
theorem RcE2.prcv (hn : s.l.length ≤ 9999) (b q' i : Int) : Acts 14 #[.pointer (some ⟨R, 0, none⟩), .int .i64 b, .int .i64 q', .int .i64 i] base (RcE2 base B a len cap R S q s t) (fun v : Value => .tuple #[v, .int .i64 (rcRvE s b q' i)]) fun v => Star (LsP csI 1 3 v (rcRvL s b q' i)) (RcE2 base B a len cap R S q (s.rcv b q' i) t) :=
  (Acts.right RrP.frm ((prrcv_any hn b q' i).star GenP.frm)).imp (fun _ _ h => h) fun v T w h => Star.pick2 (Star.mapR (fun _ => Star.assoc) h)
theorem RcE2.rrcv (hn : t.l.length ≤ 9999) (b q' i : Int) : Acts 15 #[.pointer (some ⟨S, 0, none⟩), .int .i64 b, .int .i64 q', .int .i64 i] base (RcE2 base B a len cap R S q s t) (fun v : Value => .tuple #[v, .int .i64 (rcRvE t b q' i)]) fun v => Star (LsP csI 1 3 v (rcRvL t b q' i)) (RcE2 base B a len cap R S q s (t.rcv b q' i)) :=
  ((rrrcv_any (by omega) b q' i).star (RcP.frm.star GenP.frm)).imp (fun _ _ h => h) fun v T w h => Star.assoc h
theorem RcE2.pskp (hn : s.l.length ≤ 9999) (b : Int) : Acts 11 #[.pointer (some ⟨R, 0, none⟩), .int .i64 b] base (RcE2 base B a len cap R S q s t) (fun v : Value => .tuple #[v, .int .i64 (rcSkE s b)]) fun v => Star (LsP csI 1 3 v (rcSkL s b)) (RcE2 base B a len cap R S q (s.skp b) t) :=
  (Acts.right RrP.frm ((prskp_any hn b).star GenP.frm)).imp (fun _ _ h => h) fun v T w h => Star.pick2 (Star.mapR (fun _ => Star.assoc) h)
theorem RcE2.rskp (hn : t.l.length ≤ 9999) (b : Int) : Acts 12 #[.pointer (some ⟨S, 0, none⟩), .int .i64 b] base (RcE2 base B a len cap R S q s t) (fun v : Value => .tuple #[v, .int .i64 (rcSkE t b)]) fun v => Star (LsP csI 1 3 v (rcSkL t b)) (RcE2 base B a len cap R S q s (t.skp b)) :=
  ((rrskp_any (by omega) b).star (RcP.frm.star GenP.frm)).imp (fun _ _ h => h) fun v T w h => Star.assoc h
theorem RcE2.pget (h : Inv base w0 (RcE2 base B a len cap R S q s t) w) : ∃ T, RcP R s T w := by
  obtain ⟨T, ⟨A, B, _, _, _, C, D, _, _, hp, _⟩, _⟩ := h; exact ⟨C, hp⟩
theorem RcE2.rget (h : Inv base w0 (RcE2 base B a len cap R S q s t) w) : ∃ T, RrP S t T w := by
  obtain ⟨T, ⟨A, B, _, _, hp, _⟩, _⟩ := h; exact ⟨A, hp⟩
end
/-! ### awake -/
theorem rw0 : rcB 8 = true := by decide
theorem rw1 : rcRvE (RcS.new 8) 0 1 8 = 0 ∧ rcRvL (RcS.new 8) 0 1 8 = [] ∧ (RcS.new 8).rcv 0 1 8 = ⟨8, 0, [⟨1, 8⟩]⟩ := ⟨by kernel_rfl, by kernel_rfl, by kernel_rfl⟩
theorem rw2 : rcRvE ⟨8, 0, [⟨1, 8⟩]⟩ 0 0 7 = 0 ∧ rcRvL ⟨8, 0, [⟨1, 8⟩]⟩ 0 0 7 = [7, 8] ∧ RcS.rcv ⟨8, 0, [⟨1, 8⟩]⟩ 0 0 7 = ⟨8, 2, []⟩ := ⟨by kernel_rfl, by kernel_rfl, by kernel_rfl⟩
theorem rw3 : rcRvE ⟨8, 2, []⟩ 2 3 10 = 0 ∧ rcRvL ⟨8, 2, []⟩ 2 3 10 = [] ∧ RcS.rcv ⟨8, 2, []⟩ 2 3 10 = ⟨8, 2, [⟨3, 10⟩]⟩ := ⟨by kernel_rfl, by kernel_rfl, by kernel_rfl⟩
theorem rw4 : rcRvE ⟨8, 2, [⟨3, 10⟩]⟩ 3 4 11 = 0 ∧ rcRvL ⟨8, 2, [⟨3, 10⟩]⟩ 3 4 11 = [10, 11] ∧ RcS.rcv ⟨8, 2, [⟨3, 10⟩]⟩ 3 4 11 = ⟨8, 5, []⟩ := ⟨by kernel_rfl, by kernel_rfl, by kernel_rfl⟩
theorem prcvX {X : RP} {R : Nat} {s s' : RcS} {base : Nat} {w0 w : World} {b q i e9 : Int} {L : List Int} (hX : Frm base X) (h : Inv base w0 (Star X (RcP R s)) w) (hn : s.l.length ≤ 9999) (he : rcRvE s b q i = e9) (hL : rcRvL s b q i = L) (hs : s.rcv b q i = s') :
    Calls Try.prog 14 #[.pointer (some ⟨R, 0, none⟩), .int .i64 b, .int .i64 q, .int .i64 i] w fun en w' => ∃ A c, en = .returned (.tuple #[.slice A L.length c, .int .i64 e9]) ∧ Inv base w0 (Star (Star X (LsP csI 1 3 (.slice A L.length c) L)) (RcP R s')) w' := by
  subst he hL hs
  refine (Inv.call h (Acts.right hX (prrcv_any hn b q i))).mono ?_
  rintro e w' ⟨v, e1, h2⟩
  have h3 := h2.imp fun T => Star.unassoc
  obtain ⟨T, A1, B1, _, _, ⟨A2, B2, _, _, _, hl⟩, _⟩ := h3.get
  obtain ⟨A, c, rfl, _⟩ := hl.2.shape
  exact ⟨A, c, e1, h3⟩
set_option maxRecDepth 100000 in
set_option maxHeartbeats 4000000 in
theorem awake17_any (w : World) : Calls Try.prog 17 #[] w (Calm (.bool true) w) := by
  have hE : Inv w.heap.size w Emp w := Inv.start (T := fun _ => False) (fun k h => h) (fun k h => h.elim) (Below.refl _ _)
  have HX := Lib.hid (hE.call (prnew_any rw0))
  clear hE
  unfold Calm
  go_enter Try.func17, Try.ntmps17
  go_wp2_with fail
  (with_reducible refine HX.out.mono ?_); rintro e w1 ⟨R, rfl, h1⟩
  have HX := Lib.hid (prcvX Frm.emp h1.emp (by simp [RcS.new]) rw1.1 rw1.2.1 rw1.2.2)
  clear h1
  go_wp2_with fail
  (with_reducible refine HX.out.mono ?_); rintro e w2 ⟨A1, c1, rfl, h1⟩
  have HX := Lib.hid (prcvX (Frm.emp.star LsP.frm) h1 (by simp) rw2.1 rw2.2.1 rw2.2.2)
  clear h1
  go_wp2_with fail
  (with_reducible refine HX.out.mono ?_); rintro e w3 ⟨A2, c2, rfl, h1⟩
  have HX := Lib.hid (prcvX ((Frm.emp.star LsP.frm).star LsP.frm) h1 (by simp) rw3.1 rw3.2.1 rw3.2.2)
  clear h1
  go_wp2_with fail
  (with_reducible refine HX.out.mono ?_); rintro e w4 ⟨A3, c3, rfl, h1⟩
  have HX := Lib.hid (prcvX (((Frm.emp.star LsP.frm).star LsP.frm).star LsP.frm) h1 (by simp) rw4.1 rw4.2.1 rw4.2.2)
  clear h1
  go_wp2_with fail
  (with_reducible refine HX.out.mono ?_); rintro e w5 ⟨A4, c4, rfl, h1⟩
  have hL2 : LsA csI 1 3 (.slice A2 2 c2) [7, 8] w5 := by
    obtain ⟨T, _, _, _, _, ⟨_, _, _, _, ⟨_, _, _, _, ⟨_, _, _, _, _, hl⟩, _⟩, _⟩, _⟩ := h1.get
    exact hl.2.any hl.1
  have hL4 : LsA csI 1 3 (.slice A4 2 c4) [10, 11] w5 := by
    obtain ⟨T, _, _, _, _, ⟨_, _, _, _, _, hl⟩, _⟩ := h1.get
    exact hl.2.any hl.1
  have hb6 := (Below.refl w5.heap.size w5).alloc (Nat.le_refl _) (.cells #[.int .i64 7, .int .i64 8] 3)
  have HX := Lib.hid (eqI_any (by simp) (hL2.later hb6) (LsA.ints (n := 2) (fun _ => rfl) w5 [7, 8] rfl (by omega) rfl))
  have HB := Lib.hid (h1.out.trans (hb6.mono h1.size))
  have HL4 := Lib.hid (hL4.later hb6)
  unfold Calm at HX
  clear h1 hL2 hL4 hb6
  go_wp2_with fail
  (with_reducible refine HX.out.mono ?_); rintro e w7 ⟨rfl, hb7⟩
  have hb8 := (Below.refl w7.heap.size w7).alloc (Nat.le_refl _) (.cells #[.int .i64 10, .int .i64 11] 3)
  have HX := Lib.hid (eqI_any (by simp) ((HL4.out.later hb7).later hb8) (LsA.ints (n := 2) (fun _ => rfl) w7 [10, 11] rfl (by omega) rfl))
  have HB2 := Lib.hid ((HB.out.trans (hb7.mono HB.out.size)).trans (hb8.mono (by have := HB.out.size; have := hb7.size; omega)))
  unfold Calm at HX
  clear hb7 hb8 HB HL4
  go_wp2_with fail
  (with_reducible refine HX.out.mono ?_); rintro e w8 ⟨rfl, hb9⟩
  have HF := Lib.hid (HB2.out.trans (hb9.mono HB2.out.size))
  clear hb9 HB2 HX
  go_wp2
  go_ret
  exact ⟨rfl, HF.out⟩
end Go.Proofs.Ythmncipenjhknaa

