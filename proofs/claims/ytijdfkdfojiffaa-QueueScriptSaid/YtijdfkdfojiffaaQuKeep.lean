/-
  Layer 11's laws: a program's queue kept along calls, with and without choices; awake.
-/
import Derived.Test.YtijdfkdfojiffaaQuSome
import Derived.Test.YtijdfkdfojiffaaQpExp
import Derived.Test.YtijdfkdfojiffaaLooseS
namespace Go.Proofs.Ytijdfkdfojiffaa
open Go.ChangeShapes Go.WideShapes Go.ChangeAt Go.RowKit
set_option linter.unusedVariables false

/-- The program's queue; nothing below C has turned since w0. -/
def KQ (C : Nat) (b : Qb) (q : Qu) (w0 w : World) : Prop := C ≤ w.heap.size ∧ Below C w0 w ∧ QO C b q w
/-- The choices in block B, of which k have been taken, and the program's queue above them. -/
def GQ (B : Nat) (a : Option Addr) (len cap k : Nat) (w0 : World) (C : Nat) (b : Qb) (q : Qu) (w : World) : Prop := B < C ∧ Has B a len cap k w0 w ∧ QO C b q w
section
variable {B : Nat} {a : Option Addr} {len cap k C : Nat} {w0 w w' : World} {b : Qb} {q q' : Qu} {x : Value} {f : FuncId} {args : Array Value}
theorem QAns.kept {e : Ending} (h0 : C ≤ w.heap.size) (h : QO C b q w) (h1 : QAns C b q' x w e w') : Below C w w' :=
  h1.2.2.below h0 fun k hk => (h.lt k hk).1
theorem KQ.new {p c : Int} {e : Ending} (h : QNew p c w e w') : ∃ b : Qb, e = .returned (.tuple #[.pointer (some ⟨b.H, 0, none⟩), .int .i64 0]) ∧ KQ w.heap.size b ⟨p, c, []⟩ w w' := by
  obtain ⟨b, e1, h1, h2⟩ := h
  exact ⟨b, e1, h2.size, h2, h1⟩
theorem KQ.call (h : KQ C b q w0 w) (hc : QO C b q w → Calls Try.prog f args w (QAns C b q' x w)) : Calls Try.prog f args w fun e w' => e = .returned x ∧ KQ C b q' w0 w' ∧ Chg (qfoot b) w w' := by
  obtain ⟨h0, h1, h2⟩ := h
  refine (hc h2).mono ?_
  rintro e w' ⟨e1, h3, h4⟩
  have hb : Below C w w' := h4.below h0 fun k hk => (h2.lt k hk).1
  exact ⟨e1, ⟨Nat.le_trans h0 h4.size, h1.trans hb, h3⟩, h4⟩
theorem KQ.below (h : KQ C b q w0 w) (hb : Below w.heap.size w w') : KQ C b q w0 w' := ⟨Nat.le_trans h.1 hb.size, h.2.1.trans (hb.mono h.1), h.2.2.below hb⟩
theorem KQ.lt (h : KQ C b q w0 w) : ∀ k, qfoot b k → C ≤ k ∧ k < w.heap.size := h.2.2.lt
/-- Blocks that are not the queue's are written. -/
theorem KQ.chg {S : Nat → Prop} (h : KQ C b q w0 w) (hk : Chg S w w') (hd : ∀ k, qfoot b k → ¬ S k) (hC : ∀ k, S k → C ≤ k) : KQ C b q w0 w' :=
  ⟨Nat.le_trans h.1 hk.size, h.2.1.trans (hk.below h.1 hC), h.2.2.chg hk hd⟩
theorem GQ.new {p c : Int} {e : Ending} (h : Has B a len cap k w0 w) (h1 : QNew p c w e w') : ∃ b : Qb, e = .returned (.tuple #[.pointer (some ⟨b.H, 0, none⟩), .int .i64 0]) ∧ GQ B a len cap k w0 w.heap.size b ⟨p, c, []⟩ w' := by
  obtain ⟨b, e1, h3, h2⟩ := h1
  exact ⟨b, e1, h.1.lt, h.below h2, h3⟩
theorem GQ.chg (h : GQ B a len cap k w0 C b q w) (h4 : Chg (qfoot b) w w') : Has B a len cap k w0 w' := h.2.1.trod (S := qfoot b) (fun i hi => by have := h.1; have := (h.2.2.lt i hi).1; omega) h4
theorem GQ.call (h : GQ B a len cap k w0 C b q w) (hc : QO C b q w → Calls Try.prog f args w (QAns C b q' x w)) : Calls Try.prog f args w fun e w' => e = .returned x ∧ GQ B a len cap k w0 C b q' w' ∧ Chg (qfoot b) w w' := by
  refine (hc h.2.2).mono ?_
  rintro e w' ⟨e1, h3, h4⟩
  exact ⟨e1, ⟨h.1, h.chg h4, h3⟩, h4⟩
theorem GQ.got {l : List Pk} (h : GQ B a len cap k w0 C b q w) (hc : QO C b q w → Calls Try.prog f args w (QGot C b q' l w)) : Calls Try.prog f args w fun e w' => ∃ A c, e = .returned (.slice A l.length c) ∧ GQ B a len cap k w0 C b q' w' ∧ SrAt csP 5 w' w.heap.size w'.heap.size A l := by
  refine (hc h.2.2).mono ?_
  rintro e w' ⟨A, c, e1, ⟨h3, h4⟩, h5⟩
  exact ⟨A, c, e1, ⟨h.1, h.chg h4, h3⟩, h5⟩
theorem GQ.below (h : GQ B a len cap k w0 C b q w) (hb : Below w.heap.size w w') : GQ B a len cap k w0 C b q w' := ⟨h.1, h.2.1.below hb, h.2.2.below hb⟩
theorem GQ.ask (h : GQ B a len cap k w0 C b q w) (hc : QO C b q w → Calls Try.prog f args w (Calm x w)) : Calls Try.prog f args w fun e w' => e = .returned x ∧ GQ B a len cap k w0 C b q w' ∧ Below w.heap.size w w' := by
  refine (hc h.2.2).mono ?_
  rintro e w' ⟨e1, h3⟩
  exact ⟨e1, h.below h3, h3⟩
theorem GQ.list {l : List Pk} (h : GQ B a len cap k w0 C b q w) (hc : QO C b q w → Calls Try.prog f args w (GotP l w)) : Calls Try.prog f args w fun e w' => ∃ A c, e = .returned (.slice A l.length c) ∧ GQ B a len cap k w0 C b q w' ∧ SrAt csP 5 w' w.heap.size w'.heap.size A l := by
  refine (hc h.2.2).mono ?_
  rintro e w' ⟨A, c, e1, h3, h4⟩
  exact ⟨A, c, e1, h.below h4, SrAt.own csP_len h3 rfl⟩
theorem GQ.only (h : GQ B a len cap k w0 C b q w) {k' : Nat} (hg : Gen B a len cap k' w') (ho : Only B w w') : GQ B a len cap k' w0 C b q w' :=
  ⟨h.1, ⟨hg, h.2.1.2.trans (ho.below (by have := h.2.1.1.lt; omega))⟩, h.2.2.only h.1 ho⟩
theorem GQ.next (h : GQ B a len cap k w0 C b q w) {n : Int} (n0 : 1 ≤ n) (n1 : n ≤ 1000000000) (hk : k ≤ 1000000000) :
    Calls Try.prog 8 #[.pointer (some ⟨B, 0, none⟩), .int .i64 n] w fun e w' => ∃ r : Int, 0 ≤ r ∧ r < n ∧ e = .returned (.int .i64 r) ∧ GQ B a len cap (k + 1) w0 C b q w' ∧ Only B w w' := by
  refine (next_any B a len cap k n w n0 n1 hk h.2.1.1).mono ?_
  rintro e w' ⟨r, r0, r1, e1, h3, h4⟩
  exact ⟨r, r0, r1, e1, h.only h3 h4, h4⟩
theorem GQ.length (h : GQ B a len cap k w0 C b q w) (hk : k ≤ 1000000000) :
    Calls Try.prog 26 #[.pointer (some ⟨B, 0, none⟩)] w fun e w' => ∃ r : Int, 1 ≤ r ∧ r ≤ 4096 ∧ e = .returned (.int .i64 r) ∧ GQ B a len cap (k + 1) w0 C b q w' ∧ Only B w w' := by
  refine (length_any B a len cap k w h.2.1.1 hk).mono ?_
  rintro e w' ⟨r, r0, r1, e1, h3, h4⟩
  exact ⟨r, r0, r1, e1, h.only h3 h4, h4⟩
theorem GQ.some_ (h : GQ B a len cap k w0 C b q w) (id : Int) (hk : k ≤ 100000000) :
    Calls Try.prog 20 #[.pointer (some ⟨B, 0, none⟩), .int .i64 id] w fun e w' => ∃ p : Pk, e = .returned (aggP p) ∧ (p.i = id ∨ p.i < 1) ∧ ∃ k', k' ≤ k + 30 ∧ GQ B a len cap k' w0 C b q w' ∧ Only B w w' := by
  refine (some_any B a len cap k id w h.2.1.1 hk).mono ?_
  rintro e w' ⟨p, e1, h2, ⟨k', h3, h4⟩, h5⟩
  exact ⟨p, e1, h2, k', h3, h.only h4 h5, h5⟩
theorem GQ.bel (h : GQ B a len cap k w0 C b q w) : Below B w0 w := h.2.1.2
theorem GQ.ok (h : GQ B a len cap k w0 C b q w) : QuOk q := h.2.2.1
end
/-! ### awake -/
def pA : Pk := ⟨1, 0, 60, 0, -1⟩
structure AwC (w0 : World) (L : Nat → Bool) (vals : Nat → Value) (w : World) : Prop where
  old : Below w0.heap.size w0 w
  a0 : L 0 = true → vals 0 = .agg #[.int .i64 1, .int .i64 0, .int .i64 60, .int .i64 0, .int .i64 (-1)]
  a1 : L 1 = true → vals 1 = .agg #[.int .i64 1, .int .i64 0, .int .i64 60, .int .i64 0, .int .i64 (-1)]
  a2 : L 2 = true → ∃ g, vals 2 = .pointer (some ⟨g, 0, none⟩) ∧ w0.heap.size ≤ g ∧ ∃ p, Whole w g 40 (csP p).toArray ∧ (L 4 = true → p = pA)
  a3 : L 3 = true → ∃ g, vals 3 = .pointer (some ⟨g, 0, none⟩) ∧ w0.heap.size ≤ g ∧ ∃ p, Whole w g 40 (csP p).toArray ∧ (L 5 = true → p = pA)
  ne : L 2 = true → L 3 = true → vals 2 ≠ vals 3
theorem whole_putAt {w : World} {g : Nat} {t : TypeId} {q : Pk} (h : Whole w g t (csP q).toArray) (p : Pk) : Whole (putP w g 0 p) g t (csP p).toArray := by
  have h2 : Whole w g t (srs csP [q]).toArray := by rw [srs_one]; exact h
  have := h2.putP (k := 0) (by simp) p
  rw [Nat.zero_mul, List.set_cons_zero, srs_one] at this
  exact this
theorem whole_putFar {w : World} {g g' o : Nat} {t : TypeId} {cs : Array Value} (h : Whole w g t cs) (hn : g ≠ g') (p : Pk) : Whole (putP w g' o p) g t cs := h.carry (putP_far hn)
theorem putP_below {w0 w : World} {C g o : Nat} {p : Pk} (h : Below C w0 w) (hg : C ≤ g) : Below C w0 (putP w g o p) :=
  ((((h.setCell (p := ⟨g, o, none⟩) hg _).setCell (p := ⟨g, o + 1, none⟩) hg _).setCell (p := ⟨g, o + 2, none⟩) hg _).setCell (p := ⟨g, o + 3, none⟩) hg _).setCell (p := ⟨g, o + 4, none⟩) hg _
theorem aw11 : puE ⟨2, 100, []⟩ pA = 0 ∧ puE (puT ⟨2, 100, []⟩ pA) ⟨1, 0, 50, 0, -1⟩ = 4 ∧ puE (puT (puT ⟨2, 100, []⟩ pA) ⟨1, 0, 50, 0, -1⟩) ⟨1, 0, 40, 0, -1⟩ = 0 ∧ sumB (puT (puT (puT ⟨2, 100, []⟩ pA) ⟨1, 0, 50, 0, -1⟩) ⟨1, 0, 40, 0, -1⟩).L = 100 := by decide +kernel
section
variable {w0 w : World} {L : Nat → Bool} {vals : Nat → Value}
def vA : Value := .agg #[.int .i64 1, .int .i64 0, .int .i64 60, .int .i64 0, .int .i64 (-1)]
theorem AwC.op0 (h : AwC w0 L vals w) : AwC w0 (setL L 0) (setV vals 0 (.agg #[.int .i64 1, .int .i64 0, .int .i64 60, .int .i64 0, .int .i64 (-1)])) w :=
  ⟨h.old, fun _ => by rw [setV_at], by rw [setL_ne (by decide), setV_ne (by decide)]; exact h.a1, by rw [setL_ne (by decide), setV_ne (by decide), setL_ne (show (4 : Nat) ≠ 0 by decide)]; exact h.a2, by rw [setL_ne (by decide), setV_ne (by decide), setL_ne (show (5 : Nat) ≠ 0 by decide)]; exact h.a3, by rw [setL_ne (by decide), setL_ne (by decide), setV_ne (by decide), setV_ne (by decide)]; exact h.ne⟩
theorem AwC.op1 (h : AwC w0 L vals w) : AwC w0 (setL L 1) (setV vals 1 (.agg #[.int .i64 1, .int .i64 0, .int .i64 60, .int .i64 0, .int .i64 (-1)])) w :=
  ⟨h.old, by rw [setL_ne (by decide), setV_ne (by decide)]; exact h.a0, fun _ => by rw [setV_at], by rw [setL_ne (by decide), setV_ne (by decide), setL_ne (show (4 : Nat) ≠ 1 by decide)]; exact h.a2, by rw [setL_ne (by decide), setV_ne (by decide), setL_ne (show (5 : Nat) ≠ 1 by decide)]; exact h.a3, by rw [setL_ne (by decide), setL_ne (by decide), setV_ne (by decide), setV_ne (by decide)]; exact h.ne⟩
theorem AwC.op2 (h : AwC w0 L vals w) (g4 : L 4 = false) : AwC w0 (setL L 2) (setV vals 2 (.pointer (some ⟨w.heap.size, 0, none⟩))) (w.alloc (.cells #[.int .i64 0, .int .i64 0, .int .i64 0, .int .i64 0, .int .i64 0] 40)) := by
  refine ⟨h.old.alloc h.old.size _, by rw [setL_ne (by decide), setV_ne (by decide)]; exact h.a0, by rw [setL_ne (by decide), setV_ne (by decide)]; exact h.a1, fun _ => ⟨w.heap.size, by rw [setV_at], h.old.size, pk0, Whole.fresh w _ _, fun e => ?_⟩, ?_, ?_⟩
  · rw [setL_ne (by decide), g4] at e; cases e
  · rw [setL_ne (by decide), setV_ne (by decide), setL_ne (show (5 : Nat) ≠ 2 by decide)]
    intro h3
    obtain ⟨g, e1, e2, p, e3, e4⟩ := h.a3 h3
    exact ⟨g, e1, e2, p, e3.alloc _, e4⟩
  · rw [setV_at, setV_ne (by decide), setL_ne (show (3 : Nat) ≠ 2 by decide)]
    intro _ h3 e
    obtain ⟨g, e1, e2, p, e3, e4⟩ := h.a3 h3
    rw [e1] at e
    simp at e
    have := e3.size_lt
    omega
theorem AwC.op3 (h : AwC w0 L vals w) (g5 : L 5 = false) : AwC w0 (setL L 3) (setV vals 3 (.pointer (some ⟨w.heap.size, 0, none⟩))) (w.alloc (.cells #[.int .i64 0, .int .i64 0, .int .i64 0, .int .i64 0, .int .i64 0] 40)) := by
  refine ⟨h.old.alloc h.old.size _, by rw [setL_ne (by decide), setV_ne (by decide)]; exact h.a0, by rw [setL_ne (by decide), setV_ne (by decide)]; exact h.a1, ?_, fun _ => ⟨w.heap.size, by rw [setV_at], h.old.size, pk0, Whole.fresh w _ _, fun e => ?_⟩, ?_⟩
  · rw [setL_ne (by decide), setV_ne (by decide), setL_ne (show (4 : Nat) ≠ 3 by decide)]
    intro h3
    obtain ⟨g, e1, e2, p, e3, e4⟩ := h.a2 h3
    exact ⟨g, e1, e2, p, e3.alloc _, e4⟩
  · rw [setL_ne (by decide), g5] at e; cases e
  · rw [setV_at, setV_ne (by decide), setL_ne (show (2 : Nat) ≠ 3 by decide)]
    intro h2 _ e
    obtain ⟨g, e1, e2, p, e3, e4⟩ := h.a2 h2
    rw [e1] at e
    simp at e
    have := e3.size_lt
    omega
theorem AwC.op4 (h : AwC w0 L vals w) {g : Nat} (h2 : L 2 = true) (e : vals 2 = .pointer (some ⟨g, 0, none⟩)) (u : Value) : AwC w0 (setL L 4) (setV vals 4 u) (putP w g 0 pA) := by
  obtain ⟨g', e1, e2, p, e3, e4⟩ := h.a2 h2
  rw [e] at e1
  obtain rfl : g = g' := by simpa using e1
  refine ⟨putP_below h.old e2, by rw [setL_ne (by decide), setV_ne (by decide)]; exact h.a0, by rw [setL_ne (by decide), setV_ne (by decide)]; exact h.a1, ?_, ?_, by rw [setL_ne (by decide), setL_ne (by decide), setV_ne (by decide), setV_ne (by decide)]; exact h.ne⟩
  · rw [setL_ne (by decide), setV_ne (by decide)]
    intro _
    exact ⟨g, e, e2, pA, whole_putAt e3 pA, fun _ => rfl⟩
  · rw [setL_ne (by decide), setV_ne (by decide), setL_ne (show (5 : Nat) ≠ 4 by decide)]
    intro h3
    obtain ⟨g', d1, d2, p', d3, d4⟩ := h.a3 h3
    have hne := h.ne h2 h3
    exact ⟨g', d1, d2, p', whole_putFar d3 (fun e5 => hne (by rw [e, d1, e5])) pA, d4⟩
theorem AwC.op5 (h : AwC w0 L vals w) {g : Nat} (h3 : L 3 = true) (e : vals 3 = .pointer (some ⟨g, 0, none⟩)) (u : Value) : AwC w0 (setL L 5) (setV vals 5 u) (putP w g 0 pA) := by
  obtain ⟨g', e1, e2, p, e3, e4⟩ := h.a3 h3
  rw [e] at e1
  obtain rfl : g = g' := by simpa using e1
  refine ⟨putP_below h.old e2, by rw [setL_ne (by decide), setV_ne (by decide)]; exact h.a0, by rw [setL_ne (by decide), setV_ne (by decide)]; exact h.a1, ?_, ?_, by rw [setL_ne (by decide), setL_ne (by decide), setV_ne (by decide), setV_ne (by decide)]; exact h.ne⟩
  · rw [setL_ne (by decide), setV_ne (by decide), setL_ne (show (4 : Nat) ≠ 5 by decide)]
    intro h2
    obtain ⟨g', d1, d2, p', d3, d4⟩ := h.a2 h2
    have hne := h.ne h2 h3
    exact ⟨g', d1, d2, p', whole_putFar d3 (fun e5 => hne (by rw [e, d1, e5])) pA, d4⟩
  · rw [setL_ne (by decide), setV_ne (by decide)]
    intro _
    exact ⟨g, e, e2, pA, whole_putAt e3 pA, fun _ => rfl⟩
end
theorem qbytesO_any {C : Nat} {b : Qb} {q : Qu} {w : World} (h : QO C b q w) : Calls Try.prog 13 #[.pointer (some ⟨b.H, 0, none⟩)] w (Calm (.int .i64 (sumB q.L)) w) := by
  obtain ⟨h0, M, P, h1, h2⟩ := h
  rw [← h2.bytes]; exact qbytes_any h1 (h2.lens h0.pks)
theorem qlenO_any {C : Nat} {b : Qb} {q : Qu} {w : World} (h : QO C b q w) : Calls Try.prog 12 #[.pointer (some ⟨b.H, 0, none⟩)] w (Calm (.int .i64 q.L.length) w) := by
  obtain ⟨h0, M, P, h1, h2⟩ := h
  rw [← h2.len]
  refine (qlen_any h1).mono ?_
  rintro e w' ⟨e1, rfl⟩
  exact ⟨e1, Below.refl _ _⟩
set_option maxRecDepth 100000 in
set_option maxHeartbeats 4000000 in
theorem awake11_any (w : World) : Calls Try.prog 19 #[] w (Calm (.bool true) w) := by
  have HN := Lib.hid (qnew_any (p := 2) (c := 100) (by decide) w)
  obtain ⟨f1, f2, f3, f4⟩ := aw11
  unfold Calm
  go_enter Try.func19, Try.ntmps19
  go_wp2_with fail
  (with_reducible refine HN.out.mono ?_); intro e w1 h
  obtain ⟨b, rfl, h1⟩ := KQ.new h
  have H1 := Lib.hid (h1.below ((Below.refl _ _).alloc (Nat.le_refl _) (.cells #[.int .i64 1, .int .i64 0, .int .i64 60, .int .i64 0, .int .i64 (-1)] 40)))
  have HP := Lib.hid (Whole.fresh w1 40 #[.int .i64 1, .int .i64 0, .int .i64 60, .int .i64 0, .int .i64 (-1)])
  have hfoot := Lib.hid (fun k hk => (h1.lt k hk).2)
  have hC := Lib.hid h1.1
  have F1 := Lib.hid f1
  have F2 := Lib.hid f2
  have F3 := Lib.hid f3
  have F4 := Lib.hid f4
  clear h h1 HN f1 f2 f3 f4
  go_wp2_with fail
  refine wp_region_looseS 42 (by kernel_rfl) (by kernel_rfl) (AwC (w1.alloc (.cells #[.int .i64 1, .int .i64 0, .int .i64 60, .int .i64 0, .int .i64 (-1)] 40))) rfl ⟨(Below.refl _ _).drew, (fun h => by cases h), (fun h => by cases h), (fun h => by cases h), (fun h => by cases h), (fun h => by cases h)⟩ ?_ ?_
  · simp only [OblAllS]
    refine ⟨?_, ?_, ?_, ?_, ?_, ?_, trivial⟩
    all_goals
      intro L wx vals hi hu hcl hC
      simp [predL, predE, Region.binds, UpL] at hu
      simp [ClosedL, UpL, predL, predE, Region.binds] at hcl
      simp only [fillA, if_true, Act.put]
      simp
    · have hw := HP.out.later hC.old
      have y0 := hw.read 0
      have y1 := hw.read 1
      have y2 := hw.read 2
      have y3 := hw.read 3
      have y4 := hw.read 4
      simp at y0 y1 y2 y3 y4
      have HF := Lib.hid hC.op0
      clear hcl hu hi hC hw
      go_wp2
      exact ⟨rfl, HF.out⟩
    · have hw := HP.out.later hC.old
      have y0 := hw.read 0
      have y1 := hw.read 1
      have y2 := hw.read 2
      have y3 := hw.read 3
      have y4 := hw.read 4
      simp at y0 y1 y2 y3 y4
      have HF := Lib.hid hC.op1
      clear hcl hu hi hC hw
      go_wp2
      exact ⟨rfl, HF.out⟩
    · have g4 : L 4 = false := by cases h : L 4 <;> simp_all
      have HF := Lib.hid (hC.op2 g4)
      clear hcl hu hi hC g4
      go_wp2
      exact ⟨rfl, HF.out⟩
    · have g5 : L 5 = false := by cases h : L 5 <;> simp_all
      have HF := Lib.hid (hC.op3 g5)
      clear hcl hu hi hC g5
      go_wp2
      exact ⟨rfl, HF.out⟩
    · obtain ⟨g, e1, e2, p, e3, e4⟩ := hC.a2 hu.1
      have v0 := hC.a0 hu.2.1
      have HF := Lib.hid (fun u => hC.op4 hu.1 e1 u)
      have y0 := e3.read 0
      have y1 := e3.read 1
      have y2 := e3.read 2
      have y3 := e3.read 3
      have y4 := e3.read 4
      simp [csP] at y0 y1 y2 y3 y4
      have z0 := e3.free 0
      have z1 := e3.free 1
      have z2 := e3.free 2
      have z3 := e3.free 3
      have z4 := e3.free 4
      clear hcl hu hi hC e2 e3 e4
      simp only [v0, e1]
      clear v0 e1
      go_wp2
      exact ⟨rfl, HF.out _⟩
    · obtain ⟨g, e1, e2, p, e3, e4⟩ := hC.a3 hu.1
      have v0 := hC.a1 hu.2.1
      have HF := Lib.hid (fun u => hC.op5 hu.1 e1 u)
      have y0 := e3.read 0
      have y1 := e3.read 1
      have y2 := e3.read 2
      have y3 := e3.read 3
      have y4 := e3.read 4
      simp [csP] at y0 y1 y2 y3 y4
      have z0 := e3.free 0
      have z1 := e3.free 1
      have z2 := e3.free 2
      have z3 := e3.free 3
      have z4 := e3.free 4
      clear hcl hu hi hC e2 e3 e4
      simp only [v0, e1]
      clear v0 e1
      go_wp2
      exact ⟨rfl, HF.out _⟩
  · intro wz vals L hC hall
    obtain ⟨g4, e2, l4, p4, h4, k4⟩ := hC.a2 (hall 2 (by simp))
    obtain ⟨g5, e3, l5, p5, h5, k5⟩ := hC.a3 (hall 3 (by simp))
    obtain rfl := k4 (hall 4 (by simp))
    obtain rfl := k5 (hall 5 (by simp))
    have hne := hC.ne (hall 2 (by simp)) (hall 3 (by simp))
    have hb := hC.old
    have hng : g4 ≠ g5 := fun e => hne (by rw [e2, e3, e])
    simp only [fillA, if_true, Act.put]
    simp
    simp only [e2, e3]
    simp at l4 l5
    have hp0 := HP.out.later hb
    have hpw : w1.heap.size ≠ g4 ∧ w1.heap.size ≠ g5 := by omega
    have HP2 := Lib.hid ((hp0.other hpw.1 2 (.int .i64 50)).other hpw.2 2 (.int .i64 40))
    have H42 : Hid (Whole ((wz.setCell ⟨g4, 2, none⟩ (.int .i64 50)).setCell ⟨g5, 2, none⟩ (.int .i64 40)) g4 40 #[.int .i64 1, .int .i64 0, .int .i64 50, .int .i64 0, .int .i64 (-1)]) := Lib.hid ((show Whole wz g4 40 #[.int .i64 1, .int .i64 0, .int .i64 60, .int .i64 0, .int .i64 (-1)] from h4).put 2 (.int .i64 50) |>.other hng 2 (.int .i64 40))
    have H52 : Hid (Whole ((wz.setCell ⟨g4, 2, none⟩ (.int .i64 50)).setCell ⟨g5, 2, none⟩ (.int .i64 40)) g5 40 #[.int .i64 1, .int .i64 0, .int .i64 40, .int .i64 0, .int .i64 (-1)]) := Lib.hid (((show Whole wz g5 40 #[.int .i64 1, .int .i64 0, .int .i64 60, .int .i64 0, .int .i64 (-1)] from h5).other hng.symm 2 (.int .i64 50)).put 2 (.int .i64 40))
    have c4 : wz.cell? ⟨g4, 2, none⟩ = some (.int .i64 60) := h4.read 2
    have c5 : wz.cell? ⟨g5, 2, none⟩ = some (.int .i64 60) := h5.read 2
    have z4 := h4.free 2
    have z5 := h5.free 2
    have hkz := H1.out.below hb
    have hck : Chg (fun k => k = g4 ∨ k = g5) wz ((wz.setCell ⟨g4, 2, none⟩ (.int .i64 50)).setCell ⟨g5, 2, none⟩ (.int .i64 40)) := ((Chg.refl _ wz).setCell (.inl rfl) _ _).setCell (.inr rfl) _ _
    have hk2 := hkz.chg hck (fun k hk e => by have := hfoot.out k hk; rcases e with e | e <;> omega) (fun k e => by have := hC.old.size; have := H1.out.1; simp at this; rcases e with e | e <;> omega)
    have hfn : ∀ k, qfoot b k → k ≠ w1.heap.size ∧ k ≠ g4 ∧ k ≠ g5 := fun k hk => by have := hfoot.out k hk; omega
    have HFN := Lib.hid hfn
    have HX := hk2.call (fun hS => qpush_any hS pA)
    rw [F1.out] at HX
    have HX := Lib.hid (show Calls Try.prog 23 #[.pointer (some ⟨b.H, 0, none⟩), .agg #[.int .i64 1, .int .i64 0, .int .i64 60, .int .i64 0, .int .i64 (-1)]] _ _ from HX)
    clear hC hall e2 e3 h4 k4 h5 k5 hne hb hp0 hkz hck hk2 hfn H1 HP
    have p0 := HP2.out.read 0
    have p1 := HP2.out.read 1
    have p2 := HP2.out.read 2
    have p3 := HP2.out.read 3
    have p4 := HP2.out.read 4
    simp at p0 p1 p2 p3 p4
    go_wp2_with fail
    (with_reducible refine HX.out.mono ?_); rintro e w3 ⟨rfl, hk3, hc3⟩
    have H43 := Lib.hid (hc3.whole H42.out (fun hq => (HFN.out _ hq).2.1 rfl))
    have H53 := Lib.hid (hc3.whole H52.out (fun hq => (HFN.out _ hq).2.2 rfl))
    have HX2 := hk3.call (fun hS => qpush_any hS ⟨1, 0, 50, 0, -1⟩)
    rw [F2.out] at HX2
    have HX2 := Lib.hid (show Calls Try.prog 23 #[.pointer (some ⟨b.H, 0, none⟩), .agg #[.int .i64 1, .int .i64 0, .int .i64 50, .int .i64 0, .int .i64 (-1)]] _ _ from HX2)
    clear p0 p1 p2 p3 p4 c4 c5 z4 z5 hk3 hc3 HX H42 H52 HP2
    have p0 := H43.out.read 0
    have p1 := H43.out.read 1
    have p2 := H43.out.read 2
    have p3 := H43.out.read 3
    have p4 := H43.out.read 4
    simp at p0 p1 p2 p3 p4
    go_wp2_with fail
    (with_reducible refine HX2.out.mono ?_); rintro e w4 ⟨rfl, hk4, hc4⟩
    have H54 := Lib.hid (hc4.whole H53.out (fun hq => (HFN.out _ hq).2.2 rfl))
    have HX3 := hk4.call (fun hS => qpush_any hS ⟨1, 0, 40, 0, -1⟩)
    rw [F3.out] at HX3
    have HX3 := Lib.hid (show Calls Try.prog 23 #[.pointer (some ⟨b.H, 0, none⟩), .agg #[.int .i64 1, .int .i64 0, .int .i64 40, .int .i64 0, .int .i64 (-1)]] _ _ from HX3)
    clear p0 p1 p2 p3 p4 hk4 hc4 HX2 H43 H53
    have p0 := H54.out.read 0
    have p1 := H54.out.read 1
    have p2 := H54.out.read 2
    have p3 := H54.out.read 3
    have p4 := H54.out.read 4
    simp at p0 p1 p2 p3 p4
    go_wp2_with fail
    (with_reducible refine HX3.out.mono ?_); rintro e w5 ⟨rfl, hk5, hc5⟩
    have HB := qbytesO_any hk5.2.2
    rw [F4.out] at HB
    unfold Calm at HB
    have HB := Lib.hid HB
    have HK5 := Lib.hid hk5
    clear p0 p1 p2 p3 p4 hk5 hc5 HX3 H54
    go_wp2_with fail
    (with_reducible refine HB.out.mono ?_); rintro e w6 ⟨rfl, hb6⟩
    have HE := Lib.hid (HK5.out.below hb6).2.1
    clear hb6
    go_wp2
    go_ret
    exact ⟨rfl, HE.out⟩
end Go.Proofs.Ytijdfkdfojiffaa

