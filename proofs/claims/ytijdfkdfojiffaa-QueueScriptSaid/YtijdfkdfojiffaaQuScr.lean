/-
  Layer 11: choices and the two queues side by side (SQ); Equal at packets; the reference's Pop in one. No statement is walked here.
-/
import Derived.Test.YtijdfkdfojiffaaQuKeep
import Derived.Test.YtijdfkdfojiffaaQuRef3
import Derived.Test.YtijdfkdfojiffaaDrw
import Derived.Test.YtijdfkdfojiffaaLooseG
namespace Go.Proofs.Ytijdfkdfojiffaa
open Go.ChangeShapes Go.WideShapes Go.ChangeAt Go.RowKit
set_option linter.unusedVariables false

theorem rqpop_any {C R : Nat} {S : Nat → Prop} {q : Qu} {w : World} (h : RQO C R S q w) :
    Calls Try.prog 34 #[.pointer (some ⟨R, 0, none⟩)] w (RQAns C R S (qpT q) (.tuple #[aggP (qpV q), .int .i64 (qpE q)]) w) := by
  cases hL : q.L with
  | nil =>
    have e1 : qpT q = q := by unfold qpT; rw [hL]; obtain ⟨a, b, c⟩ := q; simp only at hL; subst hL; rfl
    have e2 : qpV q = pk0 := by unfold qpV; rw [hL]; rfl
    have e3 : qpE q = 5 := by unfold qpE; rw [if_pos hL]
    rw [e1, e2, e3]; exact rqpop_no h hL
  | cons p T =>
    have e2 : qpV q = p := by unfold qpV; rw [hL]; rfl
    have e3 : qpE q = 0 := by unfold qpE; rw [if_neg (by rw [hL]; simp)]
    rw [e2, e3]; exact rqpop_yes h hL
/-- Choices, the program's queue q, the reference's queue r. -/
def SQ (B : Nat) (a : Option Addr) (len cap k : Nat) (w0 : World) (C : Nat) (b : Qb) (D R : Nat) (q r : Qu) (w : World) : Prop :=
  B < C ∧ C ≤ D ∧ (∀ k, qfoot b k → k < D) ∧ Has B a len cap k w0 w ∧ QO C b q w ∧ ∃ S, RQO D R S r w
section
variable {B : Nat} {a : Option Addr} {len cap k C D R : Nat} {w0 w w' : World} {b : Qb} {q q' r r' : Qu} {x : Value} {f : FuncId} {args : Array Value}
theorem SQ.start {p c : Int} {e : Ending} (h : GQ B a len cap k w0 C b q w) (h1 : RQNew p c w e w') : ∃ R, e = .returned (.tuple #[.pointer (some ⟨R, 0, none⟩), .int .i64 0]) ∧ SQ B a len cap k w0 C b w.heap.size R q ⟨p, c, []⟩ w' := by
  obtain ⟨R, S, e1, h4, h5⟩ := h1
  have hC := h.2.2.lt b.H (.inl rfl)
  exact ⟨R, e1, h.1, by omega, fun k hk => (h.2.2.lt k hk).2, h.2.1.below h5, h.2.2.below h5, S, h4⟩
theorem SQ.callP (h : SQ B a len cap k w0 C b D R q r w) (hc : QO C b q w → Calls Try.prog f args w (QAns C b q' x w)) : Calls Try.prog f args w fun e w' => e = .returned x ∧ SQ B a len cap k w0 C b D R q' r w' ∧ Chg (qfoot b) w w' := by
  obtain ⟨h0, h1, h2, h3, h4, S, h5⟩ := h
  refine (hc h4).mono ?_
  rintro e w' ⟨e1, k1, k2⟩
  exact ⟨e1, ⟨h0, h1, h2, h3.trod (S := qfoot b) (fun i hi => by have := (h4.lt i hi).1; omega) k2, k1, S, h5.chg k2 (fun i i1 i2 => by have := h5.2.2 i i1; have := h2 i i2; omega)⟩, k2⟩
theorem SQ.callR (h : SQ B a len cap k w0 C b D R q r w) (hc : ∀ S, RQO D R S r w → Calls Try.prog f args w (RQAns D R S r' x w)) : Calls Try.prog f args w fun e w' => e = .returned x ∧ SQ B a len cap k w0 C b D R q r' w' ∧ ∃ S, (∀ k, S k → D ≤ k ∧ R < w.heap.size) ∧ Chg S w w' := by
  obtain ⟨h0, h1, h2, h3, h4, S, h5⟩ := h
  refine (hc S h5).mono ?_
  rintro e w' ⟨e1, S', k1, k2, k3⟩
  exact ⟨e1, ⟨h0, h1, h2, h3.trod (S := S) (fun i hi => by have := h5.2.2 i hi; omega) k2, h4.chg k2 (fun i i1 i2 => by have := h5.2.2 i i2; have := h2 i i1; omega), S', k1⟩, S, fun i hi => ⟨(h5.2.2 i hi).1, h5.lo.2⟩, k2⟩
theorem SQ.below (h : SQ B a len cap k w0 C b D R q r w) (hb : Below w.heap.size w w') : SQ B a len cap k w0 C b D R q r w' := by
  obtain ⟨h0, h1, h2, h3, h4, S, h5⟩ := h
  exact ⟨h0, h1, h2, h3.below hb, h4.below hb, S, h5.below hb⟩
theorem SQ.only (h : SQ B a len cap k w0 C b D R q r w) {k' : Nat} (hg : Gen B a len cap k' w') (ho : Only B w w') : SQ B a len cap k' w0 C b D R q r w' := by
  obtain ⟨h0, h1, h2, h3, h4, S, h5⟩ := h
  exact ⟨h0, h1, h2, ⟨hg, h3.2.trans (ho.below (by have := h3.1.lt; omega))⟩, h4.only h0 ho, S, h5.only (by omega) ho⟩
theorem SQ.next (h : SQ B a len cap k w0 C b D R q r w) {n : Int} (n0 : 1 ≤ n) (n1 : n ≤ 1000000000) (hk : k ≤ 1000000000) :
    Calls Try.prog 8 #[.pointer (some ⟨B, 0, none⟩), .int .i64 n] w fun e w' => ∃ x : Int, 0 ≤ x ∧ x < n ∧ e = .returned (.int .i64 x) ∧ SQ B a len cap (k + 1) w0 C b D R q r w' ∧ Only B w w' := by
  refine (next_any B a len cap k n w n0 n1 hk h.2.2.2.1.1).mono ?_
  rintro e w' ⟨x, x0, x1, e1, h3, h4⟩
  exact ⟨x, x0, x1, e1, h.only h3 h4, h4⟩
theorem SQ.some_ (h : SQ B a len cap k w0 C b D R q r w) (id : Int) (hk : k ≤ 100000000) :
    Calls Try.prog 20 #[.pointer (some ⟨B, 0, none⟩), .int .i64 id] w fun e w' => ∃ p : Pk, e = .returned (aggP p) ∧ ∃ k', k' ≤ k + 30 ∧ SQ B a len cap k' w0 C b D R q r w' := by
  refine (some_any B a len cap k id w h.2.2.2.1.1 hk).mono ?_
  rintro e w' ⟨p, e1, h2, ⟨k', h3, h4⟩, h5⟩
  exact ⟨p, e1, k', h3, h.only h4 h5⟩
theorem SQ.bel (h : SQ B a len cap k w0 C b D R q r w) : Below B w0 w := h.2.2.2.1.2
theorem SQ.gen (h : SQ B a len cap k w0 C b D R q r w) : Gen B a len cap k w := h.2.2.2.1.1
theorem SQ.ask (h : SQ B a len cap k w0 C b D R q r w) (hc : QO C b q w → Calls Try.prog f args w (Calm x w)) : Calls Try.prog f args w fun e w' => e = .returned x ∧ SQ B a len cap k w0 C b D R q r w' ∧ Below w.heap.size w w' := by
  refine (hc h.2.2.2.2.1).mono ?_
  rintro e w' ⟨e1, h3⟩
  exact ⟨e1, h.below h3, h3⟩
/-- The same with a list of packets at A, in blocks from E on, that are not the queues'. -/
def SQs (B : Nat) (a : Option Addr) (len cap k : Nat) (w0 : World) (C : Nat) (b : Qb) (D R : Nat) (q r : Qu) (A : Option Addr) (l : List Pk) (w : World) : Prop :=
  B < C ∧ C ≤ D ∧ (∀ k, qfoot b k → k < D) ∧ Has B a len cap k w0 w ∧ QO C b q w ∧ ∃ S E, RQO D R S r w ∧ (∀ k, S k → k < E) ∧ SrAt csP 5 w E w.heap.size A l
theorem SQ.gotP {l : List Pk} (h : SQ B a len cap k w0 C b D R q r w) (hc : QO C b q w → Calls Try.prog f args w (QGot C b q' l w)) : Calls Try.prog f args w fun e w' => ∃ A c, e = .returned (.slice A l.length c) ∧ SQs B a len cap k w0 C b D R q' r A l w' := by
  obtain ⟨h0, h1, h2, h3, h4, S, h5⟩ := h
  refine (hc h4).mono ?_
  rintro e w' ⟨A, c, e1, ⟨k1, k2⟩, k3⟩
  exact ⟨A, c, e1, h0, h1, h2, h3.trod (S := qfoot b) (fun i hi => by have := (h4.lt i hi).1; omega) k2, k1, S, w.heap.size, h5.chg k2 (fun i i1 i2 => by have := h5.2.2 i i1; have := h2 i i2; omega), fun i hi => (h5.2.2 i hi).2, k3⟩
theorem SQ.listP {l : List Pk} (h : SQ B a len cap k w0 C b D R q r w) (hc : QO C b q w → Calls Try.prog f args w (GotP l w)) : Calls Try.prog f args w fun e w' => ∃ A c, e = .returned (.slice A l.length c) ∧ SQs B a len cap k w0 C b D R q r A l w' := by
  obtain ⟨h0, h1, h2, h3, h4, S, h5⟩ := h
  refine (hc h4).mono ?_
  rintro e w' ⟨A, c, e1, k1, k2⟩
  exact ⟨A, c, e1, h0, h1, h2, h3.below k2, h4.below k2, S, w.heap.size, h5.below k2, fun i hi => (h5.2.2 i hi).2, SrAt.own csP_len k1 rfl⟩
theorem SQs.gotR {A : Option Addr} {l l' : List Pk} (h : SQs B a len cap k w0 C b D R q r A l w) (hc : ∀ S, RQO D R S r w → Calls Try.prog f args w (RQGot D R S r' l' w)) : Calls Try.prog f args w fun e w' => ∃ A' c, e = .returned (.slice A' l'.length c) ∧ SQ B a len cap k w0 C b D R q r' w' ∧ SrAt csP 5 w' 0 w'.heap.size A l ∧ SrAt csP 5 w' 0 w'.heap.size A' l' := by
  obtain ⟨h0, h1, h2, h3, h4, S, E, h5, h6, h7⟩ := h
  refine (hc S h5).mono ?_
  rintro e w' ⟨A', c, e1, ⟨S', k1, k2, k3⟩, k4⟩
  refine ⟨A', c, e1, ⟨h0, h1, h2, h3.trod (S := S) (fun i hi => by have := h5.2.2 i hi; omega) k2, h4.chg k2 (fun i i1 i2 => by have := h5.2.2 i i2; have := h2 i i1; omega), S', k1⟩, ?_, k4.wider (Nat.zero_le _) (Nat.le_refl _)⟩
  exact (h7.keep (w' := w') fun bb o i1 i2 => k2.cell i2 (fun i3 => by have := h6 bb i3; omega) o).wider (Nat.zero_le _) k2.size
theorem SQs.sq {A : Option Addr} {l : List Pk} (h : SQs B a len cap k w0 C b D R q r A l w) : SQ B a len cap k w0 C b D R q r w ∧ SrAt csP 5 w 0 w.heap.size A l := by
  obtain ⟨h0, h1, h2, h3, h4, S, E, h5, h6, h7⟩ := h
  exact ⟨⟨h0, h1, h2, h3, h4, S, h5⟩, h7.wider (Nat.zero_le _) (Nat.le_refl _)⟩
/-- What the reference's struct holds. -/
theorem SQ.ref (h : SQ B a len cap k w0 C b D R q r w) : ∃ A c, w.cell? ⟨R, 2, none⟩ = some (.slice A r.L.length c) ∧ SrAt csP 5 w 0 w.heap.size A r.L ∧ R < w.heap.size ∧ r.L.length ≤ c := by
  obtain ⟨h0, h1, h2, h3, h4, S, h5⟩ := h
  have hlo := h5.lo
  obtain ⟨g0, ⟨A, c, g1, g2⟩, g3⟩ := h5
  exact ⟨A, c, g1.cells.2.2.1, g1.row.wider (Nat.zero_le _) (Nat.le_refl _), hlo.2, g1.fit⟩
theorem SQ.okR (h : SQ B a len cap k w0 C b D R q r w) : QuOk r := by obtain ⟨_, _, _, _, _, S, h5⟩ := h; exact h5.1
theorem SQ.okP (h : SQ B a len cap k w0 C b D R q r w) : QuOk q := h.2.2.2.2.1.1
end
set_option maxHeartbeats 1000000 in
theorem equalPk_any (A B : Option Addr) (c d : Nat) (l : List Pk) (L1 B1 L2 B2 : Nat) (w : World) (hn : l.length ≤ 100000) (ha : SrAt csP 5 w L1 B1 A l) (hb : SrAt csP 5 w L2 B2 B l) :
    Calls Try.prog 15 #[.slice A l.length c, .slice B l.length d] w (Calm (.bool true) w) := by
  unfold Calm
  go_enter Try.func15, Try.ntmps15
  go_wp2
  go_loopw [5] (fun i wr => ∃ k : Nat, k ≤ l.length ∧ i = .int .i64 k ∧ ∃ q, wr = w.drewN q) (fun i _ => l.length - (intOf i).toNat)
  case atStart => exact ⟨0, Nat.zero_le _, rfl, 0, rfl⟩
  case round =>
    obtain ⟨k, hk, rfl, q, rfl⟩ := hrel
    by_cases hlt : k < l.length
    · obtain ⟨b, off, rfl, _, _, e0, e1, e2, e3, e4⟩ := ha.pk hlt
      obtain ⟨b', off', rfl, _, _, g0, g1, g2, g3, g4⟩ := hb.pk hlt
      generalize l[k] = p at *
      obtain ⟨p0, p1, p2, p3, p4⟩ := p
      simp only at e0 e1 e2 e3 e4 g0 g1 g2 g3 g4
      clear ha hb
      go_wp2
      go_quiet (fail)
      go_wp2
      go_roundw
      case rel => exact ⟨k + 1, by omega, by go_num, _, rfl⟩
      case measure => simp [intOf]; omega
    · obtain rfl : k = l.length := by omega
      clear ha hb
      go_wp2
      go_ret
      exact ⟨rfl, Below_drewN (Below.refl _ _) q⟩
end Go.Proofs.Ytijdfkdfojiffaa

