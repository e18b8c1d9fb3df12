/-
  Layer 13: the walk of the statement on a sequence of calls (SfqScript). Every input; no condition.
-/
import Derived.Test.YtkfhjpgapmfiaaaSqAct
import Derived.Test.YtkfhjpgapmfiaaaSqSame
import Derived.Test.YtkfhjpgapmfiaaaPsAwake
import Derived.Test.YtkfhjpgapmfiaaaPsCopy
namespace Go.Proofs.Ytkfhjpgapmfiaaa
open Go.ChangeShapes Go.WideShapes Go.ChangeAt Go.RowKit
set_option linter.unusedVariables false

/-- The choices, and both references in state s. -/
def SQ (B : Nat) (a : Option Addr) (len cap : Nat) (wI : World) (q R S : Nat) (s : Sf) (w : World) : Prop :=
  ∃ T Q, Has B a len cap q wI w ∧ PsO T R s w ∧ RsO Q S s w ∧ (∀ k, T k → B < k ∧ ¬ Q k) ∧ (∀ k, Q k → B < k)
/-- The same, and a copy of the program's. -/
def SQm (B : Nat) (a : Option Addr) (len cap : Nat) (wI : World) (q R S R2 : Nat) (s : Sf) (w : World) : Prop :=
  ∃ T Q T2, Has B a len cap q wI w ∧ PsO T R s w ∧ RsO Q S s w ∧ PsO T2 R2 s w ∧ (∀ k, T k → B < k ∧ ¬ Q k ∧ ¬ T2 k) ∧ (∀ k, Q k → B < k ∧ ¬ T2 k) ∧ (∀ k, T2 k → B < k)
/-- Two pairs. -/
structure Sq2 (B : Nat) (R S R2 S2 : Nat) (T Q T2 Q2 : Nat → Prop) : Prop where
  bT : ∀ k, T k → B < k
  bQ : ∀ k, Q k → B < k
  bT2 : ∀ k, T2 k → B < k
  bQ2 : ∀ k, Q2 k → B < k
  tq : ∀ k, T k → ¬ Q k
  tt : ∀ k, T k → ¬ T2 k
  tq2 : ∀ k, T k → ¬ Q2 k
  t2q : ∀ k, T2 k → ¬ Q k
  t2q2 : ∀ k, T2 k → ¬ Q2 k
  s2 : ¬ Q S2
  s1 : ¬ Q2 S
def SQ2 (B : Nat) (a : Option Addr) (len cap : Nat) (wI : World) (q R S : Nat) (s : Sf) (R2 S2 : Nat) (s2 : Sf) (w : World) : Prop :=
  ∃ T Q T2 Q2, Has B a len cap q wI w ∧ PsO T R s w ∧ RsO Q S s w ∧ PsO T2 R2 s2 w ∧ RsO Q2 S2 s2 w ∧ Sq2 B R S R2 S2 T Q T2 Q2
section
variable {B : Nat} {a : Option Addr} {len cap : Nat} {wI : World} {q R S R2 S2 : Nat} {s s2 : Sf} {w w' : World} {e : Ending}
theorem SQ.has (h : SQ B a len cap wI q R S s w) : Has B a len cap q wI w := by obtain ⟨T, Q, h1, _⟩ := h; exact h1
theorem SQ.below (h : SQ B a len cap wI q R S s w) (hb : Below w.heap.size w w') : SQ B a len cap wI q R S s w' := by
  obtain ⟨T, Q, h1, h2, h3, h4, h5⟩ := h
  exact ⟨T, Q, h1.below hb, h2.below hb, h3.below hb, h4, h5⟩
theorem SQ.act (h : SQ B a len cap wI q R S s w) (haw : s.away ≤ 900000000000000000) (hq : q ≤ 100000000) :
    Calls Try.prog 12 #[.pointer (some ⟨B, 0, none⟩), .pointer (some ⟨R, 0, none⟩), .pointer (some ⟨S, 0, none⟩)] w fun e w' => e = .returned (.bool true) ∧ ∃ (q' : Nat) (s' : Sf), q' ≤ q + 6 ∧ s'.away ≤ s.away + 1099511627776 ∧ SQ B a len cap wI q' R S s' w' := by
  obtain ⟨T, Q, h1, h2, h3, h4, h5⟩ := h
  refine (act_any (AX.start h1 h2 h3 h4 h5) haw hq).mono ?_
  rintro e w' ⟨e1, q', s', k1, k2, T', Q', g1, g2, g3, g4, g5, _⟩
  exact ⟨e1, q', s', k1, k2, T', Q', g1, g2, g3, g4, g5⟩
theorem SQ.same (h : SQ B a len cap wI q R S s w) : Calls Try.prog 13 #[.pointer (some ⟨R, 0, none⟩), .pointer (some ⟨S, 0, none⟩)] w fun e w' => e = .returned (.bool true) ∧ SQ B a len cap wI q R S s w' := by
  have h' := h
  obtain ⟨T, Q, h1, h2, h3, h4, h5⟩ := h
  exact (same_any h2 h3).mono fun e w' k => ⟨k.1, h'.below k.2⟩
theorem SQ.copy1 (h : SQ B a len cap wI q R S s w) : Calls Try.prog 14 #[.pointer (some ⟨R, 0, none⟩)] w fun e w' => ∃ R2, e = .returned (.pointer (some ⟨R2, 0, none⟩)) ∧ SQm B a len cap wI q R S R2 s w' := by
  obtain ⟨T, Q, h1, h2, h3, h4, h5⟩ := h
  refine (pscopy_any h2).mono ?_
  rintro e w' ⟨e1, k1, k2⟩
  exact ⟨_, e1, T, Q, _, h1.below k2, h2.below k2, h3.below k2, k1, fun k hk => ⟨(h4 k hk).1, (h4 k hk).2, fun e => by have := h2.lt k hk; omega⟩, fun k hk => ⟨h5 k hk, fun e => by have := h3.lt k hk; omega⟩, fun k hk => by have := h1.1.lt; omega⟩
theorem SQm.copy2 (h : SQm B a len cap wI q R S R2 s w) : Calls Try.prog 15 #[.pointer (some ⟨S, 0, none⟩)] w fun e w' => ∃ S2, e = .returned (.pointer (some ⟨S2, 0, none⟩)) ∧ SQ2 B a len cap wI q R S s R2 S2 s w' := by
  obtain ⟨T, Q, T2, h1, h2, h3, h4, h5, h6, h7⟩ := h
  refine (rscopy_any h3).mono ?_
  rintro e w' ⟨e1, k1, k2⟩
  have hB := h1.1.lt
  have hS := h3.lt S h3.mem
  refine ⟨_, e1, T, Q, T2, _, h1.below k2, h2.below k2, h3.below k2, h4.below k2, k1, fun k hk => (h5 k hk).1, fun k hk => (h6 k hk).1, h7, fun k hk => ?_, fun k hk => (h5 k hk).2.1, fun k hk => (h5 k hk).2.2, fun k hk hk2 => ?_, fun k hk hk2 => (h6 k hk2).2 hk, fun k hk hk2 => ?_, fun hk => by have := h3.lt _ hk; omega, fun hk => ?_⟩
  · rcases hk with hk | rfl
    · exact (h6 k hk.1).1
    · exact hB
  · rcases hk2 with e2 | e2
    · exact (h5 k hk).2.1 e2.1
    · have := h2.lt k hk; omega
  · rcases hk2 with e2 | e2
    · exact (h6 k e2.1).2 hk
    · have := h4.lt k hk; omega
  · rcases hk with e2 | e2
    · exact e2.2 rfl
    · omega
theorem SQ2.swap (h : SQ2 B a len cap wI q R S s R2 S2 s2 w) : SQ2 B a len cap wI q R2 S2 s2 R S s w := by
  obtain ⟨T, Q, T2, Q2, h1, h2, h3, h4, h5, h6⟩ := h
  exact ⟨T2, Q2, T, Q, h1, h4, h5, h2, h3, h6.bT2, h6.bQ2, h6.bT, h6.bQ, h6.t2q2, fun k hk e => h6.tt k e hk, h6.t2q, h6.tq2, h6.tq, h6.s1, h6.s2⟩
theorem SQ2.one (h : SQ2 B a len cap wI q R S s R2 S2 s2 w) : SQ B a len cap wI q R S s w := by
  obtain ⟨T, Q, T2, Q2, h1, h2, h3, h4, h5, h6⟩ := h
  exact ⟨T, Q, h1, h2, h3, fun k hk => ⟨h6.bT k hk, h6.tq k hk⟩, h6.bQ⟩
theorem SQ2.below (h : SQ2 B a len cap wI q R S s R2 S2 s2 w) (hb : Below w.heap.size w w') : SQ2 B a len cap wI q R S s R2 S2 s2 w' := by
  obtain ⟨T, Q, T2, Q2, h1, h2, h3, h4, h5, h6⟩ := h
  exact ⟨T, Q, T2, Q2, h1.below hb, h2.below hb, h3.below hb, h4.below hb, h5.below hb, h6⟩
theorem SQ2.act (h : SQ2 B a len cap wI q R S s R2 S2 s2 w) (haw : s.away ≤ 900000000000000000) (hq : q ≤ 100000000) :
    Calls Try.prog 12 #[.pointer (some ⟨B, 0, none⟩), .pointer (some ⟨R, 0, none⟩), .pointer (some ⟨S, 0, none⟩)] w fun e w' => e = .returned (.bool true) ∧ ∃ (q' : Nat) (s' : Sf), q' ≤ q + 6 ∧ s'.away ≤ s.away + 1099511627776 ∧ SQ2 B a len cap wI q' R S s' R2 S2 s2 w' := by
  obtain ⟨T, Q, T2, Q2, h1, h2, h3, h4, h5, h6⟩ := h
  refine (act_any (AX.start h1 h2 h3 (fun k hk => ⟨h6.bT k hk, h6.tq k hk⟩) h6.bQ) haw hq).mono ?_
  rintro e w' ⟨e1, q', s', k1, k2, T', Q', g1, g2, g3, g4, g5, g6, g7, g8⟩
  have hm2 := h5.mem
  refine ⟨e1, q', s', k1, k2, T', Q', T2, Q2, g1, g2, g3, h4.chg g8 (fun k hk e => ?_), h5.chg g8 (fun k hk e => ?_), fun k hk => (g4 k hk).1, g5, h6.bT2, h6.bQ2, fun k hk => (g4 k hk).2, fun k hk e => ?_, fun k hk e => ?_, fun k hk e => ?_, h6.t2q2, fun e => ?_, h6.s1⟩
  · rcases e with e | e | e
    · exact h6.tt k e hk
    · exact h6.t2q k hk (e ▸ h3.mem)
    · have := h6.bT2 k hk; omega
  · rcases e with e | e | e
    · exact h6.tq2 k e hk
    · exact h6.s1 (e ▸ hk)
    · have := h6.bQ2 k hk; omega
  · rcases g6 k hk with e2 | e2
    · exact h6.tt k e2 e
    · have := h4.lt k e; omega
  · rcases g6 k hk with e2 | e2
    · exact h6.tq2 k e2 e
    · have := h5.lt k e; omega
  · rcases g7 k e with e2 | e2
    · exact h6.t2q k hk e2
    · have := h4.lt k hk; omega
  · rcases g7 _ e with e2 | e2
    · exact h6.s2 e2
    · have := h5.lt _ hm2; omega
theorem SQ2.same (h : SQ2 B a len cap wI q R S s R2 S2 s2 w) : Calls Try.prog 13 #[.pointer (some ⟨R, 0, none⟩), .pointer (some ⟨S, 0, none⟩)] w fun e w' => e = .returned (.bool true) ∧ SQ2 B a len cap wI q R S s R2 S2 s2 w' := by
  have h' := h
  obtain ⟨T, Q, T2, Q2, h1, h2, h3, h4, h5, h6⟩ := h
  exact (same_any h2 h3).mono fun e w' k => ⟨k.1, h'.below k.2⟩
/-- Both references, new. -/
theorem SQ.new {at_ : Int} {w1 w2 : World} {T Q : Nat → Prop} (h : Has B a len cap q wI w) (h1 : PsO T R (Sf.new at_) w1 ∧ (∀ k, T k → w.heap.size ≤ k) ∧ Below w.heap.size w w1) (h2 : RsO Q S (Sf.new at_) w2 ∧ (∀ k, Q k → w1.heap.size ≤ k) ∧ Below w1.heap.size w1 w2) : SQ B a len cap wI q R S (Sf.new at_) w2 := by
  obtain ⟨g2, g3, g4⟩ := h1
  obtain ⟨k2, k3, k4⟩ := h2
  have hB := h.1.lt
  have hz := g4.size
  exact ⟨T, Q, (h.below g4).below k4, g2.below k4, k2, fun k hk => ⟨by have := g3 k hk; omega, fun e => by have := k3 k e; have := g2.lt k hk; omega⟩, fun k hk => by have := k3 k hk; omega⟩
end
theorem Has.pick {B : Nat} {a : Option Addr} {len cap q : Nat} {w0 w : World} (hh : Has B a len cap q w0 w) (hq : q ≤ 1000000000) (L : List Int) (cs : Array Value) (ty : TypeId) (he : cs = (L.map (Value.int .i64)).toArray) (h0 : 0 < L.length) (h1 : L.length ≤ 100) (m : Int) (hm : m = L.length) :
    Calls Try.prog 9 #[.pointer (some ⟨B, 0, none⟩), .int .i64 m] (w.alloc (.cells cs ty)) fun e w' => ∃ (n : Nat) (v : Int), n < L.length ∧ e = .returned (.int .i64 n) ∧ v ∈ L ∧ w'.cell? ⟨w.heap.size, n, none⟩ = some (.int .i64 v) ∧ Has B a len cap (q + 1) w0 w' := by
  subst he hm
  have hlt := hh.1.lt
  refine (next_any B a len cap q L.length _ (by omega) (by omega) hq (hh.1.alloc _)).mono ?_
  rintro e w' ⟨r, r0, r1, rfl, hg, ho⟩
  obtain ⟨n, rfl⟩ := Int.eq_ofNat_of_zero_le r0
  obtain ⟨v, hv, hc⟩ := pickN (L := L) rfl ho hlt (n := n) (by omega)
  exact ⟨n, v, by omega, rfl, hv, hc, hg, (hh.2.alloc (by omega) _).trans (ho.below (by simp; omega))⟩
/-- Both New's give the same error. -/
theorem two_new (b : Int) : ∃ g : Int, (∀ W : World, Calls Try.prog 10 #[.int .i64 b] W fun e w' => ∃ p, e = .returned (.tuple #[p, .int .i64 g]) ∧ Below W.heap.size W w') ∧
    (∀ W : World, Calls Try.prog 11 #[.int .i64 b] W fun e w' => ∃ p, e = .returned (.tuple #[p, .int .i64 g]) ∧ Below W.heap.size W w') := by
  by_cases hb : 1 ≤ b ∧ b ≤ 1099511627776
  · refine ⟨0, fun W => (psnew_any hb W).mono ?_, fun W => (rsnew_any hb W).mono ?_⟩
    · rintro e w' ⟨T, R, e1, _, _, h4⟩; exact ⟨_, e1, h4⟩
    · rintro e w' ⟨T, R, e1, _, _, h4⟩; exact ⟨_, e1, h4⟩
  · refine ⟨1, fun W => (psnew_no hb W).mono ?_, fun W => (rsnew_no hb W).mono ?_⟩
    · rintro e w' ⟨e1, rfl⟩; exact ⟨_, e1, Below.refl _ _⟩
    · rintro e w' ⟨e1, rfl⟩; exact ⟨_, e1, Below.refl _ _⟩
set_option maxRecDepth 100000 in
set_option maxHeartbeats 8000000 in
theorem walkScript13 (A : Option Addr) (len cap : Nat) (rb : Int) (w : World) (he : Elems w.heap.size A len w) :
    Calls Try.prog 3 #[.slice A len cap, .int .i64 rb] w (Calm (.bool true) w) := by
  have HG := Lib.hid (Has.new (cap := cap) he)
  have HAW := Lib.hid (fun w => awake13_any w)
  have HN := Lib.hid (fun a (h : 1 ≤ a ∧ a ≤ 1099511627776) w => psnew_any h w)
  have HR := Lib.hid (fun a (h : 1 ≤ a ∧ a ≤ 1099511627776) w => rsnew_any h w)
  obtain ⟨g, h1, h2⟩ := two_new rb
  have HE1 := Lib.hid h1
  have HE2 := Lib.hid h2
  clear he h1 h2
  unfold Calm at HAW ⊢
  go_enter Try.func3, Try.ntmps3
  go_wp2_with fail
  (with_reducible refine (new_any A len cap _).mono ?_); rintro e w' ⟨rfl, rfl⟩
  have HX := Lib.hid (HG.out.pick (by omega) [1, 1099511627776, 268435456, 1073741824] #[.int .i64 1, .int .i64 1099511627776, .int .i64 268435456, .int .i64 1073741824] 2 rfl (by decide) (by decide) 4 rfl)
  clear HG
  go_wp2_with fail
  (with_reducible refine HX.out.mono ?_); rintro e w1 ⟨n, v, hn, rfl, hv, hc, hh⟩
  simp only [World.size_alloc] at hc
  simp only [List.length_cons, List.length_nil] at hn
  have hv2 : 1 ≤ v ∧ v ≤ 1099511627776 := by simp at hv; omega
  have HX2 := Lib.hid (HN.out v hv2 w1)
  have HH := Lib.hid hh
  have hn3 : (n : Int) < 4 := by omega
  clear hv hh HX HN
  go_wp2_with fail
  (with_reducible refine HX2.out.mono ?_); rintro e w2 ⟨T1, R, rfl, hn1⟩
  have HX3 := Lib.hid (HR.out v hv2 w2)
  have HN1 := Lib.hid hn1
  clear hn1 HX2 hc HR
  go_wp2_with fail
  (with_reducible refine HX3.out.mono ?_); rintro e w3 ⟨Q1, S, rfl, hn2⟩
  have HS := Lib.hid (SQ.new HH.out HN1.out hn2)
  clear hn2 HX3 HN1 HH
  go_wp2_with fail
  go_loopw [11] (fun s11 wr => ∃ (i q : Nat) (s : Sf), i ≤ 40 ∧ s11 = .int .i64 i ∧ q ≤ 1 + 20 * i ∧ s.away ≤ 2199023255552 * i ∧ Hid (SQ w.heap.size A len cap w q R S s wr)) (fun s11 _ => 40 - (intOf s11).toNat)
  case atStart => exact ⟨0, 1, Sf.new v, by omega, rfl, by omega, Int.le_refl 0, HS⟩
  case round =>
    obtain ⟨i, q, s, hi, rfl, hq, haw, HS2⟩ := hrel
    clear HS
    by_cases hlt : i < 40
    · have hlt' : (i : Int) < 40 := by omega
      have HX := Lib.hid (HS2.out.act (by omega) (by omega))
      clear HS2
      go_wp2_with fail
      (with_reducible refine HX.out.mono ?_); rintro e w4 ⟨rfl, q1, s1, hq1, ha1, hso⟩
      have HX2 := Lib.hid hso.same
      clear hso HX
      go_wp2_with fail
      (with_reducible refine HX2.out.mono ?_); rintro e w5 ⟨rfl, hso⟩
      have HS3 := Lib.hid hso
      clear hso HX2
      by_cases h20 : i = 20
      · subst h20
        have HX := Lib.hid HS3.out.copy1
        clear HS3
        go_wp2_with fail
        (with_reducible refine HX.out.mono ?_); rintro e w6 ⟨R2, rfl, hm⟩
        have HX2 := Lib.hid hm.copy2
        clear hm HX
        go_wp2_with fail
        (with_reducible refine HX2.out.mono ?_); rintro e w7 ⟨S2, rfl, h2⟩
        have HX := Lib.hid (h2.act (by omega) (by omega))
        clear h2 HX2
        go_wp2_with fail
        (with_reducible refine HX.out.mono ?_); rintro e w8 ⟨rfl, q2, s2, hq2, ha2, h2⟩
        have HX2 := Lib.hid h2.swap.same
        clear h2 HX
        go_wp2_with fail
        (with_reducible refine HX2.out.mono ?_); rintro e w9 ⟨rfl, h2⟩
        have HX := Lib.hid (h2.act (by omega) (by omega))
        clear h2 HX2
        go_wp2_with fail
        (with_reducible refine HX.out.mono ?_); rintro e w10 ⟨rfl, q3, s3, hq3, ha3, h2⟩
        have HX2 := Lib.hid h2.swap.same
        clear h2 HX
        go_wp2_with fail
        (with_reducible refine HX2.out.mono ?_); rintro e w11 ⟨rfl, h2⟩
        have HF := Lib.hid h2.one
        clear h2 HX2
        go_wp2
        go_roundw
        case rel => exact ⟨21, q3, s2, by omega, by go_num, by omega, by omega, HF⟩
        case measure => simp [intOf]
      · have hb20 : ((i : Int) == 20) = false := by simp; omega
        go_wp2
        go_roundw
        case rel => exact ⟨i + 1, q1, s1, by omega, by go_num, by omega, by omega, HS3⟩
        case measure => simp [intOf]; omega
    · obtain rfl : i = 40 := by omega
      have HX := Lib.hid (HE1.out wr)
      have HF := Lib.hid HS2.out.has.2
      clear HS2
      go_wp2_with fail
      (with_reducible refine HX.out.mono ?_); rintro e w3 ⟨p, rfl, hb⟩
      have HF2 := Lib.hid (HF.out.trans (hb.mono HF.out.size))
      have HX2 := Lib.hid (HE2.out w3)
      clear hb HF HX
      go_wp2_with fail
      (with_reducible refine HX2.out.mono ?_); rintro e w4 ⟨p2, rfl, hb⟩
      have HF3 := Lib.hid (HF2.out.trans (hb.mono HF2.out.size))
      have HX3 := Lib.hid (HAW.out w4)
      have hgg : (g == g) = true := by simp
      clear hb HF2 HX2
      go_wp2_with fail
      (with_reducible refine HX3.out.mono ?_); rintro e w5 ⟨rfl, hb⟩
      have HF4 := Lib.hid (HF3.out.trans (hb.mono HF3.out.size))
      clear hb HF3 HX3
      go_wp2
      go_ret
      exact ⟨rfl, HF4.out⟩
end Go.Proofs.Ytkfhjpgapmfiaaa

