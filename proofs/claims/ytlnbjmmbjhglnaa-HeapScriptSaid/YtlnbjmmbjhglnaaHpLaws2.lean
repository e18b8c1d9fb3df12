/-
  Layer 4: the walk of the statement about full heaps (HeapFull). Every input; no condition.
-/
import Derived.Test.YtlnbjmmbjhglnaaHpLaws
namespace Go.Proofs.Ytlnbjmmbjhglnaa
open Go.ChangeShapes Go.WideShapes Go.ChangeAt Go.RowKit
set_option linter.unusedVariables false

/-- Choices in block B beside a heap behind pointer H. -/
def GH (B : Nat) (a : Option Addr) (len cap q : Nat) (w0 : World) (C H c n : Nat) (M : Int → Option Int) (w : World) : Prop :=
  Has B a len cap q w0 w ∧ B < C ∧ ∃ S, HeapO C H S c n M w
section
variable {B len cap q C H c n : Nat} {a : Option Addr} {w0 w : World} {M : Int → Option Int}
theorem GH.call {f : FuncId} {args : Array Value} {n' : Nat} {M' : Int → Option Int} {x : Value} (h : GH B a len cap q w0 C H c n M w) (hc : ∀ S, HeapO C H S c n M w → Calls Try.prog f args w (HpAns C H S c n' M' x w)) :
    Calls Try.prog f args w fun e w' => e = .returned x ∧ GH B a len cap q w0 C H c n' M' w' := by
  obtain ⟨h1, h2, S, h3⟩ := h
  refine (hc S h3).mono ?_
  rintro e w' ⟨S', rfl, h4, h5, _⟩
  exact ⟨rfl, h1.trod (fun i hi => by have := h3.lo i hi; omega) h5, h2, S', h4⟩
theorem GH.next {N : Int} (h : GH B a len cap q w0 C H c n M w) (n0 : 1 ≤ N) (n1 : N ≤ 1000000000) (hq : q ≤ 1000000000) :
    Calls Try.prog 8 #[.pointer (some ⟨B, 0, none⟩), .int .i64 N] w fun e w' => ∃ r : Int, 0 ≤ r ∧ r < N ∧ e = .returned (.int .i64 r) ∧ GH B a len cap (q + 1) w0 C H c n M w' := by
  obtain ⟨h1, h2, S, h3⟩ := h
  refine (has_next B a len cap q N w0 w h1 n0 n1 hq).mono ?_
  rintro e w' ⟨r, r0, r1, rfl, h4, h5⟩
  exact ⟨r, r0, r1, rfl, h4, h2, S, h3.only h2 h5⟩
theorem GH.int64 (h : GH B a len cap q w0 C H c n M w) (hq : q ≤ 900000000) :
    Calls Try.prog 19 #[.pointer (some ⟨B, 0, none⟩)] w fun e w' => ∃ x : Int, -9223372036854775808 ≤ x ∧ x ≤ 9223372036854775807 ∧ e = .returned (.int .i64 x) ∧ GH B a len cap (q + 3) w0 C H c n M w' := by
  obtain ⟨h1, h2, S, h3⟩ := h
  refine (has_int64 B a len cap q w0 w h1 hq).mono ?_
  rintro e w' ⟨x, x0, x1, rfl, h4, h5⟩
  exact ⟨x, x0, x1, rfl, h4, h2, S, h3.only h2 h5⟩
theorem GH.below {w' : World} (h : GH B a len cap q w0 C H c n M w) (hb : Below w.heap.size w w') : GH B a len cap q w0 C H c n M w' := by
  obtain ⟨h1, h2, S, h3⟩ := h
  exact ⟨h1.below hb, h2, S, (h3.same hb).1⟩
theorem GH.end_ (h : GH B a len cap q w0 C H c n M w) : Below B w0 w := h.1.2
theorem GH.start {W w' : World} {e : Ending} {K : Nat} (hg : Has B a len cap q w0 W) (ha : NewAns K W e w') : ∃ H, e = .returned (.tuple #[.pointer (some ⟨H, 0, none⟩), .int .i64 0]) ∧ GH B a len cap q w0 W.heap.size H K 0 noM w' := by
  obtain ⟨H, S, rfl, h1, h2⟩ := ha
  exact ⟨H, rfl, hg.below h2, hg.1.lt, S, h1⟩
end
/-- M holds just the ids from 0 to j - 1. -/
def Dom (M : Int → Option Int) (j : Nat) : Prop := ∀ id, (M id).isSome = true ↔ (0 ≤ id ∧ id < (j : Int))
theorem dom_nil : Dom noM 0 := fun id => ⟨(fun h => by cases h), (fun h => by omega)⟩
theorem Dom.put {M : Int → Option Int} {j : Nat} (h : Dom M j) (x : Int) : Dom (putM M j x) (j + 1) := by
  intro id
  unfold putM
  by_cases h1 : id = j
  · rw [if_pos h1]; simp; omega
  · rw [if_neg h1, h id]; omega
theorem Dom.upd {M : Int → Option Int} {j : Nat} (h : Dom M j) {i : Int} (h0 : 0 ≤ i) (h1 : i < j) (x : Int) : Dom (putM M i x) j := by
  intro id
  unfold putM
  by_cases h2 : id = i
  · rw [if_pos h2]; simp; omega
  · rw [if_neg h2, h id]
theorem Dom.no {M : Int → Option Int} {j : Nat} (h : Dom M j) {i : Int} (hi : i < 0 ∨ (j : Int) ≤ i) : M i = none := isSome_not (fun e => by have := (h i).1 e; omega)
theorem Dom.yes {M : Int → Option Int} {j : Nat} (h : Dom M j) {i : Int} (h0 : 0 ≤ i) (h1 : i < j) : (M i).isSome = true := (h i).2 ⟨h0, h1⟩

set_option maxRecDepth 100000 in
set_option maxHeartbeats 8000000 in
theorem walkFull (a : Option Addr) (len cap : Nat) (x : Int) (x0 : 0 ≤ x) (x1 : x ≤ 255) (w : World) (he : Elems w.heap.size a len w) :
    Calls Try.prog 5 #[.slice a len cap, .int .u8 x] w fun e w' => e = .returned (.bool true) ∧ Below w.heap.size w w' := by
  have hg := Has.new (cap := cap) he
  obtain ⟨K, eK⟩ : ∃ K : Nat, 1 + x % 20 = (K : Int) := ⟨(1 + x % 20).toNat, by omega⟩
  have hK1 : 1 ≤ K := by omega
  have hK2 : K ≤ 20 := by omega
  have HN := Lib.hid (fun W => hnew_ok K W hK1 (by omega))
  have HG := Lib.hid hg
  clear he hg
  go_enter Try.func5, Try.ntmps5
  go_wp2_with (go_at_call 7; (with_reducible refine (new_any a len cap _).mono ?_); rintro e w' ⟨rfl, rfl⟩)
  (with_reducible refine (HN.out _).mono ?_)
  intro e w1 ha
  obtain ⟨H, rfl, h1⟩ := GH.start HG.out ha
  have H1 := Lib.hid h1
  generalize (w.alloc _).heap.size = C at H1
  clear ha h1
  go_wp2_with fail
  go_loopw [9] (fun i wr => ∃ (j q : Nat) (M : Int → Option Int), j ≤ K ∧ i = .int .i64 j ∧ q ≤ 3 * j ∧ Hid (GH w.heap.size a len cap q w C H K j M wr) ∧ Hid (Dom M j)) (fun i _ => K - (intOf i).toNat)
  case atStart => exact ⟨0, 0, noM, Nat.zero_le _, rfl, Nat.le_refl _, H1, dom_nil⟩
  case round =>
    obtain ⟨j, q, M, hj, rfl, hq, HJ, HD⟩ := hrel
    clear H1 HG HN
    by_cases hlt : j < K
    · have HI := Lib.hid (HJ.out.int64 (by omega))
      clear HJ
      go_wp2_with fail
      (with_reducible refine HI.out.mono ?_)
      rintro e w2 ⟨y, y0, y1, rfl, h2⟩
      have HP := Lib.hid (h2.call (fun S hS => push_good hS (id := (j : Int)) (key := y) (by omega) (by omega) (HD.out.no (.inr (Int.le_refl _))) (by omega)))
      clear h2 HI
      go_wp2_with fail
      (with_reducible refine HP.out.mono ?_)
      rintro e w3 ⟨rfl, h3⟩
      have H3 := Lib.hid h3
      have HD3 := Lib.hid (HD.out.put y)
      clear h3 HP HD
      go_wp2
      go_roundw
      case rel => exact ⟨j + 1, q + 3, _, by omega, by go_num, by omega, H3, HD3⟩
      case measure => simp [intOf]; omega
    · obtain rfl : j = K := by omega
      have d1 : ((4 : Int) != 4) = false := rfl
      have d2 : ((7 : Int) != 7) = false := rfl
      have HP := Lib.hid (HJ.out.call (fun S hS => push_err hS (id := (j : Int)) (key := 0) (r := 4) (push_full (by omega) (by rw [HD.out.no (.inr (Int.le_refl _))]; simp) rfl) (by decide)))
      clear HJ
      go_wp2_with fail
      (with_reducible refine HP.out.mono ?_)
      rintro e w2 ⟨rfl, h2⟩
      have HP2 := Lib.hid (h2.call (fun S hS => push_err hS (id := 0) (key := 0) (r := 7) (push_dup (by omega) (HD.out.yes (by omega) (by omega))) (by decide)))
      clear h2 HP
      go_wp2_with fail
      (with_reducible refine HP2.out.mono ?_)
      rintro e w3 ⟨rfl, h3⟩
      have HL := Lib.hid (show Calls Try.prog 12 #[.pointer (some ⟨H, 0, none⟩)] w3 _ from by obtain ⟨_, _, S, hS⟩ := h3; exact len_any hS)
      have H3 := Lib.hid h3
      clear h3 HP2
      have d3 : ((j : Int) != (j : Int)) = false := by simp
      go_wp2_with fail
      (with_reducible refine HL.out.mono ?_)
      rintro e w4 ⟨rfl, rfl⟩
      have HX := Lib.hid (H3.out.next (N := (j : Int)) (by omega) (by omega) (by omega))
      clear H3 HL
      go_wp2_with fail
      (with_reducible refine HX.out.mono ?_)
      rintro e w4 ⟨r, r0, r1, rfl, h4⟩
      have HP3 := Lib.hid (h4.call (fun S hS => rem_good hS (HD.out.yes r0 r1)))
      clear h4 HX
      go_wp2_with fail
      (with_reducible refine HP3.out.mono ?_)
      rintro e w5 ⟨rfl, h5⟩
      have HI := Lib.hid (h5.int64 (by omega))
      clear h5 HP3
      go_wp2_with fail
      (with_reducible refine HI.out.mono ?_)
      rintro e w6 ⟨y, y0, y1, rfl, h6⟩
      have hm1 : delM M r j = none := by unfold delM; rw [if_neg (by omega)]; exact HD.out.no (.inr (Int.le_refl _))
      have HP4 := Lib.hid (h6.call (fun S hS => push_good hS (id := (j : Int)) (key := y) (by omega) (by omega) hm1 (by omega)))
      clear h6 HI hm1
      go_wp2_with fail
      (with_reducible refine HP4.out.mono ?_)
      rintro e w7 ⟨rfl, h7⟩
      have hm2 : putM (delM M r) j y ((j : Int) + 1) = none := by unfold putM delM; rw [if_neg (by omega), if_neg (by omega)]; exact HD.out.no (.inr (by omega))
      have HP5 := Lib.hid (h7.call (fun S hS => push_err hS (id := (j : Int) + 1) (key := 0) (r := 4) (push_full (by omega) (by rw [hm2]; simp) (by omega)) (by decide)))
      clear h7 HP4 hm2
      go_wp2_with fail
      (with_reducible refine HP5.out.mono ?_)
      rintro e w8 ⟨rfl, h8⟩
      have HA := Lib.hid (awake_any w8)
      have HE := Lib.hid h8.end_
      clear h8 HP5
      go_wp2_with fail
      (with_reducible refine HA.out.mono ?_)
      rintro e w9 ⟨rfl, hb9⟩
      have HE9 := Lib.hid (HE.out.trans (hb9.mono HE.out.size))
      clear hb9 HA HE
      go_wp2
      go_ret
      exact ⟨rfl, HE9.out⟩
end Go.Proofs.Ytlnbjmmbjhglnaa
