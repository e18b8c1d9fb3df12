/-
  Layer 4: the walk of the statement about updates (HeapUpdate). Every input; no condition.
-/
import Derived.Test.YtlnbjmmbjhglnaaHpLaws2
namespace Go.Proofs.Ytlnbjmmbjhglnaa
open Go.ChangeShapes Go.WideShapes Go.ChangeAt Go.RowKit
set_option linter.unusedVariables false

theorem putM_twice {M : Int → Option Int} {i k v : Int} (h : M i = some v) : putM (putM M i k) i v = M := by
  funext x; unfold putM
  by_cases e : x = i
  · rw [if_pos e, e, h]
  · rw [if_neg e, if_neg e]
theorem GH.list {B len cap q C H c n : Nat} {a : Option Addr} {w0 w : World} {M : Int → Option Int} (h : GH B a len cap q w0 C H c n M w) :
    Calls Try.prog 14 #[.pointer (some ⟨H, 0, none⟩)] w fun e w' => ListAns M n w e w' ∧ GH B a len cap q w0 C H c n M w' := by
  obtain ⟨_, _, S, hS⟩ := id h
  refine (entries_any hS).mono fun e w' ha => ⟨ha, ?_⟩
  obtain ⟨A, d, F, _, _, _, _, hb⟩ := ha
  exact h.below hb
/-- Choices beside a heap, and a list of entries F that a call made, in blocks from L1 on and below L2 in which no block of the heap's lies. -/
def GL (B : Nat) (a : Option Addr) (len cap q : Nat) (w0 : World) (C H c n : Nat) (M : Int → Option Int) (L1 L2 : Nat) (A : Option Addr) (m : Nat) (F : Nat → Int × Int) (w : World) : Prop :=
  Has B a len cap q w0 w ∧ B < C ∧ B < L1 ∧ L2 ≤ w.heap.size ∧ Prs w L1 L2 A m (fun j => (F j).1) (fun j => (F j).2) ∧ ∃ S, HeapO C H S c n M w ∧ ∀ k, S k → k < L1 ∨ L2 ≤ k
section
variable {B len cap q C H c n L1 L2 m : Nat} {a A : Option Addr} {w0 w : World} {M : Int → Option Int} {F : Nat → Int × Int}
theorem GH.list_kept (h : GH B a len cap q w0 C H c n M w) :
    Calls Try.prog 14 #[.pointer (some ⟨H, 0, none⟩)] w fun e w' => ∃ (A : Option Addr) (d : Nat) (F : Nat → Int × Int), e = .returned (.slice A n d) ∧ Asc F n ∧ Cont F n M ∧ GL B a len cap q w0 C H c n M w.heap.size w'.heap.size A n F w' := by
  obtain ⟨h1, h2, S, hS⟩ := h
  refine (entries_any hS).mono ?_
  rintro e w' ⟨A, d, F, rfl, hp, ha, hc, hb⟩
  exact ⟨A, d, F, rfl, ha, hc, h1.below hb, h2, h1.1.lt, Nat.le_refl _, hp, S, (hS.same hb).1, fun k hk => .inl (hS.lo k hk).2⟩
theorem GL.heap (h : GL B a len cap q w0 C H c n M L1 L2 A m F w) : GH B a len cap q w0 C H c n M w := by
  obtain ⟨h1, h2, _, _, _, S, h3, _⟩ := h; exact ⟨h1, h2, S, h3⟩
theorem GL.call {f : FuncId} {args : Array Value} {n' : Nat} {M' : Int → Option Int} {x : Value} (h : GL B a len cap q w0 C H c n M L1 L2 A m F w) (hc : ∀ S, HeapO C H S c n M w → Calls Try.prog f args w (HpAns C H S c n' M' x w)) :
    Calls Try.prog f args w fun e w' => e = .returned x ∧ GL B a len cap q w0 C H c n' M' L1 L2 A m F w' := by
  obtain ⟨h1, h2, h3, h4, h5, S, h6, h7⟩ := h
  refine (hc S h6).mono ?_
  rintro e w' ⟨S', rfl, k1, k2, k3⟩
  refine ⟨rfl, h1.trod (fun i hi => by have := h6.lo i hi; omega) k2, h2, h3, Nat.le_trans h4 k2.size, h5.keep (fun b o b1 b2 => World.cell?_of_block (w := w) (k2.block b (by omega) (fun e => by have := h7 b e; omega))), S', k1, fun k hk => ?_⟩
  rcases k3 k hk with e | e
  · exact h7 k e
  · exact .inr (by omega)
theorem GL.next {N : Int} (h : GL B a len cap q w0 C H c n M L1 L2 A m F w) (n0 : 1 ≤ N) (n1 : N ≤ 1000000000) (hq : q ≤ 1000000000) :
    Calls Try.prog 8 #[.pointer (some ⟨B, 0, none⟩), .int .i64 N] w fun e w' => ∃ r : Int, 0 ≤ r ∧ r < N ∧ e = .returned (.int .i64 r) ∧ GL B a len cap (q + 1) w0 C H c n M L1 L2 A m F w' := by
  obtain ⟨h1, h2, h3, h4, h5, S, h6, h7⟩ := h
  refine (has_next B a len cap q N w0 w h1 n0 n1 hq).mono ?_
  rintro e w' ⟨r, r0, r1, rfl, k1, k2⟩
  exact ⟨r, r0, r1, rfl, k1, h2, h3, Nat.le_trans h4 k2.size, h5.only k2 (.inl h3) h4, S, h6.only h2 k2, h7⟩
theorem GL.below {w' : World} (h : GL B a len cap q w0 C H c n M L1 L2 A m F w) (hb : Below w.heap.size w w') : GL B a len cap q w0 C H c n M L1 L2 A m F w' := by
  obtain ⟨h1, h2, h3, h4, h5, S, h6, h7⟩ := h
  exact ⟨h1.below hb, h2, h3, Nat.le_trans h4 hb.size, Cells.below h5 hb h4, S, (h6.same hb).1, h7⟩
theorem GL.list2 (h : GL B a len cap q w0 C H c n M L1 L2 A m F w) :
    Calls Try.prog 14 #[.pointer (some ⟨H, 0, none⟩)] w fun e w' => ∃ (A' : Option Addr) (d : Nat) (F' : Nat → Int × Int), e = .returned (.slice A' n d) ∧ Prs w' w.heap.size w'.heap.size A' n (fun j => (F' j).1) (fun j => (F' j).2) ∧ Asc F' n ∧ Cont F' n M ∧ GL B a len cap q w0 C H c n M L1 L2 A m F w' := by
  obtain ⟨_, _, _, _, _, S, hS, _⟩ := id h
  refine (entries_any hS).mono ?_
  rintro e w' ⟨A', d, F', rfl, hp, h1, h2, hb⟩
  exact ⟨A', d, F', rfl, hp, h1, h2, h.below hb⟩
theorem GL.prs (h : GL B a len cap q w0 C H c n M L1 L2 A m F w) : Prs w L1 L2 A m (fun j => (F j).1) (fun j => (F j).2) := by
  obtain ⟨_, _, _, _, h5, _⟩ := h; exact h5
end
theorem prs_same {w : World} {L B n : Nat} {A : Option Addr} {F G : Nat → Int × Int} (h : Prs w L B A n (fun j => (F j).1) (fun j => (F j).2)) (he : ∀ j, j < n → F j = G j) : Prs w L B A n (fun j => (G j).1) (fun j => (G j).2) :=
  Cells.same h (fun j hj => by unfold prs; simp only [he (j / 2) (by omega)])
set_option maxRecDepth 100000 in
set_option maxHeartbeats 8000000 in
theorem walkUpdate (a : Option Addr) (len cap : Nat) (id key : Int) (w : World) (he : Elems w.heap.size a len w) :
    Calls Try.prog 6 #[.slice a len cap, .int .i64 id, .int .i64 key] w fun e w' => e = .returned (.bool true) ∧ Below w.heap.size w w' := by
  have hg := Has.new (cap := cap) he
  have HN := Lib.hid (fun W => (show Calls Try.prog 9 #[.int .i64 16] W (NewAns 16 W) from hnew_ok 16 W (by decide) (by decide)))
  have HG := Lib.hid hg
  clear he hg
  go_enter Try.func6, Try.ntmps6
  go_wp2_with (go_at_call 7; (with_reducible refine (new_any a len cap _).mono ?_); rintro e w' ⟨rfl, rfl⟩)
  (with_reducible refine (HN.out _).mono ?_)
  intro e w1 ha
  obtain ⟨H, rfl, h1⟩ := GH.start HG.out ha
  have H1 := Lib.hid h1
  generalize (w.alloc _).heap.size = C at H1
  clear ha h1
  go_wp2_with fail
  go_loopw [10] (fun i wr => ∃ (j q : Nat) (M : Int → Option Int), j ≤ 10 ∧ i = .int .i64 j ∧ q ≤ 3 * j ∧ Hid (GH w.heap.size a len cap q w C H 16 j M wr) ∧ Hid (Dom M j)) (fun i _ => 10 - (intOf i).toNat)
  case atStart => exact ⟨0, 0, noM, Nat.zero_le _, rfl, Nat.le_refl _, H1, dom_nil⟩
  case round =>
    obtain ⟨j, q, M, hj, rfl, hq, HJ, HD⟩ := hrel
    clear H1 HG HN
    by_cases hlt : j < 10
    · have hlt' : (j : Int) < 10 := by omega
      have HI := Lib.hid (HJ.out.int64 (by omega))
      clear HJ
      go_wp2_with fail
      (with_reducible refine HI.out.mono ?_)
      rintro e w2 ⟨y, y0, y1, rfl, h2⟩
      have HP := Lib.hid (h2.call (fun S hS => push_good hS (id := (j : Int)) (key := y) (by omega) (by omega) (HD.out.no (.inr (Int.le_refl _))) (by omega)))
      clear h2 HI
      go_wp2_with fail
      (with_reducible refine HP.out.mono ?_)
      rintro e w3 ⟨rfl, h3⟩
      have H3 := Lib.hid h3
      have HD3 := Lib.hid (HD.out.put y)
      clear h3 HP HD
      go_wp2
      go_roundw
      case rel => exact ⟨j + 1, q + 3, _, by omega, by go_num, by omega, H3, HD3⟩
      case measure => simp [intOf]; omega
    · obtain rfl : j = 10 := by omega
      have HL := Lib.hid (HJ.out.list_kept)
      clear HJ
      go_wp2_with fail
      (with_reducible refine HL.out.mono ?_)
      rintro e w2 ⟨A, d, F, rfl, hasc, hcont, h2⟩
      have HAS := Lib.hid hasc
      have HCO := Lib.hid hcont
      have HX := Lib.hid (h2.next (N := 10) (by omega) (by omega) (by omega))
      generalize wr.heap.size = L1 at HX
      generalize w2.heap.size = L2 at HX
      clear h2 HL hasc hcont
      go_wp2_with fail
      (with_reducible refine HX.out.mono ?_)
      rintro e w3 ⟨r, r0, r1, rfl, h3⟩
      have hyes : (M r).isSome = true := HD.out.yes r0 (by omega)
      obtain ⟨old, hold⟩ : ∃ old, M r = some old := Option.isSome_iff_exists.1 hyes
      have HK := Lib.hid (h3.call (fun S hS => key_any hS r))
      rw [hold] at HK
      clear h3 HX
      have HO := Lib.hid hold
      have HY := Lib.hid hyes
      clear hold hyes
      go_wp2_with fail
      (with_reducible refine HK.out.mono ?_)
      rintro e w4 ⟨rfl, h4⟩
      have HU := Lib.hid (h4.call (fun S hS => upd_good hS (id := r) (key := key) HY.out))
      clear h4 HK
      go_wp2_with fail
      (with_reducible refine HU.out.mono ?_)
      rintro e w5 ⟨rfl, h5⟩
      have d0 : ((0 : Int) != 0) = false := rfl
      have HU2 := h5.call (fun S hS => upd_good hS (id := r) (key := old) (by simp [putM]))
      rw [putM_twice HO.out] at HU2
      have HU2' := Lib.hid HU2
      clear h5 HU HU2
      go_wp2_with fail
      (with_reducible refine HU2'.out.mono ?_)
      rintro e w6 ⟨rfl, h6⟩
      have HL2 := Lib.hid h6.list2
      clear h6 HU2'
      go_wp2_with fail
      (with_reducible refine HL2.out.mono ?_)
      rintro e w7 ⟨A2, d2, F2, rfl, hp2, hasc2, hcont2, h7⟩
      have hone := (asc_one 10 10 HAS.out hasc2 HCO.out hcont2).2
      have HQ := Lib.hid (equalE_any A A2 10 d d2 F L1 L2 _ _ w7 (by omega) h7.prs (prs_same hp2 (fun j hj => (hone j hj).symm)))
      have H7 := Lib.hid h7.heap
      clear h7 HL2 hp2 hasc2 hcont2 hone
      go_wp2_with fail
      (with_reducible refine HQ.out.mono ?_)
      rintro e w8 ⟨rfl, hb8⟩
      have h8 := H7.out.below hb8
      clear hb8 H7 HQ
      by_cases hin : 0 ≤ id ∧ id < 10
      · obtain ⟨i0, i1⟩ := hin
        have HU3 := Lib.hid (h8.call (fun S hS => upd_good hS (id := id) (key := key) (HD.out.yes i0 (by omega))))
        clear h8
        go_wp2_with fail
        (with_reducible refine HU3.out.mono ?_)
        rintro e w9 ⟨rfl, h9⟩
        have HK3 := h9.call (fun S hS => key_any hS id)
        rw [show putM M id key id = some key by unfold putM; rw [if_pos rfl]] at HK3
        have HK3' := Lib.hid HK3
        clear h9 HU3 HK3
        have d1 : (key == key) = true := by simp
        go_wp2_with fail
        (with_reducible refine HK3'.out.mono ?_)
        rintro e w10 ⟨rfl, h10⟩
        have HA := Lib.hid (awake_any w10)
        have HE := Lib.hid h10.end_
        clear h10 HK3'
        go_wp2_with fail
        (with_reducible refine HA.out.mono ?_)
        rintro e w11 ⟨rfl, hb9⟩
        have HE9 := Lib.hid (HE.out.trans (hb9.mono HE.out.size))
        clear hb9 HA HE
        go_wp2
        go_ret
        exact ⟨rfl, HE9.out⟩
      · have hno : M id = none := HD.out.no (by omega)
        have HU3 := Lib.hid (h8.call (fun S hS => upd_bad hS (id := id) (key := key) (by rw [hno]; simp)))
        have HNO := Lib.hid hno
        clear h8 hno
        rcases (by omega : id < 0 ∨ (¬ id < 0 ∧ 10 ≤ id)) with hi | ⟨hi0, hi⟩
        all_goals
          go_wp2_with fail
          (with_reducible refine HU3.out.mono ?_)
          rintro e w9 ⟨rfl, h9⟩
          have HK3 := h9.call (fun S hS => key_any hS id)
          rw [HNO.out] at HK3
          have HK3' := Lib.hid HK3
          clear h9 HU3 HK3
          go_wp2_with fail
          (with_reducible refine HK3'.out.mono ?_)
          rintro e w10 ⟨rfl, h10⟩
          have HA := Lib.hid (awake_any w10)
          have HE := Lib.hid h10.end_
          clear h10 HK3'
          go_wp2_with fail
          (with_reducible refine HA.out.mono ?_)
          rintro e w11 ⟨rfl, hb9⟩
          have HE9 := Lib.hid (HE.out.trans (hb9.mono HE.out.size))
          clear hb9 HA HE
          go_wp2
          go_ret
          exact ⟨rfl, HE9.out⟩
end Go.Proofs.Ytlnbjmmbjhglnaa
