/-
  Layer 4: the walk of the statement about sequences of calls (HeapScript). Every input; no condition.
-/
import Derived.Test.YtlnbjmmbjhglnaaHpScript
import Derived.Deep.RegionWith
namespace Go.Proofs.Ytlnbjmmbjhglnaa
open Go.ChangeShapes Go.WideShapes Go.ChangeAt Go.RowKit
set_option linter.unusedVariables false

section
variable {B len cap q C H D R c n1 n2 : Nat} {a : Option Addr} {w0 w : World} {M1 M2 : Int → Option Int}
theorem HR.slice (h : HR B a len cap q w0 C H D R c n1 M1 n2 M2 w) : ∃ A d, w.cell? ⟨R, 1, none⟩ = some (.slice A n2 d) := by
  obtain ⟨_, _, _, S, T, _, ⟨v, E, h1, _⟩, _⟩ := h
  obtain ⟨A, d, rfl⟩ := h1.ents.shape
  exact ⟨A, d, h1.cells.2.1⟩
theorem HR.small (h : HR B a len cap q w0 C H D R c n1 M1 n2 M2 w) : n1 ≤ 4096 := by
  obtain ⟨_, _, _, S, T, h4, _, _⟩ := h
  have := h4.at_; omega
theorem HR.length_ (h : HR B a len cap q w0 C H D R c n1 M1 n2 M2 w) : Calls Try.prog 12 #[.pointer (some ⟨H, 0, none⟩)] w fun e w' => e = .returned (.int .i64 n1) ∧ w = w' := by
  obtain ⟨_, _, _, S, T, h4, _, _⟩ := h; exact len_any h4
theorem HR.list (h : HR B a len cap q w0 C H D R c n1 M1 n2 M2 w) :
    Calls Try.prog 14 #[.pointer (some ⟨H, 0, none⟩)] w fun e w' => ∃ (A : Option Addr) (d : Nat) (F : Nat → Int × Int), e = .returned (.slice A n1 d) ∧ Prs w' w.heap.size w'.heap.size A n1 (fun j => (F j).1) (fun j => (F j).2) ∧ Asc F n1 ∧ Cont F n1 M1 ∧ HR B a len cap q w0 C H D R c n1 M1 n2 M2 w' := by
  obtain ⟨_, _, _, S, T, h4, _, _⟩ := id h
  refine (entries_any h4).mono ?_
  rintro e w' ⟨A, d, F, rfl, hp, h1, h2, hb⟩
  exact ⟨A, d, F, rfl, hp, h1, h2, h.below hb⟩
theorem HR.rlist (h : HR B a len cap q w0 C H D R c n1 M1 n2 M2 w) :
    Calls Try.prog 15 #[.pointer (some ⟨R, 0, none⟩)] w fun e w' => ∃ (A : Option Addr) (d : Nat) (F : Nat → Int × Int), e = .returned (.slice A n2 d) ∧ Prs w' w.heap.size w'.heap.size A n2 (fun j => (F j).1) (fun j => (F j).2) ∧ Asc F n2 ∧ Cont F n2 M2 ∧ HR B a len cap q w0 C H D R c n1 M1 n2 M2 w' ∧ Below w.heap.size w w' := by
  obtain ⟨_, _, _, S, T, _, h5, _⟩ := id h
  refine (rentries_any h5).mono ?_
  rintro e w' ⟨A, d, F, rfl, hp, h1, h2, hb⟩
  exact ⟨A, d, F, rfl, hp, h1, h2, h.below hb, hb⟩
theorem HR.start {W W1 W2 : World} {e1 e2 : Ending} {K : Nat} (hg : Has B a len cap q w0 W) (ha : NewAns K W e1 W1) (hb : NewRef K W1 e2 W2) : ∃ H R, e1 = .returned (.tuple #[.pointer (some ⟨H, 0, none⟩), .int .i64 0]) ∧ e2 = .returned (.tuple #[.pointer (some ⟨R, 0, none⟩), .int .i64 0]) ∧ HR B a len cap q w0 W.heap.size H W1.heap.size R K 0 noM 0 noM W2 := by
  obtain ⟨H, S, rfl, h1, h2⟩ := ha
  obtain ⟨R, T, rfl, k1, k2⟩ := hb
  exact ⟨H, R, rfl, rfl, (hg.below h2).below k2, hg.1.lt, by have := hg.1.lt; have := h2.size; omega, S, T, (h1.same k2).1, k1, fun k e1 e2 => by have := (h1.lo k e1).2; have := (k1.lo k e2).1; omega⟩
end
theorem equalE_two (A B : Option Addr) (n c d : Nat) (F G : Nat → Int × Int) (M : Int → Option Int) (L1 B1 L2 B2 : Nat) (w : World) (hn : n ≤ 4096) (ha : Prs w L1 B1 A n (fun j => (F j).1) (fun j => (F j).2)) (hb : Prs w L2 B2 B n (fun j => (G j).1) (fun j => (G j).2))
    (a1 : Asc F n) (a2 : Asc G n) (c1 : Cont F n M) (c2 : Cont G n M) :
    Calls Try.prog 13 #[.slice A n c, .slice B n d] w fun e w' => e = .returned (.bool true) ∧ Below w.heap.size w w' :=
  equalE_any A B n c d F L1 B1 L2 B2 w hn ha (Cells.same hb (fun j hj => by unfold prs; simp only [(asc_one n n a1 a2 c1 c2).2 (j / 2) (by omega)]))
set_option maxRecDepth 100000 in
set_option maxHeartbeats 16000000 in
theorem walkScript (a : Option Addr) (len cap : Nat) (x : Int) (w : World) (he : Elems w.heap.size a len w) :
    Calls Try.prog 3 #[.slice a len cap, .int .i64 x] w fun e w' => e = .returned (.bool true) ∧ Below w.heap.size w w' := by
  have hg := Has.new (cap := cap) he
  have HG := Lib.hid (has_next w.heap.size a len cap 0 6 w _ hg (by omega) (by omega) (by omega))
  clear he hg
  go_enter Try.func3, Try.ntmps3
  go_wp2_with (go_at_call 7; (with_reducible refine (new_any a len cap _).mono ?_); rintro e w' ⟨rfl, rfl⟩)
  (with_reducible refine HG.out.mono ?_)
  rintro e w1 ⟨r, r0, r1, rfl, hg1, _⟩
  obtain ⟨K, eK⟩ : ∃ K : Nat, 1 + r = (K : Int) := ⟨(1 + r).toNat, by omega⟩
  have hK1 : 1 ≤ K := by omega
  have hK2 : K ≤ 6 := by omega
  have HN := Lib.hid (fun W => hnew_ok K W hK1 (by omega))
  have HR1 := Lib.hid (fun W => rnew_ok K W hK1 (by omega))
  have HG1 := Lib.hid hg1
  clear hg1 HG
  go_wp2_with fail
  (with_reducible refine (HN.out _).mono ?_)
  intro e w2 ha
  obtain ⟨H0, S0, e0, _⟩ := id ha
  subst e0
  have HA0 := Lib.hid ha
  clear ha
  go_wp2_with fail
  (with_reducible refine (HR1.out _).mono ?_)
  intro e w3 hb
  obtain ⟨H, R, ee, rfl, h3⟩ := HR.start HG1.out HA0.out hb
  obtain rfl : H0 = H := by simpa using ee
  have H3 := Lib.hid h3
  generalize w1.heap.size = C at H3
  generalize w2.heap.size = D at H3
  clear hb ee h3 HA0 HN HR1 HG1
  have d0 : ((0 : Int) != 0) = false := rfl
  go_wp2_with fail
  go_loopw [11] (fun i wr => ∃ (j q n : Nat) (M : Int → Option Int), j ≤ 30 ∧ i = .int .i64 j ∧ q ≤ 1 + 8 * j ∧ Hid (HR w.heap.size a len cap q w C H0 D R K n M n M wr)) (fun i _ => 30 - (intOf i).toNat)
  case atStart => exact ⟨0, 0 + 1, 0, noM, Nat.zero_le _, rfl, by omega, H3⟩
  case round =>
    obtain ⟨j, q, n, M, hj, rfl, hq, HJ⟩ := hrel
    clear H3
    by_cases hlt : j < 30
    · have hlt' : (j : Int) < 30 := by omega
      have HA := Lib.hid (act_any (HJ.out.below ((Below.refl _ _).drew)) (by omega))
      clear HJ
      have d3 : ∀ n : Nat, ((n : Int) != (n : Int)) = false := fun n => by simp
      go_wp2_with fail
      go_region_with (first
        | (go_at_call 11; (with_reducible refine HA.out.mono ?_); rintro e w4 ⟨q4, n4, M4, rfl, hq4, h4⟩; obtain ⟨A4, c4, e4⟩ := h4.slice; have H4 := Lib.hid h4; clear h4)
        | (go_at_call 12; (with_reducible refine H4.out.length_.mono ?_); rintro e w5 ⟨rfl, rfl⟩)
        | (go_at_call 14; (with_reducible refine H4.out.list.mono ?_); rintro e w5 ⟨A5, c5, F5, rfl, hp5, ha5, hc5, h5⟩; have H5 := Lib.hid h5; have HP5 := Lib.hid hp5; have HA5 := Lib.hid ha5; have HC5 := Lib.hid hc5; clear h5 hp5 ha5 hc5)
        | (go_at_call 15; (with_reducible refine H5.out.rlist.mono ?_); rintro e w6 ⟨A6, c6, F6, rfl, hp6, ha6, hc6, h6, hb6⟩; have H6 := Lib.hid h6; have HQ := Lib.hid (equalE_two A5 A6 n4 c5 c6 F5 F6 M4 _ _ _ _ w6 h6.small (Cells.below HP5.out hb6 (Nat.le_refl _)) hp6 HA5.out ha6 HC5.out hc6); clear h6 hp6 ha6 hc6 hb6)
        | (go_at_call 13; (with_reducible refine HQ.out.mono ?_); rintro e w7 ⟨rfl, hb7⟩; have H7 := Lib.hid (H6.out.below hb7); clear hb7))
      all_goals
        clear d3 e4
        go_wp2
        go_roundw
        case rel => exact ⟨j + 1, q4, n4, M4, by omega, by go_num, by omega, H7⟩
        case measure => simp [intOf]; omega
    · obtain rfl : j = 30 := by omega
      have HE := Lib.hid HJ.out.end_
      have hBl := HJ.out.1.1.lt
      have HAW := Lib.hid (fun W => awake_any W)
      clear HJ
      by_cases hx : 1 ≤ x ∧ x ≤ 4096
      · obtain ⟨x0, x1⟩ := hx
        obtain ⟨X, rfl⟩ := Int.eq_ofNat_of_zero_le (show 0 ≤ x by omega)
        have HN2 := Lib.hid (hnew_ok X wr (by omega) (by omega))
        go_wp2_with fail
        (with_reducible refine HN2.out.mono ?_)
        rintro e w4 ⟨H4, S4, rfl, _, hb4⟩
        have HE4 := Lib.hid (HE.out.trans (hb4.mono (by omega)))
        have hs4 := hb4.size
        clear hb4 HE HN2
        go_wp2_with fail
        (with_reducible refine (HAW.out _).mono ?_)
        rintro e w5 ⟨rfl, hb5⟩
        have HE5 := Lib.hid (HE4.out.trans (hb5.mono (by omega)))
        clear hb5 HE4
        go_wp2
        go_ret
        exact ⟨rfl, HE5.out⟩
      · have HN2 := Lib.hid (hnew_bad x wr (by omega))
        rcases (by omega : x < 1 ∨ (¬ x < 1 ∧ 4096 < x)) with h1 | ⟨h1, h2⟩
        all_goals
          go_wp2_with fail
          (with_reducible refine HN2.out.mono ?_)
          rintro e w4 ⟨rfl, rfl⟩
          go_wp2_with fail
          (with_reducible refine (HAW.out _).mono ?_)
          rintro e w5 ⟨rfl, hb5⟩
          have HE5 := Lib.hid (HE.out.trans (hb5.mono (by omega)))
          clear hb5 HE
          go_wp2
          go_ret
          first | exact ⟨rfl, HE5.out⟩ | exact ⟨ret_bool (by simp; omega), HE5.out⟩
end Go.Proofs.Ytlnbjmmbjhglnaa
