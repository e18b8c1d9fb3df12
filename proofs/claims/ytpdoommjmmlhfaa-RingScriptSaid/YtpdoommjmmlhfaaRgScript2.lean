/-
  Layer 5: the walk of the statement about sequences of calls (RingScript). Every input; no condition.
-/
import Derived.Test.YtpdoommjmmlhfaaRgScript
import Derived.Deep.RegionWith
namespace Go.Proofs.Ytpdoommjmmlhfaa
open Go.ChangeShapes Go.WideShapes Go.ChangeAt Go.RowKit
set_option linter.unusedVariables false

section
variable {B len cap q C H g D R c n1 n2 : Nat} {a : Option Addr} {w0 w : World} {L1 L2 : Nat → Int}
theorem RR.length_ (h : RR B a len cap q w0 C H g D R c n1 L1 n2 L2 w) : Calls Try.prog 12 #[.pointer (some ⟨H, 0, none⟩)] w fun e w' => e = .returned (.int .i64 n1) ∧ w = w' := by
  obtain ⟨_, _, _, T, h4, _, _⟩ := h; exact rlen_any h4
theorem RR.room (h : RR B a len cap q w0 C H g D R c n1 L1 n2 L2 w) : Calls Try.prog 13 #[.pointer (some ⟨H, 0, none⟩)] w fun e w' => e = .returned (.int .i64 c) ∧ w = w' := by
  obtain ⟨_, _, _, T, h4, _, _⟩ := h; exact rcap_any h4
theorem RR.list (h : RR B a len cap q w0 C H g D R c n1 L1 n2 L2 w) {A2 : Option Addr} {d2 : Nat} (hc : w.cell? ⟨R, 1, none⟩ = some (.slice A2 n2 d2)) :
    Calls Try.prog 15 #[.pointer (some ⟨H, 0, none⟩)] w fun e w' => ∃ (A : Option Addr) (d : Nat), e = .returned (.slice A n1 d) ∧ Nums w' w.heap.size w'.heap.size A n1 L1 ∧ RR B a len cap q w0 C H g D R c n1 L1 n2 L2 w' ∧ w'.cell? ⟨R, 1, none⟩ = some (.slice A2 n2 d2) ∧ Nums w' D w'.heap.size A2 n2 L2 := by
  obtain ⟨_, _, _, T, h4, _, _⟩ := id h
  refine (rgitems_any h4).mono ?_
  rintro e w' ⟨A, d, rfl, _, hp, hb⟩
  have h' := h.below hb
  obtain ⟨A3, d3, e2, hn⟩ := h'.slice
  have e3 := cell_later hc hb
  rw [e2] at e3
  obtain ⟨rfl, rfl⟩ : A3 = A2 ∧ d3 = d2 := by simpa using e3
  exact ⟨A, d, rfl, hp, h', e2, hn⟩
theorem RR.start {W W1 W2 : World} {e1 e2 : Ending} {K : Nat} (hg : Has B a len cap q w0 W) (ha : RgNew K W e1 W1) (hb : RrNew K W1 e2 W2) : ∃ H g R, e1 = .returned (.tuple #[.pointer (some ⟨H, 0, none⟩), .int .i64 0]) ∧ e2 = .returned (.tuple #[.pointer (some ⟨R, 0, none⟩), .int .i64 0]) ∧ RR B a len cap q w0 W.heap.size H g W1.heap.size R K 0 (fun _ => 0) 0 (fun _ => 0) W2 := by
  obtain ⟨H, g, rfl, h1, h2⟩ := ha
  obtain ⟨R, T, rfl, k1, k2⟩ := hb
  exact ⟨H, g, R, rfl, rfl, (hg.below h2).below k2, hg.1.lt, by have := hg.1.lt; have := h2.size; omega, T, h1.below k2, k1, fun k e1 e2 => by have := (h1.lo k e1).2; have := (k1.lo k e2).1; omega⟩
end
set_option maxRecDepth 100000 in
set_option maxHeartbeats 16000000 in
theorem walkRingScript (a : Option Addr) (len cap : Nat) (x : Int) (w : World) (he : Elems w.heap.size a len w) :
    Calls Try.prog 3 #[.slice a len cap, .int .i64 x] w fun e w' => e = .returned (.bool true) ∧ Below w.heap.size w w' := by
  have hg := Has.new (cap := cap) he
  have HG := Lib.hid (has_next w.heap.size a len cap 0 5 w _ hg (by omega) (by omega) (by omega))
  clear he hg
  go_enter Try.func3, Try.ntmps3
  go_wp2_with (go_at_call 7; (with_reducible refine (new_any a len cap _).mono ?_); rintro e w' ⟨rfl, rfl⟩)
  (with_reducible refine HG.out.mono ?_)
  rintro e w1 ⟨r, r0, r1, rfl, hg1, _⟩
  obtain ⟨K, eK⟩ : ∃ K : Nat, 1 + r = (K : Int) := ⟨(1 + r).toNat, by omega⟩
  have hK1 : 1 ≤ K := by omega
  have hK2 : K ≤ 5 := by omega
  have HN := Lib.hid (fun W => rgnew_ok K W hK1 (by omega))
  have HR1 := Lib.hid (fun W => rrnew_ok K W hK1 (by omega))
  have HG1 := Lib.hid hg1
  clear hg1 HG
  go_wp2_with fail
  (with_reducible refine (HN.out _).mono ?_)
  intro e w2 ha
  obtain ⟨H0, g0, e0, _⟩ := id ha
  subst e0
  have HA0 := Lib.hid ha
  clear ha
  go_wp2_with fail
  (with_reducible refine (HR1.out _).mono ?_)
  intro e w3 hb
  obtain ⟨H, g, R, ee, rfl, h3⟩ := RR.start HG1.out HA0.out hb
  obtain rfl : H0 = H := by simpa using ee
  have H3 := Lib.hid h3
  generalize w1.heap.size = C at H3
  generalize w2.heap.size = D at H3
  clear hb ee h3 HA0 HN HR1 HG1
  have d0 : ((0 : Int) != 0) = false := rfl
  go_wp2_with fail
  go_loopw [11] (fun i wr => ∃ (j q n : Nat) (L : Nat → Int), j ≤ 30 ∧ i = .int .i64 j ∧ q ≤ 1 + 3 * j ∧ Hid (RR w.heap.size a len cap q w C H0 g D R K n L n L wr)) (fun i _ => 30 - (intOf i).toNat)
  case atStart => exact ⟨0, 0 + 1, 0, _, Nat.zero_le _, rfl, by omega, H3⟩
  case round =>
    obtain ⟨j, q, n, L, hj, rfl, hq, HJ⟩ := hrel
    clear H3
    by_cases hlt : j < 30
    · have hlt' : (j : Int) < 30 := by omega
      have HA := Lib.hid (rgact_any (HJ.out.below ((Below.refl _ _).drew)) (by omega))
      clear HJ
      have d3 : ∀ n : Nat, ((n : Int) != (n : Int)) = false := fun n => by simp
      go_wp2_with fail
      go_region_with (first
        | (go_at_call 11; (with_reducible refine HA.out.mono ?_); rintro e w4 ⟨q4, n4, L4, rfl, hq4, h4⟩; obtain ⟨A4, c4, e4, _⟩ := h4.slice; have H4 := Lib.hid h4; clear h4)
        | (go_at_call 12; (with_reducible refine H4.out.length_.mono ?_); rintro e w5 ⟨rfl, rfl⟩)
        | (go_at_call 13; (with_reducible refine H4.out.room.mono ?_); rintro e w5 ⟨rfl, rfl⟩)
        | (go_at_call 15; (with_reducible refine (H4.out.list e4).mono ?_); rintro e w5 ⟨A5, c5, rfl, hp5, h5, e6, hn6⟩; have H5 := Lib.hid h5; have HQ := Lib.hid (equalInt_any A5 A4 n4 c5 c4 L4 _ _ _ _ w5 (by have := h5.small; omega) hp5 hn6); clear h5 hp5 hn6)
        | (go_at_call 14; (with_reducible refine HQ.out.mono ?_); rintro e w7 ⟨rfl, hb7⟩; have H7 := Lib.hid (H5.out.below hb7); clear hb7))
      all_goals
        clear d3
        go_wp2
        go_roundw
        case rel => exact ⟨j + 1, q4, n4, L4, by omega, by go_num, by omega, H7⟩
        case measure => simp [intOf]; omega
    · obtain rfl : j = 30 := by omega
      have HE := Lib.hid HJ.out.end_
      have hBl := HJ.out.1.1.lt
      have HAW := Lib.hid (fun W => rgawake_any W)
      clear HJ
      by_cases hx : 1 ≤ x ∧ x ≤ 4096
      · obtain ⟨x0, x1⟩ := hx
        obtain ⟨X, rfl⟩ := Int.eq_ofNat_of_zero_le (show 0 ≤ x by omega)
        have HN2 := Lib.hid (rgnew_ok X wr (by omega) (by omega))
        go_wp2_with fail
        (with_reducible refine HN2.out.mono ?_)
        rintro e w4 ⟨H4, S4, rfl, _, hb4⟩
        have HE4 := Lib.hid (HE.out.trans (hb4.mono (by omega)))
        have hs4 := hb4.size
        clear hb4 HE HN2
        go_wp2_with fail
        (with_reducible refine (HAW.out _).mono ?_)
        rintro e w5 ⟨rfl, hb5⟩
        have HE5 := Lib.hid (HE4.out.trans (hb5.mono (by omega)))
        clear hb5 HE4
        go_wp2
        go_ret
        exact ⟨rfl, HE5.out⟩
      · have HN2 := Lib.hid (rgnew_bad x wr (by omega))
        rcases (by omega : x < 1 ∨ (¬ x < 1 ∧ 4096 < x)) with h1 | ⟨h1, h2⟩
        all_goals
          go_wp2_with fail
          (with_reducible refine HN2.out.mono ?_)
          rintro e w4 ⟨rfl, rfl⟩
          go_wp2_with fail
          (with_reducible refine (HAW.out _).mono ?_)
          rintro e w5 ⟨rfl, hb5⟩
          have HE5 := Lib.hid (HE.out.trans (hb5.mono (by omega)))
          clear hb5 HE
          go_wp2
          go_ret
          first | exact ⟨rfl, HE5.out⟩ | exact ⟨ret_bool (by simp; omega), HE5.out⟩
end Go.Proofs.Ytpdoommjmmlhfaa

