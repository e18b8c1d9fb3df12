/-
  Layer 19: the walk of AirtimeBest.
-/
import Derived.Test.YtcefpkibglideaaAiHelp2
import Derived.Test.YtcefpkibglideaaApZ
namespace Go.Proofs.Ytcefpkibglideaa
open Go.ChangeShapes Go.WideShapes Go.ChangeAt Go.RowKit
set_option linter.unusedVariables false

theorem rtElt : Elt csR 2 24 43 :=
  ⟨fun _ => rfl, fun a u hu => by simp [csR] at hu; rcases hu with rfl | rfl <;> rfl, by decide, Try.underlying43, .agg #[.int .i64 0, .int .i64 0], 16, by decide, by decide, by kernel_rfl⟩
section
variable {base B : Nat} {a : Option Addr} {len cap q : Nat} {w w0 : World} {X : RP}
theorem GenP.lrate (hq : q ≤ 1000000) : Acts 9 #[.pointer (some ⟨B, 0, none⟩)] base (GenP base B a len cap q) (fun x : { x : Rt × Nat // x.2 ≤ q + 3 } => .agg #[.int .i64 x.1.1.1, .int .i64 x.1.1.2]) fun x => GenP base B a len cap x.1.2 := by
  intro T w ⟨h1, h2, h3, h4⟩ hb hs
  refine (lrate_any B a len cap q w w ⟨h2, Below.refl _ _⟩ hq).mono ?_
  rintro e w' ⟨r, k', hr, hk, e1, ⟨hg, _⟩, ho⟩
  have hbl : Below base w w' := ho.below (by have := h2.lt; omega) |>.mono h4
  exact ⟨⟨(r, k'), hk⟩, e1, ⟨T, ⟨h1, hg, h3.kept hbl, h4⟩, fun k hk => .inl hk⟩, Chg.of_only ho ((h1 B).2 rfl)⟩
end
/-- A row of structs of two numbers as a list. -/
theorem prs_list {w : World} {A : Option Addr} {n : Nat} {I V : Nat → Int} (h : Prs w 0 w.heap.size A n I V) : SrAt csR 2 w 0 w.heap.size A ((List.range n).map fun i => (I i, V i)) := by
  intro i hi
  have hin : i < n := by simpa using hi
  obtain ⟨b, off, e1, e2, e3, e4, e5⟩ := h.at_ hin
  refine ⟨b, off, e1, e2, e3, fun k hk => ?_⟩
  rw [List.getElem_map, List.getElem_range]
  have : k = 0 ∨ k = 1 := by omega
  rcases this with rfl | rfl
  · exact e4.trans rfl
  · exact e5.trans rfl
def inL4 : List Int := [0, 100, 5000, 262144, 262145]
theorem inL4_at {B : Nat} {w w' : World} (hB : B ≠ w.heap.size) (h : DrR B (w.alloc (.cells #[.int .i64 0, .int .i64 100, .int .i64 5000, .int .i64 262144, .int .i64 262145] 3)) w') {m : Nat} (hm : m < 5) : ∃ z, w'.cell? ⟨w.heap.size, m, none⟩ = some (.int .i64 z) := by
  have hf := Whole.fresh w 3 #[.int .i64 0, .int .i64 100, .int .i64 5000, .int .i64 262144, .int .i64 262145]
  have e := (h.cell (o := m) hB.symm (by simp)).trans (hf.read m)
  have : m = 0 ∨ m = 1 ∨ m = 2 ∨ m = 3 ∨ m = 4 := by omega
  rcases this with rfl | rfl | rfl | rfl | rfl <;> exact ⟨_, e.trans rfl⟩
set_option maxRecDepth 100000 in
set_option maxHeartbeats 16000000 in
theorem walkBest19 (A : Option Addr) (len cap : Nat) (A1 : Option Addr) (cap1 : Nat) (R : List Rt) (b : Int) (w : World) (he : Elems w.heap.size A len w) (hn1 : R.length ≤ 9223372036854775807) (c1 : SrAt csR 2 w 0 w.heap.size A1 R) :
    Calls Try.prog 6 #[.slice A len cap, .slice A1 R.length cap1, .int .i64 b] w (Calm (.bool true) w) := by
  have h0 := Lib.hid (GenP.new (w0 := w) (cap := cap) he (Below.refl _ _) he)
  have HAW := Lib.hid (fun w => awake19_any w)
  have HRAW := Lib.hid (fun (W : World) (hw : Below w.heap.size w W) (h30 : R.length ≤ 30) => best_any (c := cap1) b (c1.later hw) (by omega))
  clear he c1
  obtain ⟨nR, hnR⟩ : ∃ nR, R.length = nR := ⟨_, rfl⟩
  rw [hnR] at HRAW hn1 ⊢
  clear hnR
  unfold AiB Calm at *
  go_enter Try.func6, Try.ntmps6
  go_wp2_with fail
  (with_reducible refine (new_any A len cap _).mono ?_); rintro e w' ⟨rfl, rfl⟩
  go_wp2_with fail
  go_loopw [8] (fun i wr => ∃ j q : Nat, j ≤ 5 ∧ i = .int .i64 j ∧ q ≤ 20 * j ∧ Hid (Inv w.heap.size w (GenP w.heap.size w.heap.size A len cap q) wr)) (fun i _ => 5 - (intOf i).toNat)
  case atStart => exact ⟨0, 0, by omega, rfl, by omega, h0⟩
  case round =>
    obtain ⟨j, q, hj, rfl, hq, HJ⟩ := hrel
    clear h0
    by_cases hlt : j < 5
    · have hlt' : (j : Int) < 5 := by omega
      have HX := Lib.hid (HJ.out.call (GenP.next (n := 5) (by omega) (by omega) (by omega)))
      clear HJ HAW HRAW
      go_wp2_with fail
      (with_reducible refine HX.out.mono ?_); rintro e w2 ⟨⟨r, r0, r1⟩, rfl, h1⟩
      obtain ⟨k0, rfl⟩ := Int.eq_ofNat_of_zero_le r0
      have hk5 : k0 ≤ 4 := by omega
      have HI0 := Lib.hid (Inv.row0 (cs := csR) (m := 2) (t := 24) h1)
      clear HX h1
      go_wp2_with fail
      go_loopw [9, 10] (fun s9 s10 wr => ∃ (k q2 : Nat) (L : List Rt) (A9 : Option Addr) (c9 : Nat), L.length + k ≤ 4 ∧ s10 = .int .i64 k ∧ s9 = .slice A9 L.length c9 ∧ q2 ≤ 20 * j + 1 + 3 * L.length ∧ Hid (Inv w.heap.size w (Star (RowP csR 2 24 w.heap.size (.slice A9 L.length c9) L) (GenP w.heap.size w.heap.size A len cap q2)) wr)) (fun _ s10 _ => (intOf s10).toNat)
      case atStart => exact ⟨k0, q + 1, [], none, 0, by simp; omega, rfl, rfl, by simp; omega, HI0⟩
      case round =>
        obtain ⟨k, q2, L, A9, c9, hk, rfl, rfl, hq2, HI⟩ := hrel
        clear HI0
        by_cases hk0 : 0 < k
        · have hk0' : (0 : Int) < k := by omega
          have HX := Lib.hid (HI.out.call (Acts.right RowP.frm (GenP.lrate (by omega))))
          clear HI
          go_wp2_with fail
          (with_reducible refine HX.out.mono ?_); rintro e w3 ⟨⟨⟨⟨x, y⟩, q3⟩, hq3⟩, rfl, h1⟩
          simp only at hq3 h1
          obtain ⟨A8, c8, w4, hrun, h4⟩ := Inv.app rtElt h1 GenP.frm (by omega) (x, y)
          unfold csR at hrun
          simp only at hrun
          have hll : (L ++ [(x, y)]).length = L.length + 1 := by simp
          have HI2 := Lib.hid h4
          have HVE := Lib.hid (show Value.slice A8 (L.length + 1) c8 = .slice A8 (L ++ [(x, y)]).length c8 by rw [hll])
          rw [← hll] at HI2
          clear HX h1 h4
          obtain ⟨kk, rfl⟩ : ∃ kk, k = kk + 1 := ⟨k - 1, by omega⟩
          go_wp2_with (at_builtin; refine wpList_append_run rfl (.tmp 23) (.tmp 26) 43 rfl rfl rfl hrun ?_)
          go_roundw
          case rel => exact ⟨kk, q3, L ++ [(x, y)], A8, c8, by rw [hll]; omega, by go_num, HVE.out, by rw [hll]; omega, HI2⟩
          case measure => simp [intOf]
        · obtain rfl : k = 0 := by omega
          have hL4 : L.length ≤ 4 := by omega
          have HX := Lib.hid (HI.out.call (Acts.right RowP.frm (GenP.next (n := 9) (by omega) (by omega) (by omega))))
          clear HI
          go_wp2_with fail
          (with_reducible refine HX.out.mono ?_); rintro e w3 ⟨⟨r, r0, r1⟩, rfl, h1⟩
          have HZ := Lib.hid (Inv.app_zero rtElt (tn := 3) Try.underlying3 (z0 := ((0, 0) : Rt)) (by kernel_rfl) h1 GenP.frm (by omega) (k := 13) (by omega) (by omega))
          have H1 := Lib.hid h1
          clear HX h1
          by_cases hr0 : r = 0
          · subst hr0
            obtain ⟨A8, c8, w4, hrun, h4⟩ := HZ.out
            have hll : (L ++ List.replicate 13 ((0, 0) : Rt)).length = L.length + 13 := by simp
            rw [← hll] at h4
            have hrun' : (Builtin.append_ #[43, 3] 43 #[.slice A9 L.length c9, .int .i64 13]).run Try.prog w3 = .ok (.slice A8 (L.length + 13) c8) w4 := hrun
            clear hrun HZ H1
            have hL30 : (L ++ List.replicate 13 ((0, 0) : Rt)).length ≤ 40 := by omega
            have HLN := Lib.hid hll
            rw [← hll] at hrun'
            clear hll
            generalize L ++ List.replicate 13 ((0, 0) : Rt) = M at *
            generalize L.length = nL at *
            have HLST := Lib.hid h4
            clear h4
            go_wp2_with (at_builtin; refine Lib.wpList_append_run _ rfl _ _ _ _ rfl _ _ rfl rfl _ _ hrun' ?_)
            have h5 := HLST.out.step (RowP.frm.star GenP.frm) ((Below.refl w4.heap.size w4).alloc (Nat.le_refl _) (.cells #[.int .i64 0, .int .i64 100, .int .i64 5000, .int .i64 262144, .int .i64 262145] 3))
            have hBn : w.heap.size ≠ w4.heap.size := by
              obtain ⟨_, _, _, _, _, _, hp⟩ := HLST.out.get
              have := hp.2.1.lt; omega
            have HX := Lib.hid (h5.nextD RowP.frm (n := 5) (by omega) (by omega) (by omega))
            clear h5 HLST
            (with_reducible refine HX.out.mono ?_); rintro e w5 ⟨r5, s0, s1, rfl, h6, hdr⟩
            obtain ⟨m5, rfl⟩ := Int.eq_ofNat_of_zero_le s0
            obtain ⟨z5, hz5⟩ := inL4_at hBn hdr (m := m5) (by omega)
            have hm5 : m5 ≤ 4 := by omega
            have HBE := Lib.hid (best_any (c := c8) z5 (LsG.at_ (Inv.rowA rtElt h6) rfl) hL30)
            have H6 := Lib.hid h6.drop
            unfold AiB at HBE
            clear h6 hdr hBn HX
            go_wp2_with fail
            (with_reducible refine HBE.out.mono ?_); rintro e w6 ⟨rfl, hb⟩
            have H7 := Lib.hid (H6.out.step GenP.frm hb)
            clear hb H6 HBE hz5
            go_wp2
            go_roundw
            case rel => exact ⟨j + 1, _, by omega, by go_num, by omega, H7⟩
            case measure => simp [intOf]; omega
          · have hrz : (r == 0) = false := by simpa using hr0
            have hL30 : L.length ≤ 40 := by omega
            have h4 := H1.out
            clear HZ H1 hr0
            obtain ⟨A8, hA8⟩ : ∃ A8, A9 = A8 := ⟨_, rfl⟩
            obtain ⟨c8, hc8⟩ : ∃ c8, c9 = c8 := ⟨_, rfl⟩
            obtain ⟨w4, hw4⟩ : ∃ w4, w3 = w4 := ⟨_, rfl⟩
            subst hA8 hc8 hw4
            have HLST := Lib.hid h4
            clear h4
            obtain ⟨M, hM⟩ : ∃ M, L = M := ⟨_, rfl⟩
            subst hM
            go_wp2_with fail
            have h5 := HLST.out.step (RowP.frm.star GenP.frm) ((Below.refl w3.heap.size w3).alloc (Nat.le_refl _) (.cells #[.int .i64 0, .int .i64 100, .int .i64 5000, .int .i64 262144, .int .i64 262145] 3))
            have hBn : w.heap.size ≠ w3.heap.size := by
              obtain ⟨_, _, _, _, _, _, hp⟩ := HLST.out.get
              have := hp.2.1.lt; omega
            have HX := Lib.hid (h5.nextD RowP.frm (n := 5) (by omega) (by omega) (by omega))
            clear h5 HLST
            (with_reducible refine HX.out.mono ?_); rintro e w5 ⟨r5, s0, s1, rfl, h6, hdr⟩
            obtain ⟨m5, rfl⟩ := Int.eq_ofNat_of_zero_le s0
            obtain ⟨z5, hz5⟩ := inL4_at hBn hdr (m := m5) (by omega)
            have hm5 : m5 ≤ 4 := by omega
            have HBE := Lib.hid (best_any (c := c9) z5 (LsG.at_ (Inv.rowA rtElt h6) rfl) hL30)
            have H6 := Lib.hid h6.drop
            unfold AiB at HBE
            clear h6 hdr hBn HX
            go_wp2_with fail
            (with_reducible refine HBE.out.mono ?_); rintro e w6 ⟨rfl, hb⟩
            have H7 := Lib.hid (H6.out.step GenP.frm hb)
            clear hb H6 HBE hz5
            go_wp2
            go_roundw
            case rel => exact ⟨j + 1, _, by omega, by go_num, by omega, H7⟩
            case measure => simp [intOf]; omega
    · obtain rfl : j = 5 := by omega
      have HB := Lib.hid HJ.out.out
      by_cases h30 : nR ≤ 30
      · have HX := Lib.hid (HRAW.out wr HB.out h30)
        have h30' : (nR : Int) ≤ 30 := by omega
        clear HJ HRAW
        go_wp2_with fail
        (with_reducible refine HX.out.mono ?_); rintro e w10 ⟨rfl, hb⟩
        have HB2 := Lib.hid (HB.out.trans (hb.mono HB.out.size))
        clear hb HB HX
        go_wp2_with fail
        (with_reducible refine (HAW.out _).mono ?_); rintro e w11 ⟨rfl, hb⟩
        have HF := Lib.hid (HB2.out.trans (hb.mono HB2.out.size))
        clear hb HB2
        go_wp2
        go_ret
        exact ⟨rfl, HF.out⟩
      · have h30' : (30 : Int) < nR := by omega
        clear HJ HRAW
        go_wp2_with fail
        (with_reducible refine (HAW.out _).mono ?_); rintro e w11 ⟨rfl, hb⟩
        have HF := Lib.hid (HB.out.trans (hb.mono HB.out.size))
        clear hb HB
        go_wp2
        go_ret
        exact ⟨rfl, HF.out⟩
theorem walkBest19p (A : Option Addr) (len cap : Nat) (A1 : Option Addr) (len1 cap1 : Nat) {I V : Nat → Int} (b : Int) (w : World) (he : Elems w.heap.size A len w) (hn1 : len1 ≤ 9223372036854775807) (c1 : Prs w 0 w.heap.size A1 len1 I V) :
    Calls Try.prog 6 #[.slice A len cap, .slice A1 len1 cap1, .int .i64 b] w (Calm (.bool true) w) := by
  have h := walkBest19 A len cap A1 cap1 ((List.range len1).map fun i => (I i, V i)) b w he (by simpa using hn1) (prs_list c1)
  rw [List.length_map, List.length_range] at h
  exact h
end Go.Proofs.Ytcefpkibglideaa

