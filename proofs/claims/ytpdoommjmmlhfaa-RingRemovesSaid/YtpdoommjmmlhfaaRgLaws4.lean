/-
  Layer 5: the walk of the statement about removing from the middle (RingRemoves). Every input; no condition.
-/
import Derived.Test.YtpdoommjmmlhfaaRgLaws
import Derived.Test.YtpdoommjmmlhfaaRgRow
namespace Go.Proofs.Ytpdoommjmmlhfaa
open Go.ChangeShapes Go.WideShapes Go.ChangeAt Go.RowKit
set_option linter.unusedVariables false

theorem GR.items {B len cap q C H g c n : Nat} {a : Option Addr} {w0 w : World} {L : Nat → Int} (h : GR B a len cap q w0 C H g c n L w) :
    Calls Try.prog 15 #[.pointer (some ⟨H, 0, none⟩)] w fun e w' => e = .returned (.slice (some ⟨w.heap.size, 0, none⟩) n n) ∧ Row w' w.heap.size 3 n L ∧ GR B a len cap q w0 C H g c n L w' ∧ Below w.heap.size w w' :=
  (rgitems_any h.2.2).mono fun _ _ ⟨A, d, e, ⟨e1, e2, hr⟩, _, hb⟩ => by
    subst e1 e2
    exact ⟨e, hr, h.below hb, hb⟩
theorem takL_no {L : Nat → Int} {n : Nat} {i : Int} (h : inR n i = false) : takL L n i = L := by unfold takL; rw [h]; rfl
theorem takN_no {n : Nat} {i : Int} (h : inR n i = false) : takN n i = n := by unfold takN; rw [h]; rfl
theorem takE_no {n : Nat} {i r : Int} (h : inR n i = false) : takE n i r = r := by unfold takE; rw [h]; rfl
theorem takV_no {L : Nat → Int} {n : Nat} {i : Int} (h : inR n i = false) : takV L n i = 0 := by unfold takV; rw [h]; rfl
set_option maxRecDepth 100000 in
set_option maxHeartbeats 8000000 in
theorem walkRemoves (a : Option Addr) (len cap : Nat) (at_ : Int) (x1 : at_ ≤ 9223372036854775807) (w : World) (he : Elems w.heap.size a len w) :
    Calls Try.prog 6 #[.slice a len cap, .int .i64 at_] w fun e w' => e = .returned (.bool true) ∧ Below w.heap.size w w' := by
  have hg := Has.new (cap := cap) he
  have HN := Lib.hid (fun W => show Calls Try.prog 9 #[.int .i64 6] W (RgNew 6 W) from rgnew_ok 6 W (by decide) (by decide))
  have HG1 := Lib.hid hg
  clear he hg
  go_enter Try.func6, Try.ntmps6
  go_wp2_with (go_at_call 7; (with_reducible refine (new_any a len cap _).mono ?_); rintro e w' ⟨rfl, rfl⟩)
  (with_reducible refine (HN.out _).mono ?_)
  intro e w2 ha
  obtain ⟨H, g, rfl, h2⟩ := GR.start HG1.out ha
  have H2 := Lib.hid h2
  generalize (w.alloc _).heap.size = C at H2
  clear ha h2 HN HG1
  have d0 : ((0 : Int) != 0) = false := rfl
  go_wp2_with fail
  go_loopw [8] (fun i wr => ∃ (j n q : Nat) (L : Nat → Int), j ≤ 9 ∧ i = .int .i64 j ∧ q ≤ 2 * j ∧ Hid (GR w.heap.size a len cap q w C H g 6 n L wr)) (fun i _ => 9 - (intOf i).toNat)
  case atStart => exact ⟨0, 0, 0, _, by omega, rfl, by omega, H2⟩
  case round =>
    obtain ⟨j, n, q, L, hj, rfl, hq, HJ⟩ := hrel
    clear H2
    by_cases hlt : j < 9
    · have hlt' : (j : Int) < 9 := by omega
      have HX := Lib.hid (HJ.out.next (N := 50) (by omega) (by omega) (by omega))
      clear HJ
      go_wp2_with fail
      (with_reducible refine HX.out.mono ?_)
      rintro e w4 ⟨s, s0, s1, rfl, h4, _⟩
      have HP := Lib.hid (h4.call (fun hS => rgpush_any hS s))
      clear h4 HX s0 s1
      go_wp2_with fail
      (with_reducible refine HP.out.mono ?_)
      rintro e w5 ⟨rfl, h5, _⟩
      have HX := Lib.hid (h5.next (N := 3) (by omega) (by omega) (by omega))
      clear h5 HP
      generalize insN 6 n = n2 at HX
      generalize insL 6 n L s false = L2 at HX
      generalize insE 6 n = er
      go_wp2_with fail
      (with_reducible refine HX.out.mono ?_)
      rintro e w6 ⟨s, s0, s1, rfl, h6, _⟩
      clear HX
      by_cases hs : s = 0
      · subst hs
        have HP := Lib.hid (h6.call (fun hS => rgpop_any hS))
        clear h6 s0 s1
        go_wp2_with fail
        (with_reducible refine HP.out.mono ?_)
        rintro e w7 ⟨rfl, h7, _⟩
        have H7 := Lib.hid h7
        clear h7 HP
        go_wp2
        go_roundw
        case rel => exact ⟨j + 1, _, q + 1 + 1, _, by omega, by go_num, by omega, H7⟩
        case measure => simp [intOf]; omega
      · have H6 := Lib.hid h6
        clear h6
        have ht : (s == 0) = false := by simpa using hs
        go_wp2
        go_roundw
        case rel => exact ⟨j + 1, _, q + 1 + 1, _, by omega, by go_num, by omega, H6⟩
        case measure => simp [intOf]; omega
    · obtain rfl : j = 9 := by omega
      have HI := Lib.hid HJ.out.items
      have hn6 : n ≤ 6 := by have := HJ.out.2.2.size; omega
      have HFT := Lib.hid HJ.out.foot
      clear HJ
      go_wp2_with fail
      (with_reducible refine HI.out.mono ?_)
      rintro e w4 ⟨rfl, hr4, h4, hb4⟩
      have hG : ¬ rgfoot H g wr.heap.size := fun e => by have := HFT.out _ e; omega
      have HR4 := Lib.hid hr4
      have HGN := Lib.hid hG
      have hGl := hr4.lt
      have hp := h4.call (fun hS => rgrem_any hS at_)
      clear hr4 h4 hb4 HI HFT hG
      by_cases hat : 0 ≤ at_ ∧ at_ < n
      · obtain ⟨i, rfl⟩ := Int.eq_ofNat_of_zero_le hat.1
        have hin : inR n (i : Int) = true := inR_yes (by omega) (by omega)
        obtain ⟨m, rfl⟩ : ∃ m, n = m + 1 := ⟨n - 1, by omega⟩
        have hp2 : Calls Try.prog 22 #[.pointer (some ⟨H, 0, none⟩), .int .i64 (i : Int)] w4 fun e w' => e = .returned (.tuple #[.int .i64 (L i), .int .i64 0]) ∧ GR w.heap.size a len cap q w C H g 6 m (rmvN L i) w' ∧ Chg (rgfoot H g) w4 w' := by
          unfold takN takL takV takE at hp
          rw [hin] at hp; exact hp
        have HP := Lib.hid hp2
        have him : i < m + 1 := by omega
        have hi1 : (i : Int) < (m : Int) + 1 := by omega
        have hi0 : 0 ≤ (i : Int) := by omega
        clear hp hp2 hin hat
        go_wp2_with fail
        (with_reducible refine HP.out.mono ?_)
        rintro e w5 ⟨rfl, h5, k5⟩
        have hs5 := k5.size
        have hG5 : wr.heap.size < w5.heap.size := by omega
        have HG5 := Lib.hid h5
        have HR5 := Lib.hid (HR4.out.chg k5 HGN.out)
        have H1 := Lib.hid (row_empty w5 3 1)
        have s1 : IntKind.i64.wrap ((i : Int) + 1) = (i : Int) + 1 := IntWalk.i64_in _ (by omega)
        have hj2 : 0 ≤ (i : Int) + 1 := by omega
        have HN1 : Hid (∀ k u, (flatN L i)[k]? = some u → (w5.alloc (.cells #[] 3)).drew.cell? ((⟨wr.heap.size, 0, none⟩ : Addr).add k) = some u) := Lib.hid ((flat_parts (fun j hj => (((HR5.out.alloc (.cells #[] 3)).drew).cell (i := j) hj)) i).1 (by omega))
        have HN2 : Hid (∀ W, Below w5.heap.size w5 W → ∀ k u, ((flatN L (m + 1)).drop (i + 1))[k]? = some u → W.cell? ((⟨wr.heap.size, i + 1, none⟩ : Addr).add k) = some u) := Lib.hid (fun W hb => (flat_parts (fun j hj => (HR5.out.below hb hG5).cell (i := j) hj) (i + 1)).2)
        clear k5 h5 HP HR4
        by_cases hcj : i = m
        · obtain rfl : m = i := hcj.symm
          have hjc : (m : Int) ≤ (m : Int) + 1 := by omega
          have hj1 : (m : Int) + 1 ≤ (m : Int) + 1 := by omega
          clear hcj
          go_wp2_with fail
          go_region_law (first
            | (refine step_append_nums rfl (.tmp 65) (.tmp 68) rfl w5.heap.size 0 _ [] (by simp [Act.eval]) H1.out ⟨wr.heap.size, 0, none⟩ m (m + 1) (flatN L m) (by simp [Act.eval]) (flatN_len _ _) HN1.out (flatN_one _ _) (by omega) (by simp) ?_; intro v1 w6 hv1 hg1; have HB1 := Lib.hid (row_grown_new (w := w5) hg1); have HV1 : Hid (w6.ownsRow w5.heap.size 3 1 v1 m (flatN L m)) := Lib.hid (by simpa using hv1); clear hv1 hg1)
            | (refine step_append_nums rfl (.tmp 69) (.tmp 73) rfl w5.heap.size m v1 (flatN L m) (by simp [Act.eval]) HV1.out ⟨wr.heap.size, 0, none⟩ 0 0 [] (by simp [Act.eval]) rfl (fun i u hu => by simp at hu) (fun u hu => by simp at hu) (by omega) HB1.out.size ?_; intro v2 w7 hv2 hg2; have HB2 := Lib.hid (row_grown HB1.out HV1.out hg2); have HV2 : Hid (w7.ownsRow w5.heap.size 3 1 v2 m (flatN (rmvN L m) m)) := Lib.hid (by have h := hv2; rw [List.append_nil, Nat.add_zero, flat_last L m] at h; exact h); clear hv2 hg2))
          all_goals
            obtain ⟨A2, cc2, rfl⟩ := own_shape HV2.out
            have hNW := Nums.of_flat HV2.out
            have HW7 := Lib.hid (HG5.out.below HB2.out)
            have cl := (HR5.out.below HB2.out hG5).cell (i := m) (by omega)
            have HI := Lib.hid HW7.out.items
            have HNW := Lib.hid hNW
            have tl : (L m == L m) = true := by simp
            clear hNW HV1 HV2 HB1 H1 HN1 HN2 HR5 HG5
            go_wp2_with fail
            (with_reducible refine HI.out.mono ?_)
            rintro e w8 ⟨rfl, hr8, h8, hb8⟩
            have HQ := Lib.hid (equalInt_any A2 (some ⟨w7.heap.size, 0, none⟩) m cc2 m (rmvN L m) _ _ _ _ w8 (by omega) (Cells.below HNW.out hb8 (Nat.le_refl _)) hr8.nums)
            have HE8 := Lib.hid h8.end_
            have hBl := h8.lt
            clear hr8 h8 hb8 HI HNW HW7 HB2 cl
            go_wp2_with fail
            (with_reducible refine HQ.out.mono ?_)
            rintro e w9 ⟨rfl, hb9⟩
            have HE9 := Lib.hid (HE8.out.trans (hb9.mono (by omega)))
            have hs9 := hb9.size
            have HAW := Lib.hid (rgawake_any w9)
            clear hb9 HE8 HQ
            go_wp2_with fail
            (with_reducible refine HAW.out.mono ?_)
            rintro e w10 ⟨rfl, hb10⟩
            have HE10 := Lib.hid (HE9.out.trans (hb10.mono (by omega)))
            clear hb10 HE9 HAW
            go_wp2
            go_ret
            exact ⟨rfl, HE10.out⟩
        · have hjc : (i : Int) ≤ (m : Int) + 1 := by omega
          have hj1 : (i : Int) + 1 ≤ (m : Int) + 1 := by omega
          have hne : ¬ (i : Int) + 1 = (m : Int) + 1 := by omega
          have hmi : ¬ m = i := fun e => hcj e.symm
          clear hcj
          go_wp2_with fail
          go_region_law (first
            | (refine step_append_nums rfl (.tmp 65) (.tmp 68) rfl w5.heap.size 0 _ [] (by simp [Act.eval]) H1.out ⟨wr.heap.size, 0, none⟩ i (m + 1) (flatN L i) (by simp [Act.eval]) (flatN_len _ _) HN1.out (flatN_one _ _) (by omega) (by simp) ?_; intro v1 w6 hv1 hg1; have HB1 := Lib.hid (row_grown_new (w := w5) hg1); have HV1 : Hid (w6.ownsRow w5.heap.size 3 1 v1 i (flatN L i)) := Lib.hid (by simpa using hv1); clear hv1 hg1)
            | (refine step_append_nums rfl (.tmp 69) (.tmp 73) rfl w5.heap.size i v1 (flatN L i) (by simp [Act.eval]) HV1.out ⟨wr.heap.size, i + 1, none⟩ (m - i) (m + 1 - (i + 1)) ((flatN L (m + 1)).drop (i + 1)) (by simp [Act.eval]) (by rw [List.length_drop, flatN_len]; omega) (HN2.out _ HB1.out) (fun u hu => flatN_one L (m + 1) u (List.mem_of_mem_drop hu)) (by omega) HB1.out.size ?_; intro v2 w7 hv2 hg2; have HB2 := Lib.hid (row_grown HB1.out HV1.out hg2); have HV2 : Hid (w7.ownsRow w5.heap.size 3 1 v2 m (flatN (rmvN L i) m)) := Lib.hid (by have h := hv2; rw [flat_rmvN L m i him, show i + (m - i) = m by omega] at h; exact h); clear hv2 hg2))
          all_goals
            obtain ⟨A2, cc2, rfl⟩ := own_shape HV2.out
            have hNW := Nums.of_flat HV2.out
            have HW7 := Lib.hid (HG5.out.below HB2.out)
            have cl := (HR5.out.below HB2.out hG5).cell (i := i) (by omega)
            have HI := Lib.hid HW7.out.items
            have HNW := Lib.hid hNW
            have tl : (L i == L i) = true := by simp
            clear hNW HV1 HV2 HB1 H1 HN1 HN2 HR5 HG5
            go_wp2_with fail
            (with_reducible refine HI.out.mono ?_)
            rintro e w8 ⟨rfl, hr8, h8, hb8⟩
            have HQ := Lib.hid (equalInt_any A2 (some ⟨w7.heap.size, 0, none⟩) m cc2 m (rmvN L i) _ _ _ _ w8 (by omega) (Cells.below HNW.out hb8 (Nat.le_refl _)) hr8.nums)
            have HE8 := Lib.hid h8.end_
            have hBl := h8.lt
            clear hr8 h8 hb8 HI HNW HW7 HB2 cl
            go_wp2_with fail
            (with_reducible refine HQ.out.mono ?_)
            rintro e w9 ⟨rfl, hb9⟩
            have HE9 := Lib.hid (HE8.out.trans (hb9.mono (by omega)))
            have hs9 := hb9.size
            have HAW := Lib.hid (rgawake_any w9)
            clear hb9 HE8 HQ
            go_wp2_with fail
            (with_reducible refine HAW.out.mono ?_)
            rintro e w10 ⟨rfl, hb10⟩
            have HE10 := Lib.hid (HE9.out.trans (hb10.mono (by omega)))
            clear hb10 HE9 HAW
            go_wp2
            go_ret
            exact ⟨rfl, HE10.out⟩
      · rw [takN_no (inR_no (by omega)), takL_no (inR_no (by omega)), takV_no (inR_no (by omega)), takE_no (inR_no (by omega))] at hp
        have HP := Lib.hid hp
        clear hp
        rcases (by omega : at_ < 0 ∨ (¬ at_ < 0 ∧ (n : Int) ≤ at_)) with h1 | ⟨h1, h2⟩
        all_goals
          clear hat
          go_wp2_with fail
          (with_reducible refine HP.out.mono ?_)
          rintro e w5 ⟨rfl, h5, k5⟩
          have HI := Lib.hid h5.items
          have HR5 := Lib.hid (HR4.out.chg k5 HGN.out)
          have hs5 := k5.size
          clear h5 k5 HP HR4
          go_wp2_with fail
          (with_reducible refine HI.out.mono ?_)
          rintro e w6 ⟨rfl, hr6, h6, hb6⟩
          have HQ := Lib.hid (equalInt_any (some ⟨wr.heap.size, 0, none⟩) (some ⟨w5.heap.size, 0, none⟩) n n n L _ _ _ _ w6 (by omega) (HR5.out.below hb6 (by omega)).nums hr6.nums)
          have HE6 := Lib.hid h6.end_
          have hBl := h6.lt
          clear hr6 h6 hb6 HI HR5
          go_wp2_with fail
          (with_reducible refine HQ.out.mono ?_)
          rintro e w7 ⟨rfl, hb7⟩
          have HE7 := Lib.hid (HE6.out.trans (hb7.mono (by omega)))
          have hs7 := hb7.size
          have HAW := Lib.hid (rgawake_any w7)
          clear hb7 HE6 HQ
          go_wp2_with fail
          (with_reducible refine HAW.out.mono ?_)
          rintro e w8 ⟨rfl, hb8⟩
          have HE8 := Lib.hid (HE7.out.trans (hb8.mono (by omega)))
          clear hb8 HE7 HAW
          go_wp2
          go_ret
          exact ⟨rfl, HE8.out⟩
end Go.Proofs.Ytpdoommjmmlhfaa

