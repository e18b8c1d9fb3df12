/-
  Layer 12: the walk of the statement on exact sums and differences (TagsExact). Every input; no condition.
-/
import Derived.Test.YthmcdnomphmbiaaTgHelp
import Derived.Test.YthmcdnomphmbiaaTgList
import Derived.Test.YthmcdnomphmbiaaLenGen
import Derived.Deep.LoopGhost
import Derived.Deep.QuietTactic
import Derived.BigQuiet
import Derived.LoopTactic
namespace Go.Proofs.Ythmcdnomphmbiaa
open Go.ChangeShapes Go.WideShapes Go.ChangeAt Go.RowKit
set_option linter.unusedVariables false

/-- A list rebased by its least start tag. -/
theorem ex_all {T : List Tg} (hv : vaB T = true) (h0 : 0 < T.length) : ∃ (m : Nat) (hm : m < T.length), ltI T = (m : Nat) ∧ rbE T T[m].s = 0 ∧ (rbL T T[m].s).length = T.length ∧ ltI (rbL T T[m].s) = (m : Nat) ∧
    (∀ i (hi : i < T.length) (hi2 : i < (rbL T T[m].s).length), (rbL T T[m].s)[i].s = T[i].s - T[m].s) ∧ ∀ i (hi : i < T.length), 0 ≤ T[i].s ∧ T[i].s ≤ 1099511627776 := by
  have hm := mI_lt (stF T) T.length h0
  have hP := va_yes hv
  have hmin : ∀ i (hi : i < T.length), T[mI (stF T) T.length].s ≤ T[i].s := fun i hi => by
    have := mI_min (stF T) T.length i hi
    rw [stF_at hm, stF_at hi] at this; exact this
  have hb0 := (hP.at_ hm).2.2.1
  obtain ⟨e1, e2⟩ := rb_0 hv hb0 hmin
  refine ⟨_, hm, lt_yes hv h0, e1, by rw [e2]; simp, ?_, ?_, fun i hi => (hP.at_ hi).2.2⟩
  · rw [e2, lt_yes (va_true (rb_valid hP hb0 hmin)) (by simpa using h0)]
    have := rb_least (L := T) (b := T[mI (stF T) T.length].s)
    simp only [List.length_map, this]
  · rw [e2]
    intro i hi hi2
    simp [subT]
/-- The same, with the start tag and the rebased list as variables. -/
theorem ex_vars {T : List Tg} (hv : vaB T = true) (h0 : 0 < T.length) : ∃ (m : Nat) (hm : m < T.length) (b : Int) (R : List Tg), T[m].s = b ∧ ltI T = (m : Nat) ∧ rbE T b = 0 ∧ rbL T b = R ∧ R.length = T.length ∧ ltI R = (m : Nat) ∧
    (∀ i (hi : i < T.length) (hi2 : i < R.length), R[i].s = T[i].s - b) ∧ ∀ i (hi : i < T.length), 0 ≤ T[i].s ∧ T[i].s ≤ 1099511627776 := by
  obtain ⟨m, hm, e1, e2, e3, e4, e5, e6⟩ := ex_all hv h0
  exact ⟨m, hm, _, _, rfl, e1, e2, rfl, e3, e4, e5, e6⟩
/-- The start tags that a slice holds. -/
theorem SrAt.starts {w : World} {L B b off : Nat} {l : List Tg} (h : SrAt csT 3 w L B (some ⟨b, off, none⟩) l) : ∀ k (hk : k < l.length), w.cell? ⟨b, off + k * 3 + 2, none⟩ = some (.int .i64 l[k].s) := fun k hk => by
  obtain ⟨b', off', e, _, _, _, _, h2⟩ := h.tg hk
  simp only [Option.some.injEq, Addr.mk.injEq, and_true] at e
  obtain ⟨rfl, rfl⟩ := e
  exact h2
set_option maxRecDepth 100000 in
set_option maxHeartbeats 8000000 in
theorem walkExact (A : Option Addr) (len cap : Nat) (w : World) (he : Elems w.heap.size A len w) :
    Calls Try.prog 7 #[.slice A len cap] w (Calm (.bool true) w) := by
  have HG := Lib.hid (Has.new (cap := cap) he)
  have HA := Lib.hid (fun w => awake12_any w)
  clear he
  unfold Calm
  go_enter Try.func7, Try.ntmps7
  go_wp2_with fail
  (with_reducible refine (new_any A len cap _).mono ?_); rintro e w' ⟨rfl, rfl⟩
  have HX := Lib.hid (has_next w.heap.size A len cap 0 16 w _ HG.out (by omega) (by omega) (by omega))
  clear HG
  go_wp2_with fail
  (with_reducible refine HX.out.mono ?_)
  rintro e w1 ⟨x, x0, x1, rfl, hg1, ho1⟩
  obtain ⟨wt, hwt⟩ : ∃ wt : Int, 1 + x = wt := ⟨_, rfl⟩
  have hw1 : IntKind.i64.wrap (1 + x) = wt := by rw [IntWalk.i64_in _ (by omega), hwt]
  have hwb : wtB wt = true := wt_of (by omega)
  have hub := un_bd hwb
  have HC := Lib.hid (fun (l : Int) (h : 1 ≤ l ∧ l ≤ 4096) (w : World) => cost_any l wt w)
  have HCe := Lib.hid (fun (l : Int) (h : 1 ≤ l ∧ l ≤ 4096) => And.intro (co_yes (le_of h) hwb) (co_bd (le_of h) hwb))
  have HN := Lib.hid (fun (b : Int) (h : 0 ≤ b ∧ b ≤ 40960) => no_yes (b := b) (bdN_of ⟨by omega, by omega⟩) hwb)
  obtain ⟨u, hu⟩ : ∃ u, unC wt = u := ⟨_, rfl⟩
  rw [hu] at hub HCe HN
  have HG1 := Lib.hid hg1
  clear hg1 ho1 hu hwb hwt x0 x1
  go_wp2
  go_loopw [5, 6, 7] (fun s5 s6 s7 wr => ∃ (k q : Nat) (Z Y : Int), k ≤ 10 ∧ s7 = .int .i64 k ∧ s6 = .int .i64 Y ∧ s5 = .int .i64 Z ∧ Hid (Z = Y * u) ∧ 0 ≤ Y ∧ Y ≤ 4096 * k ∧ 0 ≤ Z ∧ Z ≤ 2952069120 * k ∧ q ≤ 1 + k ∧ Hid (Has w.heap.size A len cap q w wr)) (fun s5 s6 s7 _ => 10 - (intOf s7).toNat)
  case atStart => exact ⟨0, 1, 0, 0, by omega, rfl, rfl, rfl, Lib.hid (by simp), by omega, by omega, by omega, by omega, by omega, HG1⟩
  case round =>
    obtain ⟨k, q, Z, Y, hk, rfl, rfl, rfl, hZ, hy0, hy1, hz0, hz1, hq, HG⟩ := hrel
    clear HG1
    by_cases hlt : k < 10
    · have hlt' : (k : Int) < 10 := by omega
      have HX := Lib.hid (length_any w.heap.size A len cap q wr HG.out.1 (by omega))
      go_wp2_with fail
      (with_reducible refine HX.out.mono ?_)
      rintro e w2 ⟨l, l0, l1, rfl, hg2, ho2⟩
      have HG2 := Lib.hid (show Has w.heap.size A len cap (q + 1) w w2 from ⟨hg2, HG.out.2.trans (ho2.below (by have := HG.out.1.lt; omega))⟩)
      have HX := HC.out l ⟨l0, l1⟩ w2
      obtain ⟨⟨c1, c2⟩, c3, c4⟩ := HCe.out l ⟨l0, l1⟩
      rw [c1, c2] at HX
      have HX := Lib.hid HX
      have hZ2 : Hid (Z + l * u = (Y + l) * u) := Lib.hid (by rw [hZ.out, Int.add_mul])
      clear hg2 ho2 HG c1 c2
      generalize l * u = y at *
      have hw1 : IntKind.i64.wrap (Z + y) = Z + y := IntWalk.i64_in _ (by omega)
      have hw2 : IntKind.i64.wrap (Y + l) = Y + l := IntWalk.i64_in _ (by omega)
      go_wp2_with fail
      (with_reducible refine HX.out.mono ?_); rintro e w3 ⟨rfl, hb⟩
      have HG3 := Lib.hid (HG2.out.below hb)
      clear hb HG2 HX
      go_wp2
      go_roundw
      case rel => exact ⟨k + 1, q + 1, Z + y, Y + l, by omega, by go_num, rfl, rfl, hZ2, by omega, by omega, by omega, by omega, by omega, HG3⟩
      case measure => simp [intOf]; omega
    · obtain rfl : k = 10 := by omega
      have HX := normalT_any Y wt wr
      obtain ⟨n1, n2⟩ := HN.out Y ⟨hy0, by omega⟩
      rw [n1, n2, ← hZ.out] at HX
      have HX := Lib.hid HX
      clear n1 n2 hZ HC HCe HN
      go_wp2_with fail
      (with_reducible refine HX.out.mono ?_); rintro e w2 ⟨rfl, hb⟩
      have HG2 := Lib.hid (HG.out.below hb)
      clear hb HG HX
      have HX := Lib.hid (list_any w.heap.size A len cap q w w2 HG2.out (by omega))
      clear HG2
      unfold GaveT at HX
      go_wp2_with fail
      (with_reducible refine HX.out.mono ?_)
      rintro e w3 ⟨T, A1, c1, ht, rfl, ha, ⟨q1, hq1, hg⟩, _⟩
      have HL := leastT_any A1 c1 T _ _ w3 (Nat.le_refl _) (by omega) ha
      by_cases hT : vaB T = true ∧ 0 < T.length
      · obtain ⟨m, hm, bs, R, hbs, e1, e2, hR, e3, e4, e5, e6⟩ := ex_vars hT.1 hT.2
        rw [e1] at HL
        obtain ⟨b1, o1, rfl, _, _, _⟩ := ha.tg hm
        have hmr : m < R.length := by omega
        have hm0 : R[m].s = 0 := by rw [e5 m hm hmr]; omega
        have HL := Lib.hid HL
        have HRb := fun (w4 : World) (hb : Below w3.heap.size w3 w4) => rebaseT_any (some ⟨b1, o1, none⟩) c1 T _ _ bs w4 hb.size (by omega) (ha.below hb (Nat.le_refl _))
        have hst := fun (w4 : World) (hb : Below w3.heap.size w3 w4) => (ha.below hb (Nat.le_refl _)).starts
        unfold GotTE at HRb
        simp only [hR, e2] at HRb
        have hbd := e6 m hm
        rw [hbs] at hbd
        have HG3 := Lib.hid hg
        have HRB := Lib.hid HRb
        have HST := Lib.hid hst
        have hE5 := Lib.hid e5
        have hE4 := Lib.hid e4
        have hE6 := Lib.hid e6
        have hmt : (m : Int) < T.length := by omega
        have hm0' : (0 : Int) ≤ (m : Int) := by omega
        clear HRb hst hg ha e1 e2 e4 e5 e6 hR hT
        go_wp2_with fail
        (with_reducible refine HL.out.mono ?_); rintro e w4 ⟨rfl, hb⟩
        have HX := Lib.hid (HRB.out w4 hb)
        have k0 := HST.out w4 hb m hm
        rw [hbs] at k0
        have HB4 := Lib.hid hb
        clear hb HL HRB
        go_wp2_with fail
        (with_reducible refine HX.out.mono ?_)
        rintro e w5 ⟨A2, c2, rfl, hr, hb⟩
        obtain ⟨b2, o2, rfl, _, _, _⟩ := hr.tg hmr
        have HLR := leastT_any (some ⟨b2, o2, none⟩) c2 _ _ _ w5 (Nat.le_refl _) (by omega) hr
        rw [hE4.out, e3] at HLR
        have HSR := Lib.hid (fun (w6 : World) (h : Below w5.heap.size w5 w6) => (hr.below h (Nat.le_refl _)).starts)
        have HB5 := Lib.hid (HB4.out.trans (hb.mono HB4.out.size))
        have HLR := Lib.hid HLR
        clear hr hb HB4 HX k0 hE4
        go_wp2_with fail
        (with_reducible refine HLR.out.mono ?_); rintro e w6 ⟨rfl, hb⟩
        have hb35 := HB5.out
        have HB6 := Lib.hid (hb35.trans (hb.mono hb35.size))
        have HG6 := Lib.hid (HG3.out.below HB6.out)
        have HSR6 := Lib.hid (HSR.out w6 hb)
        have HST6 := Lib.hid (HST.out w6 HB6.out)
        have HEE := Lib.hid e3
        clear hb hb35 HB5 HB6 HG3 HLR HST HSR e3
        go_wp2
        go_loopw [17] (fun s17 wr => ∃ k : Nat, k ≤ T.length ∧ s17 = .int .i64 k ∧ Hid (Drn w6 wr)) (fun s17 _ => T.length - (intOf s17).toNat)
        case atStart => exact ⟨0, by omega, rfl, Lib.hid (Drn.refl _)⟩
        case round =>
          obtain ⟨k, hk, rfl, HD⟩ := hrel
          by_cases hlt : k < T.length
          · have hlt' : (k : Int) < T.length := by omega
            have hkr : k < R.length := by have := HEE.out; omega
            have c0 := (HD.out.cell ⟨b1, o1 + k * 3 + 2, none⟩).trans (HST6.out k hlt)
            have c1' := (HD.out.cell ⟨b1, o1 + m * 3 + 2, none⟩).trans (HST6.out m hm)
            have c2' := (HD.out.cell ⟨b2, o2 + k * 3 + 2, none⟩).trans (HSR6.out k hkr)
            have c3 := (HD.out.cell ⟨b2, o2 + m * 3 + 2, none⟩).trans (HSR6.out m hmr)
            have hbk := hE6.out k hlt
            rw [hE5.out k hlt hkr] at c2'
            rw [hm0] at c3
            rw [hbs] at c1'
            obtain ⟨y, hy⟩ : ∃ y, T[k].s = y := ⟨_, rfl⟩
            rw [hy] at c0 c2' hbk
            have g1 : IntKind.i64.wrap (y - bs - 0) = y - bs := by rw [IntWalk.i64_in _ (by omega)]; omega
            have g2 : IntKind.i64.wrap (y - bs) = y - bs := IntWalk.i64_in _ (by omega)
            clear hy
            go_wp2
            go_quiet (fail)
            go_wp2
            go_roundw
            case rel => exact ⟨k + 1, by omega, by go_num, Lib.hid (HD.out.more _)⟩
            case measure => simp [intOf]; omega
          · obtain rfl : k = T.length := by omega
            have c3 := (HD.out.cell ⟨b2, o2 + m * 3 + 2, none⟩).trans (HSR6.out m hmr)
            rw [hm0] at c3
            have HG7 := Lib.hid (HG6.out.below HD.out.below)
            clear HG6 HD HSR6 HST6
            go_wp2_with fail
            (with_reducible refine (HA.out _).mono ?_); rintro e w8 ⟨rfl, hb⟩
            have HG8 := Lib.hid (HG7.out.below hb)
            clear hb HG7
            go_wp2
            go_ret
            exact ⟨rfl, HG8.out.2⟩
      · rw [lt_no hT] at HL
        have HL := Lib.hid HL
        have HG3 := Lib.hid hg
        clear hg ha hT
        go_wp2_with fail
        (with_reducible refine HL.out.mono ?_); rintro e w4 ⟨rfl, hb⟩
        have HG4 := Lib.hid (HG3.out.below hb)
        clear hb HG3 HL
        go_wp2_with fail
        (with_reducible refine (HA.out _).mono ?_); rintro e w5 ⟨rfl, hb⟩
        have HG5 := Lib.hid (HG4.out.below hb)
        clear hb HG4
        go_wp2
        go_ret
        exact ⟨rfl, HG5.out.2⟩
end Go.Proofs.Ythmcdnomphmbiaa

