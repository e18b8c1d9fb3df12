/-
  Layer 11: the walk of the statement on the order of packets (QueueOrder). Every input; no condition.
-/
import Derived.Test.YtijdfkdfojiffaaQuKeep
namespace Go.Proofs.Ytijdfkdfojiffaa
open Go.ChangeShapes Go.WideShapes Go.ChangeAt Go.RowKit
set_option linter.unusedVariables false

/-- The packets' numbers rise, all of them above the last one taken and below j. -/
def OrI (q : Qu) (lst : Int) (j : Nat) : Prop := RiseP q.L ∧ (∀ p ∈ q.L, lst < p.i ∧ p.i < j) ∧ 0 ≤ lst ∧ lst < j
theorem OrI.start (p b : Int) : OrI ⟨p, b, []⟩ 0 1 := ⟨List.Pairwise.nil, by simp, by omega, by omega⟩
theorem OrI.push {q : Qu} {lst : Int} {j : Nat} (h : OrI q lst j) {p : Pk} (hp : p.i = j ∨ p.i < 1) : OrI (puT q p) lst (j + 1) := by
  obtain ⟨h1, h2, h3, h4⟩ := h
  have hm : OrI q lst (j + 1) := ⟨h1, fun x hx => by have := h2 x hx; omega, h3, by omega⟩
  unfold puT
  split
  · rename_i h0
    have hok : pkOk p = true := by
      unfold puE at h0
      split at h0
      · cases h0
      · rename_i h5; exact eq_true_of_ne_false h5
    have hi := pk_id hok
    have hj : p.i = j := by omega
    refine ⟨h1.snoc fun x hx => by have := h2 x hx; omega, fun x hx => ?_, h3, by omega⟩
    rcases List.mem_append.1 hx with hx | hx
    · have := h2 x hx; omega
    · simp only [List.mem_singleton] at hx; subst hx; omega
  · exact hm
theorem OrI.exp {q : Qu} {lst : Int} {j : Nat} (h : OrI q lst j) (s : Int) : OrI (exT q s) lst j :=
  ⟨h.1.filter _, fun p hp => h.2.1 p (List.mem_filter.1 hp).1, h.2.2⟩
theorem OrI.pop {q : Qu} {lst : Int} {j : Nat} (h : OrI q lst j) {p : Pk} {T : List Pk} (hq : q.L = p :: T) : lst < p.i ∧ OrI (qpT q) p.i (j + 1) := by
  obtain ⟨h1, h2, h3, h4⟩ := h
  have e : (qpT q).L = T := by unfold qpT; rw [hq]; rfl
  rw [hq] at h1 h2
  have hp := h2 p (by simp)
  refine ⟨hp.1, ?_, ?_, by omega, by omega⟩
  · rw [e]; exact h1.tail
  · rw [e]
    intro x hx
    have := h1.head x hx
    have := h2 x (by simp [hx])
    omega
theorem OrI.none_ {q : Qu} {lst : Int} {j : Nat} (h : OrI q lst j) (hq : q.L = []) : OrI (qpT q) lst (j + 1) := by
  obtain ⟨h1, h2, h3, h4⟩ := h
  have e : (qpT q).L = [] := by unfold qpT; rw [hq]; rfl
  exact ⟨by rw [e]; exact List.Pairwise.nil, by rw [e]; simp, h3, by omega⟩
theorem or_late {q : Qu} (h : QuOk q) {s : Int} {k : Nat} (hk : k < (exL q s).length) : 0 ≤ ((exL q s)[k]).d ∧ ((exL q s)[k]).d < s := by
  have hm := List.getElem_mem hk
  have h1 := late_yes hm
  have h2 := h.pks _ (List.mem_filter.1 hm).1
  unfold pkOk at h2
  simp only [Bool.and_eq_true, Bool.or_eq_true, decide_eq_true_eq] at h2
  omega
theorem or_kept {q : Qu} (h : QuOk q) {s : Int} {k : Nat} (hk : k < (exT q s).L.length) : ((exT q s).L[k]).d = -1 ∨ (0 ≤ ((exT q s).L[k]).d ∧ s ≤ ((exT q s).L[k]).d) := by
  have hm := List.getElem_mem hk
  have h1 := late_no hm
  have h2 := h.pks _ (List.mem_filter.1 hm).1
  unfold lateB at h1
  unfold pkOk at h2
  simp only [Bool.and_eq_true, Bool.or_eq_true, decide_eq_true_eq] at h2
  simp only [Bool.and_eq_false_iff, decide_eq_false_iff_not] at h1
  omega
set_option maxRecDepth 100000 in
set_option maxHeartbeats 8000000 in
theorem walkOrder11 (A : Option Addr) (len cap : Nat) (w : World) (he : Elems w.heap.size A len w) :
    Calls Try.prog 5 #[.slice A len cap] w fun e w' => e = .returned (.bool true) ∧ Below w.heap.size w w' := by
  have hg := Has.new (cap := cap) he
  have HG := Lib.hid hg
  have HN := Lib.hid (fun W => qnew_any (p := 8) (c := 262144) (by decide) W)
  clear he hg
  go_enter Try.func5, Try.ntmps5
  go_wp2_with (go_at_call 7; (with_reducible refine (new_any A len cap _).mono ?_); rintro e w' ⟨rfl, rfl⟩)
  (with_reducible refine (HN.out _).mono ?_)
  intro e w2 ha
  obtain ⟨b, rfl, h2⟩ := GQ.new HG.out ha
  generalize (w.alloc _).heap.size = C at h2
  have H2 := Lib.hid h2
  clear ha h2 HN HG
  go_wp2_with fail
  go_loopw [6, 7] (fun s6 s7 wr => ∃ (j k : Nat) (lst : Int) (q : Qu), 1 ≤ j ∧ j ≤ 40 ∧ s7 = .int .i64 j ∧ s6 = .int .i64 lst ∧ Hid (OrI q lst j) ∧ k ≤ 40 * j ∧ Hid (GQ w.heap.size A len cap k w C b q wr)) (fun s6 s7 _ => 40 - (intOf s7).toNat)
  case atStart => exact ⟨1, 0, 0, ⟨8, 262144, []⟩, by omega, by omega, rfl, rfl, Lib.hid (OrI.start _ _), by omega, H2⟩
  case round =>
    obtain ⟨j, k, lst, q, hj1, hj, rfl, rfl, HI, hk, HJ⟩ := hrel
    clear H2
    by_cases hlt : j < 40
    · have hlt' : (j : Int) < 40 := by omega
      have HX := Lib.hid (HJ.out.next (n := 2) (by omega) (by omega) (by omega))
      clear HJ
      go_wp2_with fail
      (with_reducible refine HX.out.mono ?_)
      rintro e w3 ⟨r, r0, r1, rfl, h3, _⟩
      clear HX
      by_cases hr : r = 0
      · subst hr
        have HX := Lib.hid (h3.some_ (j : Int) (by omega))
        clear h3
        go_wp2_with fail
        (with_reducible refine HX.out.mono ?_)
        rintro e w4 ⟨p, rfl, hp, k', hk', h4, _⟩
        have HX := Lib.hid (h4.call (fun hS => qpush_any hS p))
        have HI2 := Lib.hid (HI.out.push hp)
        clear h4 hp HI
        go_wp2_with fail
        (with_reducible refine HX.out.mono ?_)
        rintro e w6 ⟨rfl, h6, _⟩
        have H6 := Lib.hid h6
        clear h6 HX
        go_wp2
        go_roundw
        case rel => exact ⟨j + 1, k', lst, _, by omega, by omega, by go_num, rfl, HI2, by omega, H6⟩
        case measure => simp [intOf]; omega
      · have HX := Lib.hid (h3.next (n := 10) (by omega) (by omega) (by omega))
        clear h3
        go_wp2_with fail
        (with_reducible refine HX.out.mono ?_)
        rintro e w4 ⟨s, s0, s1, rfl, h4, _⟩
        have hok := h4.ok
        have HX := Lib.hid (h4.got (fun hS => qexpire_any hS s))
        have HI2 := Lib.hid (HI.out.exp s)
        have HLT := Lib.hid (fun i (hi : i < (exL q s).length) => or_late hok hi)
        have HKP := Lib.hid (fun i (hi : i < (exT q s).L.length) => or_kept hok hi)
        have hfew := (hok.expire s).few
        have hfew2 : (exL q s).length ≤ 64 := Nat.le_trans (flt_len _ _) hok.few
        clear h4 hok HI
        go_wp2_with fail
        (with_reducible refine HX.out.mono ?_)
        rintro e w5 ⟨A5, c5, rfl, h5, ha5⟩
        have HA5 := Lib.hid ha5
        have H5 := Lib.hid h5
        clear h5 ha5 HX
        generalize exL q s = l5 at *
        generalize exT q s = q5 at *
        obtain ⟨n5, hn5⟩ : ∃ n, l5.length = n := ⟨_, rfl⟩
        rw [hn5] at hfew2
        have HN5 := Lib.hid hn5
        rw [hn5]
        clear hn5
        go_wp2_with fail
        go_loopw [10] (fun s10 wx => ∃ i : Nat, i ≤ n5 ∧ s10 = .int .i64 i ∧ w5 = wx) (fun s10 _ => n5 - (intOf s10).toNat)
        case atStart => exact ⟨0, Nat.zero_le _, rfl, rfl⟩
        case round =>
          obtain ⟨i, hi, rfl, rfl⟩ := hrel
          by_cases hil : i < n5
          · have hil5 : i < l5.length := by have := HN5.out; omega
            obtain ⟨bb, off, rfl, _, _, e0, e1, e2, e3, e4⟩ := HA5.out.pk hil5
            have hd := HLT.out i hil5
            generalize l5[i] = pp at *
            obtain ⟨p0, p1, p2, p3, p4⟩ := pp
            simp only at e0 e1 e2 e3 e4 hd
            obtain ⟨hd0, hd1⟩ := hd
            go_wp2
            go_roundw
            case rel => exact ⟨i + 1, by omega, by go_num, trivial⟩
            case measure => simp [intOf]; omega
          · obtain rfl : i = n5 := by omega
            have HX := Lib.hid (H5.out.list (fun hS => qpackets_any hS))
            clear HA5 HLT
            go_wp2_with fail
            (with_reducible refine HX.out.mono ?_)
            rintro e w6 ⟨A6, c6, rfl, h6, ha6⟩
            have HA6 := Lib.hid ha6
            have H6 := Lib.hid h6
            clear h6 ha6 HX H5
            obtain ⟨n6, hn6⟩ : ∃ n, q5.L.length = n := ⟨_, rfl⟩
            rw [hn6] at hfew
            have HN6 := Lib.hid hn6
            rw [hn6]
            clear hn6
            have HRise := Lib.hid (fun i (hi : i + 1 < q5.L.length) => HI2.out.1.next hi)
            go_wp2_with fail
            go_loopw [12] (fun s12 wx => ∃ i : Nat, i ≤ n6 ∧ s12 = .int .i64 i ∧ ∃ nn, wx = w6.drewN nn) (fun s12 _ => n6 - (intOf s12).toNat)
            case atStart => exact ⟨0, Nat.zero_le _, rfl, 0, rfl⟩
            case round =>
              obtain ⟨i, hi, rfl, nn, rfl⟩ := hrel
              by_cases hil : i < n6
              · have hil6 : i < q5.L.length := by have := HN6.out; omega
                obtain ⟨bb, off, hA6, _, _, e0, e1, e2, e3, e4⟩ := HA6.out.pk hil6
                have hd := HKP.out i hil6
                have hprev : i = 0 ∨ ∃ m y, i = m + 1 ∧ w6.cell? ⟨bb, off + m * 5, none⟩ = some (.int .i64 y) ∧ y < (q5.L[i]).i := by
                  rcases Nat.eq_zero_or_pos i with h0 | h0
                  · exact .inl h0
                  · obtain ⟨m, rfl⟩ : ∃ m, i = m + 1 := ⟨i - 1, by omega⟩
                    obtain ⟨bb', off', hA6', _, _, e0', _⟩ := HA6.out.pk (k := m) (by omega)
                    rw [hA6] at hA6'
                    obtain ⟨rfl, rfl⟩ : bb = bb' ∧ off = off' := by simpa using hA6'
                    exact .inr ⟨m, _, rfl, e0', HRise.out m hil6⟩
                subst hA6
                generalize q5.L[i] = pp at *
                obtain ⟨p0, p1, p2, p3, p4⟩ := pp
                simp only at e0 e1 e2 e3 e4 hd hprev
                clear HA6 HRise HKP
                rcases hprev with rfl | ⟨m, y, rfl, hm, hy⟩
                · have g1 : decide ((0 : Nat) < 0) = false := by decide
                  rcases hd with rfl | ⟨hd0, hd1⟩
                  · have t1 : decide ((0 : Int) ≤ -1) = false := by decide
                    go_wp2
                    go_quiet (fail)
                    go_wp2
                    go_roundw
                    case rel => exact ⟨0 + 1, by omega, by go_num, _, rfl⟩
                    case measure => simp [intOf]; omega
                  · have t1 : decide ((0 : Int) ≤ p4) = true := decide_eq_true hd0
                    have t2 : decide (p4 < s) = false := decide_eq_false (by omega)
                    go_wp2
                    go_quiet (fail)
                    go_wp2
                    go_roundw
                    case rel => exact ⟨0 + 1, by omega, by go_num, _, rfl⟩
                    case measure => simp [intOf]; omega
                · have hwm : IntKind.i64.wrap (((m + 1 : Nat) : Int) - 1) = (m : Int) := by rw [IntWalk.i64_in _ (by omega)]; omega
                  have g1 : decide ((0 : Nat) < m + 1) = true := by simp
                  have t3 : decide (p0 ≤ y) = false := decide_eq_false (by omega)
                  rcases hd with rfl | ⟨hd0, hd1⟩
                  · have t1 : decide ((0 : Int) ≤ -1) = false := by decide
                    go_wp2
                    go_quiet (fail)
                    go_wp2
                    go_roundw
                    case rel => exact ⟨m + 1 + 1, by omega, by go_num, _, rfl⟩
                    case measure => simp [intOf]; omega
                  · have t1 : decide ((0 : Int) ≤ p4) = true := decide_eq_true hd0
                    have t2 : decide (p4 < s) = false := decide_eq_false (by omega)
                    go_wp2
                    go_quiet (fail)
                    go_wp2
                    go_roundw
                    case rel => exact ⟨m + 1 + 1, by omega, by go_num, _, rfl⟩
                    case measure => simp [intOf]; omega
              · obtain rfl : i = n6 := by omega
                have H7 := Lib.hid (H6.out.below (Below_drewN (Below.refl _ _) nn))
                have hx := H7.out.call (fun hS => qpop_any hS)
                clear HA6 HRise HKP H6
                cases hL : q5.L with
                | nil =>
                  have e2 : qpV q5 = pk0 := by unfold qpV; rw [hL]; rfl
                  have e3 : qpE q5 = 5 := by unfold qpE; rw [if_pos hL]
                  rw [e2, e3] at hx
                  have HX := Lib.hid hx
                  have HI3 := Lib.hid (HI2.out.none_ hL)
                  clear hx hL e2 e3 HI2 H7
                  go_wp2_with fail
                  (with_reducible refine HX.out.mono ?_)
                  rintro e w8 ⟨rfl, h8, _⟩
                  unfold aggP pk0
                  simp only
                  have H8 := Lib.hid (h8.below ((Below.refl _ _).alloc (Nat.le_refl _) (.cells #[.int .i64 0, .int .i64 0, .int .i64 0, .int .i64 0, .int .i64 0] 40)))
                  clear h8 HX
                  go_wp2
                  go_roundw
                  case rel => exact ⟨j + 1, k + 1 + 1, lst, _, by omega, by omega, by go_num, rfl, HI3, by omega, H8⟩
                  case measure => simp [intOf]; omega
                | cons p T =>
                  have e2 : qpV q5 = p := by unfold qpV; rw [hL]; rfl
                  have e3 : qpE q5 = 0 := by unfold qpE; rw [if_neg (by rw [hL]; simp)]
                  rw [e2, e3] at hx
                  have HX := Lib.hid hx
                  obtain ⟨hlo, hi3⟩ := HI2.out.pop hL
                  have HI3 := Lib.hid hi3
                  clear hx hL e2 e3 HI2 H7 hi3
                  obtain ⟨p0, p1, p2, p3, p4⟩ := p
                  simp only at hlo HI3
                  go_wp2_with fail
                  (with_reducible refine HX.out.mono ?_)
                  rintro e w8 ⟨rfl, h8, _⟩
                  unfold aggP
                  simp only
                  have H8 := Lib.hid (h8.below ((Below.refl _ _).alloc (Nat.le_refl _) (.cells #[.int .i64 p0, .int .i64 p1, .int .i64 p2, .int .i64 p3, .int .i64 p4] 40)))
                  clear h8 HX
                  go_wp2
                  go_roundw
                  case rel => exact ⟨j + 1, k + 1 + 1, p0, _, by omega, by omega, by go_num, rfl, HI3, by omega, H8⟩
                  case measure => simp [intOf]; omega
    · obtain rfl : j = 40 := by omega
      have HW := Lib.hid (fun w => awake11_any w)
      unfold Calm at HW
      have HB := Lib.hid HJ.out.bel
      clear HJ
      go_wp2_with fail
      (with_reducible refine (HW.out _).mono ?_); rintro e w4 ⟨rfl, hb⟩
      have HF := Lib.hid (HB.out.trans (hb.mono HB.out.size))
      clear hb
      go_wp2
      go_ret
      exact ⟨rfl, HF.out⟩
end Go.Proofs.Ytijdfkdfojiffaa

