/-
  Layer 12: contracts of the reference's ValidTags, Least, Rebase; Equal at tags.
-/
import Derived.Test.YtkfhjpgapmfiaaaTgRef
import Derived.Deep.LoopGhost
import Derived.Deep.QuietTactic
import Derived.BigQuiet
import Derived.LoopTactic
import Derived.Laws.StructEq
namespace Go.Proofs.Ytkfhjpgapmfiaaa
open Go.ChangeShapes Go.WideShapes Go.ChangeAt Go.RowKit
set_option linter.unusedVariables false

theorem ok_no {L : List Tg} {k : Nat} (hk : k < L.length) (h : ¬ ((0 ≤ L[k].f ∧ L[k].f < 32) ∧ (∀ h0 : 0 < k, (L[k - 1]'(by omega)).f < L[k].f) ∧ (1 ≤ L[k].w ∧ L[k].w ≤ 16) ∧ (0 ≤ L[k].s ∧ L[k].s ≤ 1099511627776))) : vaB L = false :=
  va_false (i := k) fun h2 => h (h2 hk)
theorem ok_more {L : List Tg} {k : Nat} (h : ∀ i, i < k → OkAt L i) (h2 : OkAt L k) : ∀ i, i < k + 1 → OkAt L i := fun i hi => by
  rcases (by omega : i < k ∨ i = k) with h1 | rfl
  · exact h i h1
  · exact h2
set_option maxRecDepth 100000 in
set_option maxHeartbeats 16000000 in
theorem rvalidT_any (A : Option Addr) (c : Nat) (L : List Tg) (L1 B1 : Nat) (w : World) (hn : L.length ≤ 100000) (ha : SrAt csT 3 w L1 B1 A L) :
    Calls Try.prog 56 #[.slice A L.length c] w fun e w' => e = .returned (.bool (vaB L)) ∧ Drn w w' := by
  have HA := Lib.hid (fun k (hk : k < L.length) => ha.tg hk)
  have HG := Lib.hid (fun x w => rweight_any x w)
  have HNO := Lib.hid (fun k (hk : k < L.length) h => ok_no hk h)
  have HYES := Lib.hid (fun (h : ∀ i, i < L.length → OkAt L i) => va_true (va_of_lt h))
  clear ha
  go_enter Try.func56, Try.ntmps56
  go_wp2
  go_loopw [3] (fun s3 wr => ∃ k : Nat, k ≤ L.length ∧ s3 = .int .i64 k ∧ Hid (∀ i, i < k → OkAt L i) ∧ Hid (Drn w wr)) (fun s3 _ => L.length - (intOf s3).toNat)
  case atStart => exact ⟨0, Nat.zero_le _, rfl, Lib.hid (fun i hi => by omega), Lib.hid (Drn.refl _)⟩
  case round =>
    obtain ⟨k, hk, rfl, HK, HD⟩ := hrel
    by_cases hlt : k < L.length
    · obtain ⟨bb, off, hA, _, _, e0, e1, e2⟩ := HA.out k hlt
      have HN := Lib.hid (fun h => HNO.out k hlt h)
      have hprev : k = 0 ∨ ∃ m y, k = m + 1 ∧ wr.cell? ⟨bb, off + m * 3, none⟩ = some (.int .i64 y) ∧ ∀ h0 : 0 < k, (L[k - 1]'(by omega)).f = y := by
        rcases Nat.eq_zero_or_pos k with h0 | h0
        · exact .inl h0
        · obtain ⟨m, rfl⟩ : ∃ m, k = m + 1 := ⟨k - 1, by omega⟩
          obtain ⟨bb', off', hA', _, _, e0', _⟩ := HA.out m (by omega)
          rw [hA] at hA'
          obtain ⟨rfl, rfl⟩ : bb = bb' ∧ off = off' := by simpa using hA'
          exact .inr ⟨m, _, rfl, (HD.out.cell _).trans e0', fun _ => rfl⟩
      have HOK := Lib.hid (show ((0 ≤ L[k].f ∧ L[k].f < 32) ∧ (∀ h0 : 0 < k, (L[k - 1]'(by omega)).f < L[k].f) ∧ (1 ≤ L[k].w ∧ L[k].w ≤ 16) ∧ (0 ≤ L[k].s ∧ L[k].s ≤ 1099511627776)) → OkAt L k from fun h _ => h)
      subst hA
      obtain ⟨f, hf⟩ : ∃ f, L[k].f = f := ⟨_, rfl⟩
      obtain ⟨wt, hwt⟩ : ∃ wt, L[k].w = wt := ⟨_, rfl⟩
      obtain ⟨s, hs⟩ : ∃ s, L[k].s = s := ⟨_, rfl⟩
      rw [← HD.out.cell, hf] at e0
      rw [← HD.out.cell, hwt] at e1
      rw [← HD.out.cell, hs] at e2
      rw [hf, hwt, hs] at HN HOK
      clear hf hwt hs HA HNO
      rcases hprev with rfl | ⟨m, y, rfl, hm, hy⟩
      · have g1 : decide ((0 : Nat) < 0) = false := by decide
        simp only [Nat.zero_mul, Nat.add_zero] at e0 e1 e2
        rcases (by omega : f < 0 ∨ 32 ≤ f ∨ (0 ≤ f ∧ f < 32 ∧ ¬ (1 ≤ wt ∧ wt ≤ 16)) ∨ (0 ≤ f ∧ f < 32 ∧ (1 ≤ wt ∧ wt ≤ 16) ∧ s < 0) ∨ (0 ≤ f ∧ f < 32 ∧ (1 ≤ wt ∧ wt ≤ 16) ∧ 1099511627776 < s) ∨ (0 ≤ f ∧ f < 32 ∧ (1 ≤ wt ∧ wt ≤ 16) ∧ 0 ≤ s ∧ s ≤ 1099511627776)) with h | h | h | h | h | h
        · have t1 : decide (f < 0) = true := decide_eq_true (by omega)
          have HV := Lib.hid (HN.out (fun h9 => by obtain ⟨⟨_, _⟩, _⟩ := h9; omega))
          clear HK HN HOK
          go_wp2_with fail
          go_quiet (fail)
          go_wp2
          go_ret
          exact ⟨ret_bool HV.out.symm, HD.out.more _⟩
        · have t1 : decide (f < 0) = false := decide_eq_false (by omega)
          have t2 : decide (32 ≤ f) = true := decide_eq_true (by omega)
          have HV := Lib.hid (HN.out (fun h9 => by obtain ⟨⟨_, _⟩, _⟩ := h9; omega))
          clear HK HN HOK
          go_wp2_with fail
          go_quiet (fail)
          go_wp2
          go_ret
          exact ⟨ret_bool HV.out.symm, HD.out.more _⟩
        · have t1 : decide (f < 0) = false := decide_eq_false (by omega)
          have t2 : decide (32 ≤ f) = false := decide_eq_false (by omega)
          have HGk := HG.out wt
          rw [show wtB wt = false from wt_not (by omega)] at HGk
          have HGk := Lib.hid HGk
          have HV := Lib.hid (HN.out (fun h9 => by have := h9.2.2.1; omega))
          clear HK HN HOK
          go_wp2_with fail
          go_quiet ((go_at_call 42; exact Calls.quiet_of_same ((HGk.out _).mono fun _ _ h => ⟨h.1, h.2.symm⟩)))
          go_wp2
          go_ret
          exact ⟨ret_bool HV.out.symm, HD.out.more _⟩
        · have t1 : decide (f < 0) = false := decide_eq_false (by omega)
          have t2 : decide (32 ≤ f) = false := decide_eq_false (by omega)
          have t5 : decide (s < 0) = true := decide_eq_true (by omega)
          have HGk := HG.out wt
          rw [show wtB wt = true from wt_of (by omega)] at HGk
          have HGk := Lib.hid HGk
          have HV := Lib.hid (HN.out (fun h9 => by have := h9.2.2.2; omega))
          clear HK HN HOK
          go_wp2_with fail
          go_quiet ((go_at_call 42; exact Calls.quiet_of_same ((HGk.out _).mono fun _ _ h => ⟨h.1, h.2.symm⟩)))
          go_wp2
          go_ret
          exact ⟨ret_bool HV.out.symm, HD.out.more _⟩
        · have t1 : decide (f < 0) = false := decide_eq_false (by omega)
          have t2 : decide (32 ≤ f) = false := decide_eq_false (by omega)
          have t5 : decide (s < 0) = false := decide_eq_false (by omega)
          have t6 : decide (1099511627776 < s) = true := decide_eq_true (by omega)
          have HGk := HG.out wt
          rw [show wtB wt = true from wt_of (by omega)] at HGk
          have HGk := Lib.hid HGk
          have HV := Lib.hid (HN.out (fun h9 => by have := h9.2.2.2; omega))
          clear HK HN HOK
          go_wp2_with fail
          go_quiet ((go_at_call 42; exact Calls.quiet_of_same ((HGk.out _).mono fun _ _ h => ⟨h.1, h.2.symm⟩)))
          go_wp2
          go_ret
          exact ⟨ret_bool HV.out.symm, HD.out.more _⟩
        · have t1 : decide (f < 0) = false := decide_eq_false (by omega)
          have t2 : decide (32 ≤ f) = false := decide_eq_false (by omega)
          have t5 : decide (s < 0) = false := decide_eq_false (by omega)
          have t6 : decide (1099511627776 < s) = false := decide_eq_false (by omega)
          have HGk := HG.out wt
          rw [show wtB wt = true from wt_of (by omega)] at HGk
          have HGk := Lib.hid HGk
          have HK2 := Lib.hid (ok_more HK.out (HOK.out ⟨by omega, (fun h0 => by omega), by omega, by omega⟩))
          clear HK HN HOK
          go_wp2_with fail
          go_quiet ((go_at_call 42; exact Calls.quiet_of_same ((HGk.out _).mono fun _ _ h => ⟨h.1, h.2.symm⟩)))
          go_wp2
          go_roundw
          case rel => exact ⟨0 + 1, by omega, by go_num, HK2, Lib.hid (HD.out.more _)⟩
          case measure => simp [intOf]; omega
      · have hwm : IntKind.i64.wrap (((m + 1 : Nat) : Int) - 1) = (m : Int) := by rw [IntWalk.i64_in _ (by omega)]; omega
        have g1 : decide ((0 : Nat) < m + 1) = true := by simp
        rcases (by omega : f < 0 ∨ 32 ≤ f ∨ (f ≤ y ∧ 0 ≤ f ∧ f < 32) ∨ (y < f ∧ 0 ≤ f ∧ f < 32 ∧ ¬ (1 ≤ wt ∧ wt ≤ 16)) ∨ (y < f ∧ 0 ≤ f ∧ f < 32 ∧ (1 ≤ wt ∧ wt ≤ 16) ∧ s < 0) ∨ (y < f ∧ 0 ≤ f ∧ f < 32 ∧ (1 ≤ wt ∧ wt ≤ 16) ∧ 1099511627776 < s) ∨ (y < f ∧ 0 ≤ f ∧ f < 32 ∧ (1 ≤ wt ∧ wt ≤ 16) ∧ 0 ≤ s ∧ s ≤ 1099511627776)) with h | h | h | h | h | h | h
        · have t1 : decide (f < 0) = true := decide_eq_true (by omega)
          have HV := Lib.hid (HN.out (fun h9 => by obtain ⟨⟨_, _⟩, _⟩ := h9; omega))
          clear HK HN HOK hy
          go_wp2_with fail
          go_quiet (fail)
          go_wp2
          go_ret
          exact ⟨ret_bool HV.out.symm, HD.out.more _⟩
        · have t1 : decide (f < 0) = false := decide_eq_false (by omega)
          have t2 : decide (32 ≤ f) = true := decide_eq_true (by omega)
          have HV := Lib.hid (HN.out (fun h9 => by obtain ⟨⟨_, _⟩, _⟩ := h9; omega))
          clear HK HN HOK hy
          go_wp2_with fail
          go_quiet (fail)
          go_wp2
          go_ret
          exact ⟨ret_bool HV.out.symm, HD.out.more _⟩
        · have t1 : decide (f < 0) = false := decide_eq_false (by omega)
          have t2 : decide (32 ≤ f) = false := decide_eq_false (by omega)
          have t3 : decide (f ≤ y) = true := decide_eq_true (by omega)
          have HV := Lib.hid (HN.out (fun h9 => by have := h9.2.1 (by omega); rw [hy (by omega)] at this; omega))
          clear HK HN HOK hy
          go_wp2_with fail
          go_quiet (fail)
          go_wp2
          go_ret
          exact ⟨ret_bool HV.out.symm, HD.out.more _⟩
        · have t1 : decide (f < 0) = false := decide_eq_false (by omega)
          have t2 : decide (32 ≤ f) = false := decide_eq_false (by omega)
          have t3 : decide (f ≤ y) = false := decide_eq_false (by omega)
          have HGk := HG.out wt
          rw [show wtB wt = false from wt_not (by omega)] at HGk
          have HGk := Lib.hid HGk
          have HV := Lib.hid (HN.out (fun h9 => by have := h9.2.2.1; omega))
          clear HK HN HOK hy
          go_wp2_with fail
          go_quiet ((go_at_call 42; exact Calls.quiet_of_same ((HGk.out _).mono fun _ _ h => ⟨h.1, h.2.symm⟩)))
          go_wp2
          go_ret
          exact ⟨ret_bool HV.out.symm, HD.out.more _⟩
        · have t1 : decide (f < 0) = false := decide_eq_false (by omega)
          have t2 : decide (32 ≤ f) = false := decide_eq_false (by omega)
          have t3 : decide (f ≤ y) = false := decide_eq_false (by omega)
          have t5 : decide (s < 0) = true := decide_eq_true (by omega)
          have HGk := HG.out wt
          rw [show wtB wt = true from wt_of (by omega)] at HGk
          have HGk := Lib.hid HGk
          have HV := Lib.hid (HN.out (fun h9 => by have := h9.2.2.2; omega))
          clear HK HN HOK hy
          go_wp2_with fail
          go_quiet ((go_at_call 42; exact Calls.quiet_of_same ((HGk.out _).mono fun _ _ h => ⟨h.1, h.2.symm⟩)))
          go_wp2
          go_ret
          exact ⟨ret_bool HV.out.symm, HD.out.more _⟩
        · have t1 : decide (f < 0) = false := decide_eq_false (by omega)
          have t2 : decide (32 ≤ f) = false := decide_eq_false (by omega)
          have t3 : decide (f ≤ y) = false := decide_eq_false (by omega)
          have t5 : decide (s < 0) = false := decide_eq_false (by omega)
          have t6 : decide (1099511627776 < s) = true := decide_eq_true (by omega)
          have HGk := HG.out wt
          rw [show wtB wt = true from wt_of (by omega)] at HGk
          have HGk := Lib.hid HGk
          have HV := Lib.hid (HN.out (fun h9 => by have := h9.2.2.2; omega))
          clear HK HN HOK hy
          go_wp2_with fail
          go_quiet ((go_at_call 42; exact Calls.quiet_of_same ((HGk.out _).mono fun _ _ h => ⟨h.1, h.2.symm⟩)))
          go_wp2
          go_ret
          exact ⟨ret_bool HV.out.symm, HD.out.more _⟩
        · have t1 : decide (f < 0) = false := decide_eq_false (by omega)
          have t2 : decide (32 ≤ f) = false := decide_eq_false (by omega)
          have t3 : decide (f ≤ y) = false := decide_eq_false (by omega)
          have t5 : decide (s < 0) = false := decide_eq_false (by omega)
          have t6 : decide (1099511627776 < s) = false := decide_eq_false (by omega)
          have HGk := HG.out wt
          rw [show wtB wt = true from wt_of (by omega)] at HGk
          have HGk := Lib.hid HGk
          have HK2 := Lib.hid (ok_more HK.out (HOK.out ⟨by omega, (fun h0 => by rw [hy (by omega)]; omega), by omega, by omega⟩))
          clear HK HN HOK hy
          go_wp2_with fail
          go_quiet ((go_at_call 42; exact Calls.quiet_of_same ((HGk.out _).mono fun _ _ h => ⟨h.1, h.2.symm⟩)))
          go_wp2
          go_roundw
          case rel => exact ⟨m + 1 + 1, by omega, by go_num, HK2, Lib.hid (HD.out.more _)⟩
          case measure => simp [intOf]; omega
    · obtain rfl : k = L.length := by omega
      have HV := Lib.hid (HYES.out HK.out)
      clear HK HA HNO HYES
      go_wp2
      go_ret
      exact ⟨ret_bool HV.out.symm, HD.out⟩
set_option maxRecDepth 100000 in
set_option maxHeartbeats 4000000 in
theorem rleast_any (A : Option Addr) (c : Nat) (L : List Tg) (L1 B1 : Nat) (w : World) (hn : L.length ≤ 100000) (ha : SrAt csT 3 w L1 B1 A L) :
    Calls Try.prog 45 #[.slice A L.length c] w (Calm (.int .i64 (ltI L)) w) := by
  have HV := rvalidT_any A c L L1 B1 w hn ha
  have HA := Lib.hid (fun k (hk : k < L.length) => ha.tg hk)
  clear ha
  unfold Calm
  cases hv : vaB L
  · rw [hv] at HV
    have HV := Lib.hid HV
    rw [lt_no (fun h => by rw [hv] at h; cases h.1)]
    clear hv HA
    go_enter Try.func45, Try.ntmps45
    go_wp2_with fail
    (with_reducible refine HV.out.mono ?_); rintro e w' ⟨rfl, hd⟩
    go_wp2
    go_ret
    exact ⟨rfl, hd.below⟩
  · rw [hv] at HV
    have HV := Lib.hid HV
    rcases Nat.eq_zero_or_pos L.length with h0 | h0
    · rw [lt_no (fun h => by omega)]
      obtain rfl : L = [] := List.eq_nil_of_length_eq_zero h0
      simp only [List.length_nil] at HV ⊢
      clear hv HA h0
      go_enter Try.func45, Try.ntmps45
      go_wp2_with fail
      (with_reducible refine HV.out.mono ?_); rintro e w' ⟨rfl, hd⟩
      go_wp2
      go_ret
      exact ⟨rfl, hd.below⟩
    · rw [lt_yes hv h0]
      have hlen0 : ((L.length : Int) == 0) = false := beq_eq_false_iff_ne.2 (by omega)
      have hlen1 : ((L.length == 0) : Bool) = false := beq_eq_false_iff_ne.2 (by omega)
      have HS := Lib.hid (fun i (hi : i < L.length) => (stF_at hi).symm)
      have HM := Lib.hid (fun i (hi : 0 < i) => mI_lt (stF L) i hi)
      have HO := Lib.hid (mI_one (stF L))
      have HN := Lib.hid (fun n => (show mI (stF L) (n + 1) = if stF L n < stF L (mI (stF L) n) then n else mI (stF L) n from rfl))
      clear hv
      go_enter Try.func45, Try.ntmps45
      go_wp2_with fail
      (with_reducible refine HV.out.mono ?_); rintro e w0 ⟨rfl, hd0⟩
      have HD0 := Lib.hid hd0
      clear hd0
      go_wp2_with fail
      go_loopw [3, 4] (fun s3 s4 wr => ∃ i m : Nat, 1 ≤ i ∧ i ≤ L.length ∧ s4 = .int .i64 i ∧ s3 = .int .i64 m ∧ Hid (m = mI (stF L) i) ∧ Hid (Drn w wr)) (fun s3 s4 _ => L.length - (intOf s4).toNat)
      case atStart => exact ⟨1, 0, by omega, by omega, rfl, rfl, Lib.hid HO.out.symm, HD0⟩
      case round =>
        obtain ⟨i, m, hi1, hi, rfl, rfl, hm, HD⟩ := hrel
        by_cases hlt : i < L.length
        · have hml : m < L.length := by have := HM.out i (by omega); rw [← hm.out] at this; omega
          obtain ⟨bb, off, rfl, _, _, e0, e1, e2⟩ := HA.out i hlt
          obtain ⟨bb', off', hA', _, _, g0, g1, g2⟩ := HA.out m hml
          obtain ⟨rfl, rfl⟩ : bb = bb' ∧ off = off' := by simpa using hA'
          rw [HS.out i hlt, ← HD.out.cell] at e2
          rw [HS.out m hml, ← HD.out.cell] at g2
          have hnext := HN.out i
          rw [← hm.out] at hnext
          have HNX := Lib.hid hnext
          obtain ⟨x, hx⟩ : ∃ x, stF L i = x := ⟨_, rfl⟩
          obtain ⟨y, hy⟩ : ∃ y, stF L m = y := ⟨_, rfl⟩
          rw [hx] at e2
          rw [hy] at g2
          rw [hx, hy] at HNX
          clear hA' hnext hx hy hm HA
          by_cases hxy : x < y
          · have HM2 : Hid (i = mI (stF L) (i + 1)) := Lib.hid (by rw [HNX.out, if_pos hxy])
            clear HNX
            go_wp2_with fail
            go_quiet (fail)
            go_wp2
            go_roundw
            case rel => exact ⟨i + 1, i, by omega, by omega, by go_num, rfl, HM2, Lib.hid (HD.out.more _)⟩
            case measure => simp [intOf]; omega
          · have HM2 : Hid (m = mI (stF L) (i + 1)) := Lib.hid (by rw [HNX.out, if_neg hxy])
            clear HNX
            go_wp2_with fail
            go_quiet (fail)
            go_wp2
            go_roundw
            case rel => exact ⟨i + 1, m, by omega, by omega, by go_num, rfl, HM2, Lib.hid (HD.out.more _)⟩
            case measure => simp [intOf]; omega
        · obtain rfl : i = L.length := by omega
          have HF : Hid ((m : Int) = (mI (stF L) L.length : Nat)) := Lib.hid (by rw [hm.out])
          clear hm
          go_wp2
          go_ret
          exact ⟨ret_int HF.out, HD.out.below⟩
set_option maxHeartbeats 1000000 in
theorem equalTg_any (A B : Option Addr) (c d : Nat) (l : List Tg) (L1 B1 L2 B2 : Nat) (w : World) (hn : l.length ≤ 100000) (ha : SrAt csT 3 w L1 B1 A l) (hb : SrAt csT 3 w L2 B2 B l) :
    Calls Try.prog 26 #[.slice A l.length c, .slice B l.length d] w (Calm (.bool true) w) := by
  unfold Calm
  go_enter Try.func26, Try.ntmps26
  go_wp2
  go_loopw [5] (fun i wr => ∃ k : Nat, k ≤ l.length ∧ i = .int .i64 k ∧ ∃ q, wr = w.drewN q) (fun i _ => l.length - (intOf i).toNat)
  case atStart => exact ⟨0, Nat.zero_le _, rfl, 0, rfl⟩
  case round =>
    obtain ⟨k, hk, rfl, q, rfl⟩ := hrel
    by_cases hlt : k < l.length
    · obtain ⟨b, off, rfl, _, _, e0, e1, e2⟩ := ha.tg hlt
      obtain ⟨b', off', rfl, _, _, g0, g1, g2⟩ := hb.tg hlt
      generalize l[k] = p at *
      obtain ⟨p0, p1, p2⟩ := p
      simp only at e0 e1 e2 g0 g1 g2
      clear ha hb
      go_wp2
      go_quiet (fail)
      go_wp2
      go_roundw
      case rel => exact ⟨k + 1, by omega, by go_num, _, rfl⟩
      case measure => simp [intOf]; omega
    · obtain rfl : k = l.length := by omega
      clear ha hb
      go_wp2
      go_ret
      exact ⟨rfl, Below_drewN (Below.refl _ _) q⟩
end Go.Proofs.Ytkfhjpgapmfiaaa

