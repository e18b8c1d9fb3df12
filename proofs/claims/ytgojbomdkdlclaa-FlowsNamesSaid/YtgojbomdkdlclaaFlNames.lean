/-
  Layer 10: the walk of the statement on names (FlowsNames). Every input; no condition.
-/
import Derived.Test.YtgojbomdkdlclaaFlKeep
import Derived.Test.YtgojbomdkdlclaaLbCmp
import Derived.Test.YtgojbomdkdlclaaLbGen
namespace Go.Proofs.Ytgojbomdkdlclaa
open Go.ChangeShapes Go.WideShapes Go.ChangeAt Go.RowKit
set_option linter.unusedVariables false

theorem GP.name {w w0 : World} {B C H len cap k : Nat} {a : Option Addr} {t : Tb} (h : GP B a len cap k w0 C H t w) (hk : k ≤ 1000000000) :
    Calls Try.prog 20 #[.pointer (some ⟨B, 0, none⟩)] w fun e w' => ∃ x, x.size ≤ 2000000 ∧ e = .returned (.string x) ∧ GP B a len cap (k + 1) w0 C H t w' := by
  obtain ⟨h0, h1, S, h2⟩ := h
  refine (has_name B a len cap k w0 w h1 hk).mono ?_
  rintro e w' ⟨x, hx, e1, h3, h4⟩
  exact ⟨x, by have := name_size hx; omega, e1, h0, h3, S, h2.only h0 h4⟩
/-- Quiet calls beside a table and choices. -/
theorem GP.quiet {w w0 : World} {B C H len cap k : Nat} {a : Option Addr} {t : Tb} {x : Value} {f : Nat} {args : Array Value} (h : GP B a len cap k w0 C H t w) (hc : ∀ w, Calls Try.prog f args w fun e w' => e = .returned x ∧ Below w.heap.size w w') :
    Calls Try.prog f args w fun e w' => e = .returned x ∧ GP B a len cap k w0 C H t w' := by
  obtain ⟨h0, h1, S, h2⟩ := h
  refine (hc w).mono ?_
  rintro e w' ⟨e1, h3⟩
  exact ⟨e1, h0, h1.below h3, S, h2.below h3⟩
def na0 : Tb := ⟨10, 1, [], [], []⟩
def na1 (a : ByteArray) : Tb := ⟨10, 1, [⟨0, a, 1, 0⟩], [], []⟩
def na2 (a b : ByteArray) : Tb := ⟨10, 1, [⟨0, a, 1, 0⟩, ⟨1, b, 1, 0⟩], [], []⟩
theorem na_good (n : ByteArray) : ((nam n).isSome && gwB 1 && decide ((0 : Int) ≤ 0) && decide ((0 : Int) < 1)) = (nam n).isSome := by
  have : gwB 1 = true := by decide
  rw [this]; simp
theorem na_bad {t : Tb} (ht : t.rt = 1) {n : ByteArray} (h : (nam n).isSome = false) : asE t n 1 0 = 1 ∧ asT t n 1 0 = t := by
  obtain ⟨e1, _, e2⟩ := as_1 (t := t) (n := n) (w := 1) (r := 0) (by rw [ht, na_good]; exact h)
  exact ⟨e1, e2⟩
theorem na_first {n : ByteArray} (h : (nam n).isSome = true) : asE na0 n 1 0 = 0 ∧ asT na0 n 1 0 = na1 n := by
  obtain ⟨e1, _, e2⟩ := as_0 (t := na0) (n := n) (w := 1) (r := 0) (by rw [show na0.rt = 1 from rfl, na_good]; exact h) rfl (by show ¬ 16 ≤ 0; omega)
  exact ⟨e1, e2⟩
theorem na_dup {a n : ByteArray} (h : (nam n).isSome = true) (e : nam a = nam n) : asE (na1 a) n 1 0 = 7 ∧ asT (na1 a) n 1 0 = na1 a := by
  obtain ⟨e1, _, e2⟩ := as_7 (t := na1 a) (n := n) (w := 1) (r := 0) (by rw [show (na1 a).rt = 1 from rfl, na_good]; exact h) (by
    have : hitB n ⟨0, a, 1, 0⟩ = true := by unfold hitB; rw [h, Bool.true_and, beq_iff_eq, cmpO_zero]; exact e
    show (List.findIdx? (hitB n) [_]).isSome = true
    rw [List.findIdx?_cons, this]; rfl)
  exact ⟨e1, e2⟩
theorem na_other {a n : ByteArray} (h : (nam n).isSome = true) (e : nam a ≠ nam n) : asE (na1 a) n 1 0 = 0 ∧ asT (na1 a) n 1 0 = na2 a n := by
  obtain ⟨e1, _, e2⟩ := as_0 (t := na1 a) (n := n) (w := 1) (r := 0) (by rw [show (na1 a).rt = 1 from rfl, na_good]; exact h) (by
    have : hitB n ⟨0, a, 1, 0⟩ = false := by unfold hitB; rw [h, Bool.true_and, beq_eq_false_iff_ne]; intro h2; exact e ((cmpO_zero _ _).1 h2)
    show (List.findIdx? (hitB n) [_]).isSome = false
    rw [List.findIdx?_cons, this]; rfl) (by show ¬ 16 ≤ 1; omega)
  exact ⟨e1, e2⟩
/-- What is found in a table of at most one station. -/
theorem na_few {S : List Sta} (hS : S.length ≤ 1) (s : ByteArray) : (fdV S s = 0 ∧ (fndN S s).isSome = false) ∨ (fdV S s = 0 ∧ (fndN S s).isSome = true) := by
  unfold fdV
  cases h : fndN S s with
  | none => exact .inl ⟨rfl, rfl⟩
  | some k =>
    right
    unfold fndN at h
    rw [List.findIdx?_eq_some_iff_getElem] at h
    obtain ⟨hk, _⟩ := h
    obtain rfl : k = 0 := by omega
    exact ⟨rfl, rfl⟩
/-- What is found is the station of an equal name. -/
theorem na_find {S : List Sta} {s : ByteArray} : (fdV S s = 0 ∧ (fndN S s).isSome = false) ∨ ∃ k, ∃ h : k < S.length, fdV S s = k ∧ (fndN S s).isSome = true ∧ nam S[k].nm = nam s := by
  unfold fdV
  cases h : fndN S s with
  | none => exact .inl ⟨rfl, rfl⟩
  | some k =>
    right
    unfold fndN at h
    rw [List.findIdx?_eq_some_iff_getElem] at h
    obtain ⟨hk, h1, _⟩ := h
    refine ⟨k, hk, rfl, rfl, ?_⟩
    unfold hitB at h1
    rw [Bool.and_eq_true, beq_iff_eq, cmpO_zero] at h1
    exact h1.2
theorem na_self1 {a : ByteArray} (h : (nam a).isSome = true) : fdV (na1 a).S a = 0 ∧ (fndN (na1 a).S a).isSome = true := by
  have e : hitB a ⟨0, a, 1, 0⟩ = true := by unfold hitB; rw [h, Bool.true_and, beq_iff_eq, cmpO_zero]
  have : fndN (na1 a).S a = some 0 := by show List.findIdx? (hitB a) [_] = _; rw [List.findIdx?_cons, e]; rfl
  unfold fdV; rw [this]; exact ⟨rfl, rfl⟩
theorem na_self2 {a b : ByteArray} (h : (nam a).isSome = true) : fdV (na2 a b).S a = 0 ∧ (fndN (na2 a b).S a).isSome = true := by
  have e : hitB a ⟨0, a, 1, 0⟩ = true := by unfold hitB; rw [h, Bool.true_and, beq_iff_eq, cmpO_zero]
  have : fndN (na2 a b).S a = some 0 := by show List.findIdx? (hitB a) [_, _] = _; rw [List.findIdx?_cons, e]; rfl
  unfold fdV; rw [this]; exact ⟨rfl, rfl⟩
theorem vn10 (s : ByteArray) (hs : s.size ≤ 2000000) {b : Bool} (hb : (nam s).isSome = b) (w : World) : Calls Try.prog 21 #[.string s] w fun e w' => e = .returned (.bool b) ∧ Below w.heap.size w w' := by
  rw [← hb]; exact validName_any s w hs
theorem cm10 (a b : ByteArray) (ha : a.size ≤ 2000000) (hb : b.size ≤ 2000000) {z : Int} (hz : cmpO (nam a) (nam b) = z) (w : World) : Calls Try.prog 22 #[.string a, .string b] w fun e w' => e = .returned (.int .i64 z) ∧ Below w.heap.size w w' := by
  rw [← hz]; exact refCmp_any a b ha hb w
set_option maxRecDepth 100000 in
theorem names_long (a : Option Addr) (len cap : Nat) (s : ByteArray) (hs : 100 < s.size) (hs2 : s.size ≤ 9223372036854775807) (w : World) :
    Calls Try.prog 6 #[.slice a len cap, .string s] w fun e w' => e = .returned (.bool true) ∧ Below w.heap.size w w' := by
  have hs' : (100 : Int) < s.size := by omega
  have HN := Lib.hid (fun w => pnew_any (c := 10) (r := 1) (by omega) w)
  go_enter Try.func6, Try.ntmps6
  go_wp2_with (go_at_call 7; (with_reducible refine (new_any a len cap _).mono ?_); rintro e w' ⟨rfl, rfl⟩)
  (with_reducible refine (HN.out _).mono ?_)
  intro e w2 ha
  obtain ⟨H, S, rfl, _, hb⟩ := ha
  have HF := Lib.hid (((Below.refl w.heap.size w).alloc (Nat.le_refl _) (.cells #[.slice a len cap, .int .i64 0] 54)).trans (hb.mono (by simp)))
  clear hb
  go_wp2
  go_ret
  exact ⟨rfl, HF.out⟩
set_option maxRecDepth 100000 in
set_option maxHeartbeats 8000000 in
theorem walkNames (a : Option Addr) (len cap : Nat) (s : ByteArray) (hs2 : s.size ≤ 9223372036854775807) (w : World) (he : Elems w.heap.size a len w) :
    Calls Try.prog 6 #[.slice a len cap, .string s] w fun e w' => e = .returned (.bool true) ∧ Below w.heap.size w w' := by
  by_cases hs : 100 < s.size
  · exact names_long a len cap s hs hs2 w
  have hs' : ¬ (100 : Int) < s.size := by omega
  have hg := Lib.hid (Has.new (cap := cap) he)
  have HN := Lib.hid (fun w => pnew_any (c := 10) (r := 1) (by omega) w)
  have HW := Lib.hid (fun w => awake10_any w)
  unfold Quiet at HW
  clear he
  go_enter Try.func6, Try.ntmps6
  go_wp2_with (go_at_call 7; (with_reducible refine (new_any a len cap _).mono ?_); rintro e w' ⟨rfl, rfl⟩)
  (with_reducible refine (HN.out _).mono ?_)
  intro e w2 ha
  obtain ⟨H, rfl, h2⟩ := GP.new hg.out ha
  generalize (w.alloc (.cells #[.slice a len cap, .int .i64 0] 54)).heap.size = C at h2
  have HX := Lib.hid (h2.name (by omega))
  clear ha h2 hg HN
  go_wp2_with fail
  (with_reducible refine HX.out.mono ?_)
  rintro e w3 ⟨x, x1, rfl, h3⟩
  have HX := Lib.hid (h3.name (by omega))
  clear h3
  go_wp2_with fail
  (with_reducible refine HX.out.mono ?_)
  rintro e w4 ⟨y, y1, rfl, h4⟩
  have hc := h4.call (fun S hS => addStation_any hS x 1 0)
  rw [show (⟨10, 1, [], [], []⟩ : Tb) = na0 from rfl] at hc
  generalize asX na0 x 1 0 = vx at hc
  have zsx : ∃ z, cmpO (nam s) (nam x) = z := ⟨_, rfl⟩
  have zsy : ∃ z, cmpO (nam s) (nam y) = z := ⟨_, rfl⟩
  have zxy : ∃ z, cmpO (nam x) (nam y) = z := ⟨_, rfl⟩
  obtain ⟨zx, zsx⟩ := zsx
  obtain ⟨zy, zsy⟩ := zsy
  obtain ⟨zz, zxy⟩ := zxy
  have MX := Lib.hid (fun w => cm10 s x (by omega) x1 zsx w)
  have MY := Lib.hid (fun w => cm10 s y (by omega) y1 zsy w)
  have MZ := Lib.hid (fun w => cm10 x y x1 y1 zxy w)
  clear HX h4
  cases nx : (nam x).isSome
  · obtain ⟨k1, k2⟩ := na_bad (t := na0) rfl nx
    rw [k1, k2] at hc
    have HX := Lib.hid hc
    have HV := Lib.hid (fun w => vn10 x x1 nx w)
    have hfx := Lib.hid (fun S => fnd_no (S := S) nx)
    clear hc k1 k2 nx
    go_wp2_with fail
    (with_reducible refine HX.out.mono ?_)
    rintro e w5 ⟨rfl, h5⟩
    have hc := h5.call (fun S hS => addStation_any hS y 1 0)
    have hlen : (asT na0 y 1 0).S.length ≤ 1 := by unfold asT; split <;> simp [na0]
    generalize asX na0 y 1 0 = vy at hc
    generalize asE na0 y 1 0 = ey at hc
    generalize asT na0 y 1 0 = T at *
    have HX := Lib.hid hc
    clear hc h5
    go_wp2_with fail
    (with_reducible refine HX.out.mono ?_)
    rintro e w6 ⟨rfl, h6⟩
    have HX := Lib.hid (h6.quiet HV.out)
    clear h6
    go_wp2_with fail
    (with_reducible refine HX.out.mono ?_)
    rintro e w7 ⟨rfl, h7⟩
    have hfs := h7.ask (fun S hS => find_any hS s)
    clear HX h7
    rcases na_few hlen s with ⟨q1, q2⟩ | ⟨q1, q2⟩
    · rw [q1, q2] at hfs
      have HX := Lib.hid hfs
      clear hfs q1 q2
      go_wp2_with fail
      (with_reducible refine HX.out.mono ?_)
      rintro e w8 ⟨rfl, h8⟩
      have hfs := h8.ask (fun S hS => find_any hS x)
      unfold fdV at hfs
      rw [hfx.out] at hfs
      have HX := Lib.hid hfs
      clear hfs h8
      go_wp2_with fail
      (with_reducible refine HX.out.mono ?_)
      rintro e w9 ⟨rfl, h9⟩
      have HX := Lib.hid (h9.quiet HW.out)
      clear h9
      go_wp2_with fail
      (with_reducible refine HX.out.mono ?_)
      rintro e w10 ⟨rfl, h10⟩
      have HF := Lib.hid h10.bel
      clear h10 HX
      go_wp2
      go_ret
      exact ⟨rfl, HF.out⟩
    · rw [q1, q2] at hfs
      have HX := Lib.hid hfs
      clear hfs q1 q2
      go_wp2_with fail
      (with_reducible refine HX.out.mono ?_)
      rintro e w8 ⟨rfl, h8⟩
      have hfs := h8.ask (fun S hS => find_any hS x)
      unfold fdV at hfs
      rw [hfx.out] at hfs
      have HX := Lib.hid hfs
      clear hfs h8
      go_wp2_with fail
      (with_reducible refine HX.out.mono ?_)
      rintro e w9 ⟨rfl, h9⟩
      have HX := Lib.hid (h9.quiet MX.out)
      clear h9
      by_cases hz : zx = 0
      · subst hz
        go_wp2_with fail
        (with_reducible refine HX.out.mono ?_)
        rintro e w10 ⟨rfl, h10⟩
        have HX := Lib.hid (h10.quiet HW.out)
        clear h10
        go_wp2_with fail
        (with_reducible refine HX.out.mono ?_)
        rintro e w11 ⟨rfl, h11⟩
        have HF := Lib.hid h11.bel
        clear h11 HX
        go_wp2
        go_ret
        exact ⟨rfl, HF.out⟩
      · have hzb : (zx != 0) = true := by simpa using hz
        go_wp2_with fail
        (with_reducible refine HX.out.mono ?_)
        rintro e w10 ⟨rfl, h10⟩
        have HX := Lib.hid (h10.quiet HW.out)
        clear h10
        go_wp2_with fail
        (with_reducible refine HX.out.mono ?_)
        rintro e w11 ⟨rfl, h11⟩
        have HF := Lib.hid h11.bel
        clear h11 HX
        go_wp2
        go_ret
        exact ⟨rfl, HF.out⟩
  · obtain ⟨k1, k2⟩ := na_first nx
    rw [k1, k2] at hc
    have HX := Lib.hid hc
    have HV := Lib.hid (fun w => vn10 x x1 nx w)
    clear hc k1 k2
    go_wp2_with fail
    (with_reducible refine HX.out.mono ?_)
    rintro e w5 ⟨rfl, h5⟩
    have hc := h5.call (fun S hS => addStation_any hS y 1 0)
    generalize asX (na1 x) y 1 0 = vy at hc
    cases ny : (nam y).isSome
    · obtain ⟨k1, k2⟩ := na_bad (t := na1 x) rfl ny
      rw [k1, k2] at hc
      have HY := Lib.hid (fun w => vn10 y y1 ny w)
      have HX := Lib.hid (hc)
      clear hc h5 k1 k2
      go_wp2_with fail
      (with_reducible refine HX.out.mono ?_)
      rintro e w6 ⟨rfl, h6⟩
      have HX := Lib.hid (h6.quiet HV.out)
      clear h6
      go_wp2_with fail
      (with_reducible refine HX.out.mono ?_)
      rintro e w7 ⟨rfl, h7⟩
      have HX := Lib.hid (h7.quiet HY.out)
      clear h7
      go_wp2_with fail
      (with_reducible refine HX.out.mono ?_)
      rintro e w8 ⟨rfl, h8⟩
      have hfs := h8.ask (fun S hS => find_any hS s)
      rcases na_find (S := (na1 x).S) (s := s) with ⟨q1, q2⟩ | ⟨k, hk, q1, q2, q3⟩
      · rw [q1, q2] at hfs
        have HX := Lib.hid (hfs)
        clear hfs h8 q1 q2
        go_wp2_with fail
        (with_reducible refine HX.out.mono ?_)
        rintro e w9 ⟨rfl, h9⟩
        have hfs := h9.ask (fun S hS => find_any hS x)
        rw [(na_self1 nx).1, (na_self1 nx).2] at hfs
        have HX := Lib.hid (hfs)
        clear hfs h9
        go_wp2_with fail
        (with_reducible refine HX.out.mono ?_)
        rintro e w10 ⟨rfl, h10⟩
        have HX := Lib.hid (h10.quiet HW.out)
        clear h10
        go_wp2_with fail
        (with_reducible refine HX.out.mono ?_)
        rintro e w11 ⟨rfl, h11⟩
        have HF := Lib.hid h11.bel
        clear h11 HX
        go_wp2
        go_ret
        exact ⟨rfl, HF.out⟩
      · obtain rfl : k = 0 := Nat.lt_one_iff.1 hk
        rw [q1, q2] at hfs
        obtain rfl : zx = 0 := by rw [← zsx, cmpO_zero]; exact q3.symm
        have HX := Lib.hid (hfs)
        clear hfs h8 q1 q2 q3
        go_wp2_with fail
        (with_reducible refine HX.out.mono ?_)
        rintro e w9 ⟨rfl, h9⟩
        have hfs := h9.ask (fun S hS => find_any hS x)
        rw [(na_self1 nx).1, (na_self1 nx).2] at hfs
        have HX := Lib.hid (hfs)
        clear hfs h9
        go_wp2_with fail
        (with_reducible refine HX.out.mono ?_)
        rintro e w10 ⟨rfl, h10⟩
        have HX := Lib.hid (h10.quiet MX.out)
        clear h10
        go_wp2_with fail
        (with_reducible refine HX.out.mono ?_)
        rintro e w11 ⟨rfl, h11⟩
        have HX := Lib.hid (h11.quiet HW.out)
        clear h11
        go_wp2_with fail
        (with_reducible refine HX.out.mono ?_)
        rintro e w12 ⟨rfl, h12⟩
        have HF := Lib.hid h12.bel
        clear h12 HX
        go_wp2
        go_ret
        exact ⟨rfl, HF.out⟩
    · have HY := Lib.hid (fun w => vn10 y y1 ny w)
      by_cases hxy : nam x = nam y
      · obtain ⟨k1, k2⟩ := na_dup ny hxy
        rw [k1, k2] at hc
        obtain rfl : zz = 0 := by rw [← zxy, cmpO_zero]; exact hxy
        have HX := Lib.hid (hc)
        clear hc h5 k1 k2
        go_wp2_with fail
        (with_reducible refine HX.out.mono ?_)
        rintro e w6 ⟨rfl, h6⟩
        have HX := Lib.hid (h6.quiet HV.out)
        clear h6
        go_wp2_with fail
        (with_reducible refine HX.out.mono ?_)
        rintro e w7 ⟨rfl, h7⟩
        have HX := Lib.hid (h7.quiet HY.out)
        clear h7
        go_wp2_with fail
        (with_reducible refine HX.out.mono ?_)
        rintro e w70 ⟨rfl, h70⟩
        have HX := Lib.hid (h70.quiet MZ.out)
        clear h70
        go_wp2_with fail
        (with_reducible refine HX.out.mono ?_)
        rintro e w8 ⟨rfl, h8⟩
        have hfs := h8.ask (fun S hS => find_any hS s)
        rcases na_find (S := (na1 x).S) (s := s) with ⟨q1, q2⟩ | ⟨k, hk, q1, q2, q3⟩
        · rw [q1, q2] at hfs
          have HX := Lib.hid (hfs)
          clear hfs h8 q1 q2
          go_wp2_with fail
          (with_reducible refine HX.out.mono ?_)
          rintro e w9 ⟨rfl, h9⟩
          have hfs := h9.ask (fun S hS => find_any hS x)
          rw [(na_self1 nx).1, (na_self1 nx).2] at hfs
          have HX := Lib.hid (hfs)
          clear hfs h9
          go_wp2_with fail
          (with_reducible refine HX.out.mono ?_)
          rintro e w10 ⟨rfl, h10⟩
          have HX := Lib.hid (h10.quiet HW.out)
          clear h10
          go_wp2_with fail
          (with_reducible refine HX.out.mono ?_)
          rintro e w11 ⟨rfl, h11⟩
          have HF := Lib.hid h11.bel
          clear h11 HX
          go_wp2
          go_ret
          exact ⟨rfl, HF.out⟩
        · obtain rfl : k = 0 := Nat.lt_one_iff.1 hk
          rw [q1, q2] at hfs
          obtain rfl : zx = 0 := by rw [← zsx, cmpO_zero]; exact q3.symm
          have HX := Lib.hid (hfs)
          clear hfs h8 q1 q2 q3
          go_wp2_with fail
          (with_reducible refine HX.out.mono ?_)
          rintro e w9 ⟨rfl, h9⟩
          have hfs := h9.ask (fun S hS => find_any hS x)
          rw [(na_self1 nx).1, (na_self1 nx).2] at hfs
          have HX := Lib.hid (hfs)
          clear hfs h9
          go_wp2_with fail
          (with_reducible refine HX.out.mono ?_)
          rintro e w10 ⟨rfl, h10⟩
          have HX := Lib.hid (h10.quiet MX.out)
          clear h10
          go_wp2_with fail
          (with_reducible refine HX.out.mono ?_)
          rintro e w11 ⟨rfl, h11⟩
          have HX := Lib.hid (h11.quiet HW.out)
          clear h11
          go_wp2_with fail
          (with_reducible refine HX.out.mono ?_)
          rintro e w12 ⟨rfl, h12⟩
          have HF := Lib.hid h12.bel
          clear h12 HX
          go_wp2
          go_ret
          exact ⟨rfl, HF.out⟩
      · obtain ⟨k1, k2⟩ := na_other ny hxy
        rw [k1, k2] at hc
        have hzz : (zz == 0) = false := by rw [beq_eq_false_iff_ne, ← zxy]; intro h; exact hxy ((cmpO_zero _ _).1 h)
        have HX := Lib.hid (hc)
        clear hc h5 k1 k2
        go_wp2_with fail
        (with_reducible refine HX.out.mono ?_)
        rintro e w6 ⟨rfl, h6⟩
        have HX := Lib.hid (h6.quiet HV.out)
        clear h6
        go_wp2_with fail
        (with_reducible refine HX.out.mono ?_)
        rintro e w7 ⟨rfl, h7⟩
        have HX := Lib.hid (h7.quiet HY.out)
        clear h7
        go_wp2_with fail
        (with_reducible refine HX.out.mono ?_)
        rintro e w70 ⟨rfl, h70⟩
        have HX := Lib.hid (h70.quiet MZ.out)
        clear h70
        go_wp2_with fail
        (with_reducible refine HX.out.mono ?_)
        rintro e w8 ⟨rfl, h8⟩
        have hfs := h8.ask (fun S hS => find_any hS s)
        rcases na_find (S := (na2 x y).S) (s := s) with ⟨q1, q2⟩ | ⟨k, hk, q1, q2, q3⟩
        · rw [q1, q2] at hfs
          have HX := Lib.hid (hfs)
          clear hfs h8 q1 q2
          go_wp2_with fail
          (with_reducible refine HX.out.mono ?_)
          rintro e w9 ⟨rfl, h9⟩
          have hfs := h9.ask (fun S hS => find_any hS x)
          rw [(na_self2 nx).1, (na_self2 nx).2] at hfs
          have HX := Lib.hid (hfs)
          clear hfs h9
          go_wp2_with fail
          (with_reducible refine HX.out.mono ?_)
          rintro e w10 ⟨rfl, h10⟩
          have HX := Lib.hid (h10.quiet HW.out)
          clear h10
          go_wp2_with fail
          (with_reducible refine HX.out.mono ?_)
          rintro e w11 ⟨rfl, h11⟩
          have HF := Lib.hid h11.bel
          clear h11 HX
          go_wp2
          go_ret
          exact ⟨rfl, HF.out⟩
        · rcases (show k = 0 ∨ k = 1 from by have hk : k < 2 := hk; omega) with rfl | rfl
          · rw [q1, q2] at hfs
            obtain rfl : zx = 0 := by rw [← zsx, cmpO_zero]; exact q3.symm
            have HX := Lib.hid (hfs)
            clear hfs h8 q1 q2 q3
            go_wp2_with fail
            (with_reducible refine HX.out.mono ?_)
            rintro e w9 ⟨rfl, h9⟩
            have hfs := h9.ask (fun S hS => find_any hS x)
            rw [(na_self2 nx).1, (na_self2 nx).2] at hfs
            have HX := Lib.hid (hfs)
            clear hfs h9
            go_wp2_with fail
            (with_reducible refine HX.out.mono ?_)
            rintro e w10 ⟨rfl, h10⟩
            have HX := Lib.hid (h10.quiet MX.out)
            clear h10
            go_wp2_with fail
            (with_reducible refine HX.out.mono ?_)
            rintro e w11 ⟨rfl, h11⟩
            have HX := Lib.hid (h11.quiet HW.out)
            clear h11
            go_wp2_with fail
            (with_reducible refine HX.out.mono ?_)
            rintro e w12 ⟨rfl, h12⟩
            have HF := Lib.hid h12.bel
            clear h12 HX
            go_wp2
            go_ret
            exact ⟨rfl, HF.out⟩
          · rw [q1, q2] at hfs
            obtain rfl : zy = 0 := by rw [← zsy, cmpO_zero]; exact q3.symm
            have HX := Lib.hid (hfs)
            clear hfs h8 q1 q2 q3
            go_wp2_with fail
            (with_reducible refine HX.out.mono ?_)
            rintro e w9 ⟨rfl, h9⟩
            have hfs := h9.ask (fun S hS => find_any hS x)
            rw [(na_self2 nx).1, (na_self2 nx).2] at hfs
            have HX := Lib.hid (hfs)
            clear hfs h9
            go_wp2_with fail
            (with_reducible refine HX.out.mono ?_)
            rintro e w10 ⟨rfl, h10⟩
            have HX := Lib.hid (h10.quiet MY.out)
            clear h10
            go_wp2_with fail
            (with_reducible refine HX.out.mono ?_)
            rintro e w11 ⟨rfl, h11⟩
            have HX := Lib.hid (h11.quiet HW.out)
            clear h11
            go_wp2_with fail
            (with_reducible refine HX.out.mono ?_)
            rintro e w12 ⟨rfl, h12⟩
            have HF := Lib.hid h12.bel
            clear h12 HX
            go_wp2
            go_ret
            exact ⟨rfl, HF.out⟩
end Go.Proofs.Ytgojbomdkdlclaa

