/-
  Layer 7: contract of the reference's Compare; a slice of runes that is read (LC). Every string of up to 2000000 bytes.
-/
import Derived.Test.YtgojbomdkdlclaaLbRef2
import Derived.Deep.QuietTactic
import Derived.BigQuiet
namespace Go.Proofs.Ytgojbomdkdlclaa
open Go.ChangeShapes Go.WideShapes Go.ChangeAt Go.RowKit
set_option linter.unusedVariables false

/-- The slice at A, of capacity c, holds the runes l. -/
def LC (w : World) (A : Option Addr) (c : Nat) (l : List Nat) : Prop :=
  l.length ≤ c ∧ c ≤ 9223372036854775807 ∧ ∀ j (h : j < l.length), ∃ b off, A = some ⟨b, off, none⟩ ∧ w.cell? ⟨b, off + j, none⟩ = some (.int .i64 (l[j] : Int))
theorem LC.drewN {w : World} {A : Option Addr} {c : Nat} {l : List Nat} (h : LC w A c l) (q : Nat) : LC (w.drewN q) A c l := h
theorem LC.below {w w' : World} {A : Option Addr} {c : Nat} {l : List Nat} (h : LC w A c l) (hb : Below w.heap.size w w') : LC w' A c l :=
  ⟨h.1, h.2.1, fun j hj => by obtain ⟨b, off, e, k⟩ := h.2.2 j hj; exact ⟨b, off, e, cell_later k hb⟩⟩
theorem rc_len (l : List Nat) : (rc l).length = l.length := by simp [rc]
theorem rc_at {l : List Nat} {j : Nat} (h : j < l.length) : (rc l)[j]? = some (.int .i64 (l[j] : Int)) := by
  unfold rc; rw [List.getElem?_map, List.getElem?_eq_getElem h]; rfl
theorem own_LC {w : World} {base c : Nat} {A : Option Addr} {l : List Nat} (h : w.ownsRow base 3 1 (.slice A l.length c) l.length (rc l)) : LC w A c l := by
  rcases Nat.eq_zero_or_pos l.length with h0 | h0
  · rcases h.2 with ⟨hv, _⟩ | ⟨g, cap, cur, hv, _, _, h4, h5, _⟩
    · simp only [Value.slice.injEq] at hv
      exact ⟨by omega, by omega, fun j hj => by omega⟩
    · simp only [Value.slice.injEq] at hv
      unfold maxLen at h5
      exact ⟨by omega, by omega, fun j hj => by omega⟩
  · rcases h.2 with ⟨hv, h1⟩ | ⟨g, cap, cur, hv, _, _, h4, h5, _⟩
    · omega
    · simp only [Value.slice.injEq] at hv
      obtain ⟨rfl, _, rfl⟩ := hv
      unfold maxLen at h5
      refine ⟨h4, by omega, fun j hj => ⟨g, 0, rfl, ?_⟩⟩
      rw [Nat.zero_add, h.cellAt j (by omega), rc_at hj]
theorem LC.at {w : World} {A : Option Addr} {c : Nat} {l : List Nat} (h : LC w A c l) {j : Nat} (hj : j < l.length) : ∃ b off, A = some ⟨b, off, none⟩ ∧ w.cell? ⟨b, off + j, none⟩ = some (.int .i64 (l[j] : Int)) := h.2.2 j hj
theorem nam_len {s : ByteArray} {m : List Nat} (h : nam s = some m) : m.length ≤ 24 ∧ ∀ r ∈ m, Scal r := by
  obtain ⟨l, rfl, h1, _⟩ := nam_some h
  obtain ⟨_, _, _, _, _, _, h7⟩ := pat_some h1
  exact ⟨by simpa using h7, (nam_ne h).1⟩
theorem refCmp_no (a b : ByteArray) (ha : a.size ≤ 2000000) (hb : b.size ≤ 2000000) (w : World) (hn : nam a = none ∨ nam b = none) : Calls Try.prog 22 #[.string a, .string b] w (CmpAns a b w) := by
  unfold CmpAns
  cases h : nam a with
  | none =>
    have H1 := Lib.hid (fun w => fd_no ha h w)
    cases k : nam b with
    | none =>
      have H2 := Lib.hid (fun w => fd_no hb k w)
      clear hn h k
      show Calls _ _ _ _ fun e w' => e = .returned (.int .i64 0) ∧ Below w.heap.size w w'
      go_enter Try.func22, Try.ntmps22
      go_wp2_with fail
      (with_reducible refine (H1.out _).mono ?_); rintro e w1 ⟨rfl, hb1⟩
      have hb1 := Lib.hid hb1
      go_wp2_with fail
      (with_reducible refine (H2.out _).mono ?_); rintro e w2 ⟨rfl, hb2⟩
      have HB := Lib.hid (hb1.out.trans (hb2.mono hb1.out.size))
      go_wp2
      go_ret
      exact ⟨rfl, HB.out⟩
    | some m =>
      have H2 := Lib.hid (fun w => fd_yes hb k w)
      clear hn h k
      show Calls _ _ _ _ fun e w' => e = .returned (.int .i64 (-1)) ∧ Below w.heap.size w w'
      go_enter Try.func22, Try.ntmps22
      go_wp2_with fail
      (with_reducible refine (H1.out _).mono ?_); rintro e w1 ⟨rfl, hb1⟩
      have hb1 := Lib.hid hb1
      go_wp2_with fail
      (with_reducible refine (H2.out _).mono ?_); rintro e w2 ⟨A, c, rfl, ho, hb2⟩
      have HB := Lib.hid (hb1.out.trans (hb2.mono hb1.out.size))
      clear ho
      go_wp2
      go_ret
      exact ⟨rfl, HB.out⟩
  | some m =>
    have k : nam b = none := by rw [h] at hn; simpa using hn
    have H1 := Lib.hid (fun w => fd_yes ha h w)
    have H2 := Lib.hid (fun w => fd_no hb k w)
    rw [k]
    clear hn h k
    show Calls _ _ _ _ fun e w' => e = .returned (.int .i64 1) ∧ Below w.heap.size w w'
    go_enter Try.func22, Try.ntmps22
    go_wp2_with fail
    (with_reducible refine (H1.out _).mono ?_); rintro e w1 ⟨A, c, rfl, ho, hb1⟩
    have hb1 := Lib.hid hb1
    clear ho
    go_wp2_with fail
    (with_reducible refine (H2.out _).mono ?_); rintro e w2 ⟨rfl, hb2⟩
    have HB := Lib.hid (hb1.out.trans (hb2.mono hb1.out.size))
    go_wp2
    go_ret
    exact ⟨rfl, HB.out⟩
theorem cmpR_step {x y : List Nat} {k : Nat} (h1 : k < x.length) (h2 : k < y.length) : cmpR (x.drop k) (y.drop k) = if x[k] < y[k] then -1 else if y[k] < x[k] then 1 else cmpR (x.drop (k + 1)) (y.drop (k + 1)) := by
  rw [List.drop_eq_getElem_cons h1, List.drop_eq_getElem_cons h2, cmpR]
theorem cmpR_end {x y : List Nat} {k : Nat} (h : k = x.length ∨ k = y.length) (h1 : k ≤ x.length) (h2 : k ≤ y.length) : cmpR (x.drop k) (y.drop k) = if x.length < y.length then -1 else if y.length < x.length then 1 else 0 := by
  rcases Nat.lt_trichotomy x.length y.length with c | c | c
  · obtain rfl : k = x.length := by omega
    rw [List.drop_length, List.drop_eq_getElem_cons c, if_pos c]; rfl
  · have e1 : x.drop k = [] := List.drop_of_length_le (by omega)
    have e2 : y.drop k = [] := List.drop_of_length_le (by omega)
    rw [e1, e2, if_neg (by omega), if_neg (by omega)]; rfl
  · obtain rfl : k = y.length := by omega
    rw [List.drop_length, List.drop_eq_getElem_cons c, if_neg (by omega), if_pos c]; rfl
set_option maxHeartbeats 4000000 in
theorem refCmp_yes (a b : ByteArray) (x y : List Nat) (ha : a.size ≤ 2000000) (hb : b.size ≤ 2000000) (w : World) (h : nam a = some x) (k : nam b = some y) : Calls Try.prog 22 #[.string a, .string b] w (CmpAns a b w) := by
  unfold CmpAns
  have H1 := Lib.hid (fun w => fd_yes ha h w)
  have H2 := Lib.hid (fun w => fd_yes hb k w)
  have lx := (nam_len h).1
  have ly := (nam_len k).1
  rw [h, k]
  show Calls _ _ _ _ fun e w' => e = .returned (.int .i64 (cmpR x y)) ∧ Below w.heap.size w w'
  have hG : Hid (cmpR (x.drop 0) (y.drop 0) = cmpR x y) := Lib.hid (by simp)
  generalize cmpR x y = G at *
  clear h k
  go_enter Try.func22, Try.ntmps22
  go_wp2_with fail
  (with_reducible refine (H1.out _).mono ?_); rintro e w1 ⟨A, c, rfl, ho, hb1⟩
  have L1 := own_LC ho
  have hb1h := Lib.hid hb1
  have L1h := Lib.hid L1
  clear ho hb1 L1
  go_wp2_with fail
  (with_reducible refine (H2.out _).mono ?_); rintro e w2 ⟨B, d, rfl, ho, hb2⟩
  have HB := Lib.hid (hb1h.out.trans (hb2.mono hb1h.out.size))
  have HX := Lib.hid (L1h.out.below hb2)
  have HY := Lib.hid (own_LC ho)
  clear ho hb2 hb1h L1h H1 H2
  go_wp2
  go_loopw [9] (fun s9 wr => ∃ k : Nat, k ≤ x.length ∧ k ≤ y.length ∧ s9 = .int .i64 k ∧ Hid (LC wr A c x) ∧ Hid (LC wr B d y) ∧ Hid (Below w.heap.size w wr) ∧ Hid (cmpR (x.drop k) (y.drop k) = G)) (fun s9 _ => x.length - (intOf s9).toNat)
  case atStart => exact ⟨0, by omega, by omega, rfl, HX, HY, HB, hG⟩
  case round =>
    obtain ⟨k, k1, k2, rfl, HX, HY, HB, HG⟩ := hrel
    clear hG
    by_cases c1 : k < x.length
    · by_cases c2 : k < y.length
      · obtain ⟨b1, o1, rfl, cx⟩ := HX.out.at c1
        obtain ⟨b2, o2, rfl, cy⟩ := HY.out.at c2
        have hg := HG.out
        rw [cmpR_step c1 c2] at hg
        have hgh := Lib.hid hg
        clear hg HG
        generalize x[k] = p at *
        generalize y[k] = q at *
        rcases Nat.lt_trichotomy p q with e | e | e
        · have HR := Lib.hid (by have := hgh.out; rwa [if_pos e] at this)
          clear hgh
          go_wp2_with fail
          go_quiet (fail)
          go_wp2
          go_ret
          exact ⟨ret_int HR.out, Below_drewN HB.out _⟩
        · have HR := Lib.hid (by have := hgh.out; rwa [if_neg (by omega), if_neg (by omega)] at this)
          subst e
          clear hgh
          go_wp2_with fail
          go_quiet (fail)
          go_wp2_with fail
          go_quiet (fail)
          go_wp2
          go_roundw
          case rel => exact ⟨k + 1, by omega, by omega, by go_num, Lib.hid HX.out, Lib.hid HY.out, Lib.hid (Below_drewN HB.out _), HR⟩
          case measure => simp [intOf]; omega
        · have HR := Lib.hid (by have := hgh.out; rwa [if_neg (by omega), if_pos e] at this)
          clear hgh
          go_wp2_with fail
          go_quiet (fail)
          go_wp2_with fail
          go_quiet (fail)
          go_wp2
          go_ret
          exact ⟨ret_int HR.out, Below_drewN (Below_drewN HB.out _) _⟩
      · have hg := HG.out
        rw [cmpR_end (by omega) k1 k2] at hg
        have hgh := Lib.hid hg
        clear hg HG HX HY
        generalize x.length = m at *
        generalize y.length = n at *
        have e : n < m := by omega
        have HR := Lib.hid (by have := hgh.out; rwa [if_neg (by omega), if_pos e] at this)
        clear hgh
        go_wp2
        go_ret
        exact ⟨ret_int HR.out, HB.out⟩
    · have hg := HG.out
      rw [cmpR_end (by omega) k1 k2] at hg
      have hgh := Lib.hid hg
      clear hg HG HX HY
      generalize x.length = m at *
      generalize y.length = n at *
      rcases (by omega : m < n ∨ (n ≤ m ∧ m ≤ n)) with e | ⟨e, e'⟩
      · have HR := Lib.hid (by have := hgh.out; rwa [if_pos e] at this)
        clear hgh
        go_wp2
        go_ret
        exact ⟨ret_int HR.out, HB.out⟩
      · have HR := Lib.hid (by have := hgh.out; rwa [if_neg (by omega), if_neg (by omega)] at this)
        clear hgh
        go_wp2
        go_ret
        exact ⟨ret_int HR.out, HB.out⟩
theorem refCmp_any (a b : ByteArray) (ha : a.size ≤ 2000000) (hb : b.size ≤ 2000000) (w : World) : Calls Try.prog 22 #[.string a, .string b] w (CmpAns a b w) := by
  cases h : nam a with
  | none => exact refCmp_no a b ha hb w (.inl h)
  | some x =>
    cases k : nam b with
    | none => exact refCmp_no a b ha hb w (.inr k)
    | some y => exact refCmp_yes a b x y ha hb w h k
end Go.Proofs.Ytgojbomdkdlclaa

