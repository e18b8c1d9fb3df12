/-
  Layer 7, plain: UTF-8 as lists of bytes: what a string decodes to, the bytes of runes, the order of bytes and of runes. No program is named.
-/
import Derived.Lib.RuneBytes
import Derived.Lib.Bytealg
import Derived.Lib.Strings
import Derived.Laws.RangeAny
namespace Go.Proofs.Ytgojbomdkdlclaa
set_option linter.unusedVariables false

/-- Byte i of s as a number. -/
def bt (s : ByteArray) (i : Nat) : Nat := (s.get! i).toNat
theorem bt_lt (s : ByteArray) (i : Nat) : bt s i < 256 := (s.get! i).toNat_lt
theorem bt_get (s : ByteArray) (i : Nat) (h : i < s.size) : (s[i]'h).toNat = bt s i := by
  unfold bt; simp [ByteArray.get!, getElem!_pos, h]; rfl

/-- A number that is a rune. -/
def Scal (r : Nat) : Prop := r < 55296 ∨ (57344 ≤ r ∧ r ≤ 1114111)
/-- The bytes of a rune. -/
def enc (r : Nat) : List UInt8 := Lib.encodeRune (r : Int)
theorem enc_one {r : Nat} (h : r < 128) : enc r = [UInt8.ofNat r] := by
  unfold enc Lib.encodeRune; rw [Lib.encodeRuneZ_one (by omega) (by omega)]; simp
theorem enc_two {r : Nat} (h0 : 128 ≤ r) (h1 : r < 2048) : enc r = [UInt8.ofNat (192 + r / 64), UInt8.ofNat (128 + r % 64)] := by
  unfold enc Lib.encodeRune; rw [Lib.encodeRuneZ_two (by omega) (by omega)]
  simp only [List.map_cons, List.map_nil]
  rw [show (192 + (r : Int) / 64).toNat = 192 + r / 64 by omega, show (128 + (r : Int) % 64).toNat = 128 + r % 64 by omega]
theorem enc_three {r : Nat} (h : Scal r) (h0 : 2048 ≤ r) (h1 : r < 65536) : enc r = [UInt8.ofNat (224 + r / 4096), UInt8.ofNat (128 + r / 64 % 64), UInt8.ofNat (128 + r % 64)] := by
  unfold enc Lib.encodeRune; unfold Scal at h; rw [Lib.encodeRuneZ_three (by omega)]
  simp only [List.map_cons, List.map_nil]
  rw [show (224 + (r : Int) / 4096).toNat = 224 + r / 4096 by omega, show (128 + (r : Int) / 64 % 64).toNat = 128 + r / 64 % 64 by omega, show (128 + (r : Int) % 64).toNat = 128 + r % 64 by omega]
theorem enc_four {r : Nat} (h0 : 65536 ≤ r) (h1 : r ≤ 1114111) : enc r = [UInt8.ofNat (240 + r / 262144), UInt8.ofNat (128 + r / 4096 % 64), UInt8.ofNat (128 + r / 64 % 64), UInt8.ofNat (128 + r % 64)] := by
  unfold enc Lib.encodeRune; rw [Lib.encodeRuneZ_four (by omega) (by omega)]
  simp only [List.map_cons, List.map_nil]
  rw [show (240 + (r : Int) / 262144).toNat = 240 + r / 262144 by omega, show (128 + (r : Int) / 4096 % 64).toNat = 128 + r / 4096 % 64 by omega, show (128 + (r : Int) / 64 % 64).toNat = 128 + r / 64 % 64 by omega, show (128 + (r : Int) % 64).toNat = 128 + r % 64 by omega]
theorem u8_nat {n : Nat} (h : n < 256) : (UInt8.ofNat n).toNat = n := by simp; omega
/-- A byte that continues a rune. -/
def Cnt (b : UInt8) : Prop := 128 ≤ b.toNat ∧ b.toNat < 192
theorem Scal.cases {r : Nat} (h : Scal r) : r < 128 ∨ (128 ≤ r ∧ r < 2048) ∨ (2048 ≤ r ∧ r < 65536) ∨ (65536 ≤ r ∧ r ≤ 1114111) := by unfold Scal at h; omega
theorem enc_shape {r : Nat} (h : Scal r) : ∃ b t, enc r = b :: t ∧ ¬ Cnt b ∧ (∀ x ∈ t, Cnt x) ∧ (r = 42 ∧ b.toNat = 42 ∧ t = [] ∨ r ≠ 42 ∧ b.toNat ≠ 42) := by
  rcases h.cases with h1 | ⟨h1, h2⟩ | ⟨h1, h2⟩ | ⟨h1, h2⟩
  · refine ⟨_, _, enc_one h1, ?_, by simp, ?_⟩
    · unfold Cnt; rw [u8_nat (by omega)]; omega
    · rw [u8_nat (by omega)]; by_cases e : r = 42 <;> simp [e]
  · refine ⟨_, _, enc_two h1 h2, ?_, ?_, Or.inr ⟨by omega, ?_⟩⟩
    · unfold Cnt; rw [u8_nat (by omega)]; omega
    · intro x hx; simp only [List.mem_cons, List.not_mem_nil, or_false] at hx; subst hx; unfold Cnt; rw [u8_nat (by omega)]; omega
    · rw [u8_nat (by omega)]; omega
  · refine ⟨_, _, enc_three h h1 h2, ?_, ?_, Or.inr ⟨by omega, ?_⟩⟩
    · unfold Cnt; rw [u8_nat (by omega)]; omega
    · intro x hx; simp only [List.mem_cons, List.not_mem_nil, or_false] at hx; rcases hx with rfl | rfl <;> (unfold Cnt; rw [u8_nat (by omega)]; omega)
    · rw [u8_nat (by omega)]; omega
  · refine ⟨_, _, enc_four h1 h2, ?_, ?_, Or.inr ⟨by omega, ?_⟩⟩
    · unfold Cnt; rw [u8_nat (by omega)]; omega
    · intro x hx; simp only [List.mem_cons, List.not_mem_nil, or_false] at hx; rcases hx with rfl | rfl | rfl <;> (unfold Cnt; rw [u8_nat (by omega)]; omega)
    · rw [u8_nat (by omega)]; omega
theorem cmp_lt {a b : Nat} (x y : List UInt8) (ha : a < 256) (hb : b < 256) (h : a < b) : Lib.compareBytes (UInt8.ofNat a :: x) (UInt8.ofNat b :: y) = -1 := by
  unfold Lib.compareBytes
  rw [if_pos (by rw [UInt8.lt_iff_toNat_lt, u8_nat ha, u8_nat hb]; exact h)]
theorem cmp_eq (a : UInt8) (x y : List UInt8) : Lib.compareBytes (a :: x) (a :: y) = Lib.compareBytes x y := by
  rw [Lib.compareBytes, if_neg (by rw [UInt8.lt_iff_toNat_lt]; omega), if_neg (by rw [UInt8.lt_iff_toNat_lt]; omega)]
theorem cmp_same : ∀ x : List UInt8, Lib.compareBytes x x = 0
  | [] => rfl
  | a :: x => by rw [cmp_eq]; exact cmp_same x
theorem cmp_swap : ∀ x y : List UInt8, Lib.compareBytes x y = - Lib.compareBytes y x
  | [], [] => rfl
  | [], _ :: _ => rfl
  | _ :: _, [] => rfl
  | a :: x, b :: y => by
    by_cases h1 : a < b
    · have h2 : ¬ b < a := by rw [UInt8.lt_iff_toNat_lt] at *; omega
      simp [Lib.compareBytes, h1, h2]
    · by_cases h2 : b < a
      · simp [Lib.compareBytes, h1, h2]
      · simp only [Lib.compareBytes, h1, h2, if_false]; exact cmp_swap x y
/-- The order of bytes is the order of runes: at a lesser rune. -/
theorem enc_lt {a b : Nat} (ha : Scal a) (hb : Scal b) (h : a < b) (x y : List UInt8) : Lib.compareBytes (enc a ++ x) (enc b ++ y) = -1 := by
  rcases ha.cases with a1 | ⟨a1, a2⟩ | ⟨a1, a2⟩ | ⟨a1, a2⟩ <;> rcases hb.cases with b1 | ⟨b1, b2⟩ | ⟨b1, b2⟩ | ⟨b1, b2⟩ <;> try omega
  · rw [enc_one a1, enc_one b1]; exact cmp_lt _ _ (by omega) (by omega) (by omega)
  · rw [enc_one a1, enc_two b1 b2]; exact cmp_lt _ _ (by omega) (by omega) (by omega)
  · rw [enc_one a1, enc_three hb b1 b2]; exact cmp_lt _ _ (by omega) (by omega) (by omega)
  · rw [enc_one a1, enc_four b1 b2]; exact cmp_lt _ _ (by omega) (by omega) (by omega)
  · rw [enc_two a1 a2, enc_two b1 b2]
    by_cases e : a / 64 = b / 64
    · rw [e]; simp only [List.cons_append]; rw [cmp_eq]; exact cmp_lt _ _ (by omega) (by omega) (by omega)
    · exact cmp_lt _ _ (by omega) (by omega) (by omega)
  · rw [enc_two a1 a2, enc_three hb b1 b2]; exact cmp_lt _ _ (by omega) (by omega) (by omega)
  · rw [enc_two a1 a2, enc_four b1 b2]; exact cmp_lt _ _ (by omega) (by omega) (by omega)
  · rw [enc_three ha a1 a2, enc_three hb b1 b2]
    by_cases e : a / 4096 = b / 4096
    · rw [e]; simp only [List.cons_append]; rw [cmp_eq]
      by_cases e2 : a / 64 % 64 = b / 64 % 64
      · rw [e2, cmp_eq]; exact cmp_lt _ _ (by omega) (by omega) (by omega)
      · exact cmp_lt _ _ (by omega) (by omega) (by omega)
    · exact cmp_lt _ _ (by omega) (by omega) (by omega)
  · rw [enc_three ha a1 a2, enc_four b1 b2]; exact cmp_lt _ _ (by omega) (by omega) (by omega)
  · rw [enc_four a1 a2, enc_four b1 b2]
    by_cases e : a / 262144 = b / 262144
    · rw [e]; simp only [List.cons_append]; rw [cmp_eq]
      by_cases e2 : a / 4096 % 64 = b / 4096 % 64
      · rw [e2, cmp_eq]
        by_cases e3 : a / 64 % 64 = b / 64 % 64
        · rw [e3, cmp_eq]; exact cmp_lt _ _ (by omega) (by omega) (by omega)
        · exact cmp_lt _ _ (by omega) (by omega) (by omega)
      · exact cmp_lt _ _ (by omega) (by omega) (by omega)
    · exact cmp_lt _ _ (by omega) (by omega) (by omega)
/-- What follows a rune's bytes is compared where the runes are the same. -/
theorem cmp_app (p : List UInt8) (x y : List UInt8) : Lib.compareBytes (p ++ x) (p ++ y) = Lib.compareBytes x y := by
  induction p with
  | nil => rfl
  | cons a p ih => simp only [List.cons_append]; rw [cmp_eq]; exact ih
theorem enc_inj {a b : Nat} (ha : Scal a) (hb : Scal b) {x y : List UInt8} (h : enc a ++ x = enc b ++ y) : a = b ∧ x = y := by
  have e : a = b := by
    rcases Nat.lt_trichotomy a b with h1 | h1 | h1
    · have := enc_lt ha hb h1 x y; rw [h, cmp_same] at this; simp at this
    · exact h1
    · have := enc_lt hb ha h1 y x; rw [h, cmp_same] at this; simp at this
  subst e
  exact ⟨rfl, List.append_cancel_left h⟩
/-- The bytes of runes. -/
def encs (l : List Nat) : List UInt8 := l.flatMap enc
theorem encs_cons (a : Nat) (l : List Nat) : encs (a :: l) = enc a ++ encs l := by simp [encs]
theorem encs_app (a b : List Nat) : encs (a ++ b) = encs a ++ encs b := by simp [encs]
theorem enc_ne {r : Nat} (h : Scal r) : enc r ≠ [] := by obtain ⟨b, t, e, _⟩ := enc_shape h; rw [e]; simp
/-- The order of lists of runes. -/
def cmpR : List Nat → List Nat → Int
  | [], [] => 0
  | [], _ :: _ => -1
  | _ :: _, [] => 1
  | a :: as, b :: bs => if a < b then -1 else if b < a then 1 else cmpR as bs
theorem cmp_encs : ∀ (x y : List Nat), (∀ r ∈ x, Scal r) → (∀ r ∈ y, Scal r) → Lib.compareBytes (encs x) (encs y) = cmpR x y
  | [], [], _, _ => rfl
  | [], b :: y, _, hy => by
    obtain ⟨c, t, e, _⟩ := enc_shape (hy b (by simp))
    rw [encs_cons, e]; rfl
  | a :: x, [], hx, _ => by
    obtain ⟨c, t, e, _⟩ := enc_shape (hx a (by simp))
    rw [encs_cons, e]; rfl
  | a :: x, b :: y, hx, hy => by
    rw [encs_cons, encs_cons]
    by_cases h1 : a < b
    · rw [enc_lt (hx a (by simp)) (hy b (by simp)) h1]; simp [cmpR, h1]
    · by_cases h2 : b < a
      · rw [cmp_swap, enc_lt (hy b (by simp)) (hx a (by simp)) h2]; simp [cmpR, h1, h2]
      · obtain rfl : a = b := by omega
        rw [cmp_app, cmp_encs x y (fun r h => hx r (by simp [h])) (fun r h => hy r (by simp [h]))]
        simp [cmpR]
/-- Where bytes of runes are cut ahead of a byte that begins a rune, runes are cut. -/
theorem encs_cut : ∀ (s : List Nat) (x y : List UInt8), (∀ r ∈ s, Scal r) → encs s = x ++ y → (y = [] ∨ ∃ b t, y = b :: t ∧ ¬ Cnt b) → ∃ s1 s2, s = s1 ++ s2 ∧ x = encs s1 ∧ y = encs s2
  | [], x, y, _, h, _ => by
    have h' : x ++ y = [] := h.symm
    simp at h'
    exact ⟨[], [], rfl, h'.1, h'.2⟩
  | r :: s, [], y, _, h, _ => ⟨[], r :: s, rfl, rfl, by simpa using h.symm⟩
  | r :: s, c :: x, y, hs, h, hy => by
    obtain ⟨b, t, e, h1, h2, _⟩ := enc_shape (hs r (by simp))
    rw [encs_cons, e] at h
    simp only [List.cons_append, List.cons.injEq] at h
    obtain ⟨rfl, h⟩ := h
    have key : ∃ x', x = t ++ x' ∧ encs s = x' ++ y := by
      rcases List.append_eq_append_iff.1 h with ⟨a, ha, hb⟩ | ⟨a, ha, hb⟩
      · exact ⟨a, ha, hb⟩
      · cases a with
        | nil => exact ⟨[], by simpa using ha.symm, by simpa using hb.symm⟩
        | cons d a =>
          rcases hy with rfl | ⟨b', t', rfl, hn⟩
          · simp at hb
          · simp only [List.cons_append, List.cons.injEq] at hb
            obtain ⟨rfl, _⟩ := hb
            exact absurd (h2 b' (by rw [ha]; simp)) hn
    obtain ⟨x', rfl, h'⟩ := key
    obtain ⟨s1, s2, rfl, rfl, rfl⟩ := encs_cut s x' y (fun q hq => hs q (by simp [hq])) h' hy
    exact ⟨r :: s1, s2, rfl, by rw [encs_cons, e]; rfl, rfl⟩
theorem encs_pre : ∀ (p s : List Nat) (y : List UInt8), (∀ r ∈ p, Scal r) → (∀ r ∈ s, Scal r) → encs s = encs p ++ y → ∃ t, s = p ++ t ∧ y = encs t
  | [], s, y, _, _, h => ⟨s, rfl, by simpa [encs] using h.symm⟩
  | a :: p, [], y, hp, _, h => by
    exfalso
    rw [encs_cons] at h
    have h' : enc a ++ encs p ++ y = [] := h.symm
    simp at h'
    exact enc_ne (hp a (by simp)) h'.1
  | a :: p, b :: s, y, hp, hs, h => by
    rw [encs_cons, encs_cons, List.append_assoc] at h
    obtain ⟨e1, h2⟩ := enc_inj (hs b (by simp)) (hp a (by simp)) h
    subst e1
    obtain ⟨t, rfl, e⟩ := encs_pre p s y (fun q hq => hp q (by simp [hq])) (fun q hq => hs q (by simp [hq])) h2
    exact ⟨t, rfl, e⟩
end Go.Proofs.Ytgojbomdkdlclaa

