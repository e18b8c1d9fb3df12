/-
  Layer 7, plain: what the model's decoding of UTF-8 gives, in the words of the bytes' classes; the runes of a string; names. No program is named.
-/
import Derived.Test.YtgojbomdkdlclaaLbPlain
namespace Go.Proofs.Ytgojbomdkdlclaa
set_option linter.unusedVariables false

/-- The byte i continues a rune. -/
def CntN (s : ByteArray) (i : Nat) : Prop := 128 ≤ bt s i ∧ bt s i < 192
/-- The rune and its width at place i is a rune: not a fault. -/
def Good (x : Nat × Nat) : Prop := x ≠ (65533, 1)
instance (x : Nat × Nat) : Decidable (Good x) := inferInstanceAs (Decidable (x ≠ (65533, 1)))
theorem ifc {α : Type} {p q : Prop} [Decidable p] [Decidable q] {a b c d : α} (h : p ↔ q) (h1 : a = c) (h2 : b = d) : (if p then a else b) = if q then c else d := by
  subst h1; subst h2
  by_cases hp : p
  · rw [if_pos hp, if_pos (h.1 hp)]
  · rw [if_neg hp, if_neg (fun k => hp (h.2 k))]
theorem dec_eq (s : ByteArray) (i : Nat) : Utf8.decode s i =
    if bt s i < 128 then (bt s i, 1)
    else if bt s i / 32 = 6 ∧ (i + 1 < s.size ∧ bt s (i + 1) / 64 = 2) then
      (if bt s i % 32 * 64 + bt s (i + 1) % 64 ≥ 128 then (bt s i % 32 * 64 + bt s (i + 1) % 64, 2) else (65533, 1))
    else if bt s i / 16 = 14 ∧ (i + 1 < s.size ∧ bt s (i + 1) / 64 = 2) ∧ (i + 2 < s.size ∧ bt s (i + 2) / 64 = 2) then
      (if bt s i % 16 * 4096 + bt s (i + 1) % 64 * 64 + bt s (i + 2) % 64 ≥ 2048 ∧ (bt s i % 16 * 4096 + bt s (i + 1) % 64 * 64 + bt s (i + 2) % 64 < 55296 ∨ 57344 ≤ bt s i % 16 * 4096 + bt s (i + 1) % 64 * 64 + bt s (i + 2) % 64)
       then (bt s i % 16 * 4096 + bt s (i + 1) % 64 * 64 + bt s (i + 2) % 64, 3) else (65533, 1))
    else if bt s i / 8 = 30 ∧ (i + 1 < s.size ∧ bt s (i + 1) / 64 = 2) ∧ (i + 2 < s.size ∧ bt s (i + 2) / 64 = 2) ∧ (i + 3 < s.size ∧ bt s (i + 3) / 64 = 2) then
      (if bt s i % 8 * 262144 + bt s (i + 1) % 64 * 4096 + bt s (i + 2) % 64 * 64 + bt s (i + 3) % 64 ≥ 65536 ∧ bt s i % 8 * 262144 + bt s (i + 1) % 64 * 4096 + bt s (i + 2) % 64 * 64 + bt s (i + 3) % 64 ≤ 1114111
       then (bt s i % 8 * 262144 + bt s (i + 1) % 64 * 4096 + bt s (i + 2) % 64 * 64 + bt s (i + 3) % 64, 4) else (65533, 1))
    else (65533, 1) := by
  have h0 := bt_lt s i; have h1 := bt_lt s (i + 1); have h2 := bt_lt s (i + 2); have h3 := bt_lt s (i + 3)
  unfold Utf8.decode
  simp only [Nat.add_zero]
  show (if bt s i < 128 then _ else _) = _
  change (if bt s i < 128 then (bt s i, 1)
    else if (bt s i / 32 == 6 && (decide (i + 1 < s.size) && bt s (i + 1) / 64 == 2)) = true then
      (if bt s i % 32 * 64 + bt s (i + 1) % 64 ≥ 128 then (bt s i % 32 * 64 + bt s (i + 1) % 64, 2) else (65533, 1))
    else if (bt s i / 16 == 14 && (decide (i + 1 < s.size) && bt s (i + 1) / 64 == 2) && (decide (i + 2 < s.size) && bt s (i + 2) / 64 == 2)) = true then
      (if (decide (bt s i % 16 * 4096 + bt s (i + 1) % 64 * 64 + bt s (i + 2) % 64 ≥ 2048) && Utf8.valid ((bt s i % 16 * 4096 + bt s (i + 1) % 64 * 64 + bt s (i + 2) % 64 : Nat) : Int)) = true
       then (bt s i % 16 * 4096 + bt s (i + 1) % 64 * 64 + bt s (i + 2) % 64, 3) else (65533, 1))
    else if (bt s i / 8 == 30 && (decide (i + 1 < s.size) && bt s (i + 1) / 64 == 2) && (decide (i + 2 < s.size) && bt s (i + 2) / 64 == 2) && (decide (i + 3 < s.size) && bt s (i + 3) / 64 == 2)) = true then
      (if (decide (bt s i % 8 * 262144 + bt s (i + 1) % 64 * 4096 + bt s (i + 2) % 64 * 64 + bt s (i + 3) % 64 ≥ 65536) && Utf8.valid ((bt s i % 8 * 262144 + bt s (i + 1) % 64 * 4096 + bt s (i + 2) % 64 * 64 + bt s (i + 3) % 64 : Nat) : Int)) = true
       then (bt s i % 8 * 262144 + bt s (i + 1) % 64 * 4096 + bt s (i + 2) % 64 * 64 + bt s (i + 3) % 64, 4) else (65533, 1))
    else (65533, 1)) = _
  refine ifc Iff.rfl rfl ?_
  refine ifc (by simp [Bool.and_eq_true]) rfl ?_
  refine ifc (by simp [Bool.and_eq_true, and_assoc]) (ifc ?_ rfl rfl) ?_
  · simp only [Utf8.valid, Bool.and_eq_true, Bool.or_eq_true, decide_eq_true_eq]; omega
  refine ifc (by simp [Bool.and_eq_true, and_assoc]) (ifc ?_ rfl rfl) rfl
  simp only [Utf8.valid, Bool.and_eq_true, Bool.or_eq_true, decide_eq_true_eq]; omega
theorem dec_one {s : ByteArray} {i : Nat} (h : bt s i < 128) : Utf8.decode s i = (bt s i, 1) := by rw [dec_eq, if_pos h]
theorem dec_lead {s : ByteArray} {i : Nat} (h : 128 ≤ bt s i) (h' : bt s i < 194 ∨ 245 ≤ bt s i) : Utf8.decode s i = (65533, 1) := by
  have h0 := bt_lt s i; have h1 := bt_lt s (i + 1); have h2 := bt_lt s (i + 2); have h3 := bt_lt s (i + 3)
  rw [dec_eq, if_neg (by omega)]
  split
  · rw [if_neg (by omega)]
  · split
    · omega
    · split
      · rw [if_neg (by omega)]
      · rfl
theorem dec_two {s : ByteArray} {i : Nat} (h : 194 ≤ bt s i) (h' : bt s i < 224) (hs : i + 2 ≤ s.size) (c1 : CntN s (i + 1)) : Utf8.decode s i = ((bt s i - 192) * 64 + bt s (i + 1) - 128, 2) := by
  have h0 := bt_lt s i; have h1 := bt_lt s (i + 1)
  unfold CntN at c1
  have e : bt s i % 32 * 64 + bt s (i + 1) % 64 = (bt s i - 192) * 64 + bt s (i + 1) - 128 := by omega
  rw [dec_eq, if_neg (by omega), if_pos (by omega), if_pos (by omega), e]
theorem dec_two_no {s : ByteArray} {i : Nat} (h : 194 ≤ bt s i) (h' : bt s i < 224) (hs : ¬ (i + 2 ≤ s.size ∧ CntN s (i + 1))) : Utf8.decode s i = (65533, 1) := by
  have h0 := bt_lt s i; have h1 := bt_lt s (i + 1)
  unfold CntN at hs
  rw [dec_eq, if_neg (by omega), if_neg (by omega), if_neg (by omega), if_neg (by omega)]
theorem dec_three {s : ByteArray} {i : Nat} (h : 224 ≤ bt s i) (h' : bt s i < 240) (hs : i + 3 ≤ s.size) (c1 : CntN s (i + 1)) (c2 : CntN s (i + 2)) {r : Nat} (hr : ((bt s i - 224) * 64 + bt s (i + 1) - 128) * 64 + bt s (i + 2) - 128 = r) :
    Utf8.decode s i = if 2048 ≤ r ∧ (r < 55296 ∨ 57344 ≤ r) then (r, 3) else (65533, 1) := by
  have h0 := bt_lt s i; have h1 := bt_lt s (i + 1); have h2 := bt_lt s (i + 2)
  unfold CntN at c1 c2
  rw [dec_eq, if_neg (by omega), if_neg (by omega), if_pos (by omega)]
  have e : bt s i % 16 * 4096 + bt s (i + 1) % 64 * 64 + bt s (i + 2) % 64 = r := by omega
  rw [e]
theorem dec_three_no {s : ByteArray} {i : Nat} (h : 224 ≤ bt s i) (h' : bt s i < 240) (hs : ¬ (i + 3 ≤ s.size ∧ CntN s (i + 1) ∧ CntN s (i + 2))) : Utf8.decode s i = (65533, 1) := by
  have h0 := bt_lt s i; have h1 := bt_lt s (i + 1); have h2 := bt_lt s (i + 2)
  unfold CntN at hs
  rw [dec_eq, if_neg (by omega), if_neg (by omega), if_neg (by omega), if_neg (by omega)]
theorem dec_four {s : ByteArray} {i : Nat} (h : 240 ≤ bt s i) (h' : bt s i < 245) (hs : i + 4 ≤ s.size) (c1 : CntN s (i + 1)) (c2 : CntN s (i + 2)) (c3 : CntN s (i + 3)) {r : Nat}
    (hr : (((bt s i - 240) * 64 + bt s (i + 1) - 128) * 64 + bt s (i + 2) - 128) * 64 + bt s (i + 3) - 128 = r) :
    Utf8.decode s i = if 65536 ≤ r ∧ r ≤ 1114111 then (r, 4) else (65533, 1) := by
  have h0 := bt_lt s i; have h1 := bt_lt s (i + 1); have h2 := bt_lt s (i + 2); have h3 := bt_lt s (i + 3)
  unfold CntN at c1 c2 c3
  rw [dec_eq, if_neg (by omega), if_neg (by omega), if_neg (by omega), if_pos (by omega)]
  have e : bt s i % 8 * 262144 + bt s (i + 1) % 64 * 4096 + bt s (i + 2) % 64 * 64 + bt s (i + 3) % 64 = r := by omega
  rw [e]
theorem dec_four_no {s : ByteArray} {i : Nat} (h : 240 ≤ bt s i) (h' : bt s i < 245) (hs : ¬ (i + 4 ≤ s.size ∧ CntN s (i + 1) ∧ CntN s (i + 2) ∧ CntN s (i + 3))) : Utf8.decode s i = (65533, 1) := by
  have h0 := bt_lt s i; have h1 := bt_lt s (i + 1); have h2 := bt_lt s (i + 2); have h3 := bt_lt s (i + 3)
  unfold CntN at hs
  rw [dec_eq, if_neg (by omega), if_neg (by omega), if_neg (by omega), if_neg (by omega)]
theorem dec_width (s : ByteArray) (i : Nat) : 1 ≤ (Utf8.decode s i).2 ∧ (Utf8.decode s i).2 ≤ 4 := by
  have ip : ∀ {p : Prop} [Decidable p] {a b : Nat × Nat}, (1 ≤ a.2 ∧ a.2 ≤ 4) → (1 ≤ b.2 ∧ b.2 ≤ 4) → 1 ≤ (if p then a else b).2 ∧ (if p then a else b).2 ≤ 4 := by
    intro p _ a b ha hb; split <;> assumption
  rw [dec_eq]
  have k (x : Nat) (n : Nat) (h : 1 ≤ n ∧ n ≤ 4) : 1 ≤ (x, n).2 ∧ (x, n).2 ≤ 4 := h
  exact ip (k _ _ (by decide)) (ip (ip (k _ _ (by decide)) (k _ _ (by decide))) (ip (ip (k _ _ (by decide)) (k _ _ (by decide))) (ip (ip (k _ _ (by decide)) (k _ _ (by decide))) (k _ _ (by decide)))))
theorem get_of {s : ByteArray} {i n : Nat} (h : bt s i = n) : s.get! i = UInt8.ofNat n := by
  apply UInt8.toNat_inj.1
  rw [u8_nat (by rw [← h]; exact bt_lt s i)]; exact h
theorem drop_at (s : ByteArray) (i : Nat) (h : i < s.size) : s.data.toList.drop i = s.get! i :: s.data.toList.drop (i + 1) := by
  have h' : i < s.data.toList.length := by rw [← Lib.size_eq]; exact h
  rw [List.drop_eq_getElem_cons h']
  congr 1
  have e : s.get! i = s[i]'h := by simp [ByteArray.get!, getElem!_pos, h]; rfl
  rw [e]; rfl
/-- What is decoded is a rune, and its bytes stand there. -/
theorem dec_good {s : ByteArray} {i : Nat} (hi : i < s.size) (h : Good (Utf8.decode s i)) :
    Scal (Utf8.decode s i).1 ∧ i + (Utf8.decode s i).2 ≤ s.size ∧ s.data.toList.drop i = enc (Utf8.decode s i).1 ++ s.data.toList.drop (i + (Utf8.decode s i).2) := by
  have b0 := bt_lt s i; have b1 := bt_lt s (i + 1); have b2 := bt_lt s (i + 2); have b3 := bt_lt s (i + 3)
  by_cases c1 : bt s i < 128
  · rw [dec_one c1]
    refine ⟨Or.inl (by show bt s i < _; omega), by show i + 1 ≤ _; omega, ?_⟩
    rw [drop_at s i hi, enc_one c1, get_of rfl]; rfl
  by_cases c2 : bt s i < 194 ∨ 245 ≤ bt s i
  · exact absurd (dec_lead (by omega) c2) h
  by_cases c3 : bt s i < 224
  · by_cases d : i + 2 ≤ s.size ∧ CntN s (i + 1)
    · have e := dec_two (by omega) c3 d.1 d.2
      obtain ⟨d1, d2⟩ := d
      unfold CntN at d2
      rw [e]
      refine ⟨Or.inl (by show (bt s i - 192) * 64 + bt s (i + 1) - 128 < _; omega), by show i + 2 ≤ _; omega, ?_⟩
      rw [drop_at s i hi, drop_at s (i + 1) (by omega), enc_two (by show 128 ≤ (bt s i - 192) * 64 + bt s (i + 1) - 128; omega) (by show (bt s i - 192) * 64 + bt s (i + 1) - 128 < _; omega)]
      rw [get_of (i := i) (n := 192 + ((bt s i - 192) * 64 + bt s (i + 1) - 128) / 64) (by omega), get_of (i := i + 1) (n := 128 + ((bt s i - 192) * 64 + bt s (i + 1) - 128) % 64) (by omega)]
      rfl
    · exact absurd (dec_two_no (by omega) c3 d) h
  by_cases c4 : bt s i < 240
  · by_cases d : i + 3 ≤ s.size ∧ CntN s (i + 1) ∧ CntN s (i + 2)
    · have e := dec_three (by omega) c4 d.1 d.2.1 d.2.2 rfl
      obtain ⟨d1, d2, d3⟩ := d
      unfold CntN at d2 d3
      generalize hr : ((bt s i - 224) * 64 + bt s (i + 1) - 128) * 64 + bt s (i + 2) - 128 = r at e
      by_cases c : 2048 ≤ r ∧ (r < 55296 ∨ 57344 ≤ r)
      · rw [if_pos c] at e
        rw [e]
        have hS : Scal r := by unfold Scal; omega
        refine ⟨hS, by show i + 3 ≤ _; omega, ?_⟩
        rw [drop_at s i hi, drop_at s (i + 1) (by omega), drop_at s (i + 2) (by omega), enc_three hS c.1 (by omega)]
        rw [get_of (i := i) (n := 224 + r / 4096) (by omega), get_of (i := i + 1) (n := 128 + r / 64 % 64) (by omega), get_of (i := i + 2) (n := 128 + r % 64) (by omega)]
        rfl
      · rw [if_neg c] at e; exact absurd e h
    · exact absurd (dec_three_no (by omega) c4 d) h
  · by_cases d : i + 4 ≤ s.size ∧ CntN s (i + 1) ∧ CntN s (i + 2) ∧ CntN s (i + 3)
    · have e := dec_four (by omega) (by omega) d.1 d.2.1 d.2.2.1 d.2.2.2 rfl
      obtain ⟨d1, d2, d3, d4⟩ := d
      unfold CntN at d2 d3 d4
      generalize hr : (((bt s i - 240) * 64 + bt s (i + 1) - 128) * 64 + bt s (i + 2) - 128) * 64 + bt s (i + 3) - 128 = r at e
      by_cases c : 65536 ≤ r ∧ r ≤ 1114111
      · rw [if_pos c] at e
        rw [e]
        have hS : Scal r := by unfold Scal; omega
        refine ⟨hS, by show i + 4 ≤ _; omega, ?_⟩
        rw [drop_at s i hi, drop_at s (i + 1) (by omega), drop_at s (i + 2) (by omega), drop_at s (i + 3) (by omega), enc_four c.1 c.2]
        rw [get_of (i := i) (n := 240 + r / 262144) (by omega), get_of (i := i + 1) (n := 128 + r / 4096 % 64) (by omega), get_of (i := i + 2) (n := 128 + r / 64 % 64) (by omega), get_of (i := i + 3) (n := 128 + r % 64) (by omega)]
        rfl
      · rw [if_neg c] at e; exact absurd e h
    · exact absurd (dec_four_no (by omega) (by omega) d) h

/-- The runes of s from place i on, at most f of them; none if the bytes are no UTF-8. -/
def rsF (s : ByteArray) : Nat → Nat → Option (List Nat)
  | 0, _ => some []
  | f + 1, i => if i < s.size then (if Good (Utf8.decode s i) then (rsF s f (i + (Utf8.decode s i).2)).map ((Utf8.decode s i).1 :: ·) else none) else some []
def rs (s : ByteArray) : Option (List Nat) := rsF s s.size 0
theorem rsF_end {s : ByteArray} {f i : Nat} (h : ¬ i < s.size) : rsF s f i = some [] := by
  cases f with
  | zero => rfl
  | succ f => rw [rsF, if_neg h]
theorem rsF_ok {s : ByteArray} {f i : Nat} (h : i < s.size) (hg : Good (Utf8.decode s i)) : rsF s (f + 1) i = (rsF s f (i + (Utf8.decode s i).2)).map ((Utf8.decode s i).1 :: ·) := by rw [rsF, if_pos h, if_pos hg]
theorem rsF_bad {s : ByteArray} {f i : Nat} (h : i < s.size) (hg : ¬ Good (Utf8.decode s i)) : rsF s (f + 1) i = none := by rw [rsF, if_pos h, if_neg hg]
/-- The runes are runes, and their bytes are the string. -/
theorem rsF_bytes {s : ByteArray} : ∀ (f i : Nat) (l : List Nat), s.size ≤ i + f → rsF s f i = some l → (∀ r ∈ l, Scal r) ∧ s.data.toList.drop i = encs l ∧ l.length + i ≤ s.size + (i - s.size)
  | 0, i, l, hf, h => by
    cases h
    refine ⟨by simp, ?_, by simp; omega⟩
    rw [List.drop_of_length_le (by rw [← Lib.size_eq]; omega)]; rfl
  | f + 1, i, l, hf, h => by
    by_cases hi : i < s.size
    · by_cases hg : Good (Utf8.decode s i)
      · rw [rsF_ok hi hg] at h
        obtain ⟨l', h1, rfl⟩ := Option.map_eq_some_iff.1 h
        have hw := dec_width s i
        obtain ⟨g1, g2, g3⟩ := dec_good hi hg
        obtain ⟨k1, k2, k3⟩ := rsF_bytes f _ l' (by omega) h1
        refine ⟨by intro r hr; simp only [List.mem_cons] at hr; (rcases hr with rfl | hr <;> first | exact g1 | exact k1 r hr), ?_, ?_⟩
        · rw [g3, k2, encs_cons]
        · simp only [List.length_cons]; omega
      · rw [rsF_bad hi hg] at h; cases h
    · rw [rsF_end hi] at h
      cases h
      refine ⟨by simp, ?_, by simp; omega⟩
      rw [List.drop_of_length_le (by rw [← Lib.size_eq]; omega)]; rfl
theorem rs_bytes {s : ByteArray} {l : List Nat} (h : rs s = some l) : (∀ r ∈ l, Scal r) ∧ s.data.toList = encs l ∧ l.length ≤ s.size := by
  obtain ⟨h1, h2, h3⟩ := rsF_bytes _ _ _ (by omega) h
  exact ⟨h1, by simpa using h2, by omega⟩
end Go.Proofs.Ytgojbomdkdlclaa

