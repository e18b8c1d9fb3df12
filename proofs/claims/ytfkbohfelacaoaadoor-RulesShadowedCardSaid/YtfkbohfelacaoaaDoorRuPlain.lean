/-
  Layer 9, plain: decimal numbers, words, rules and their texts; what rules match and cover; lists of rules. No program is named.
-/
import Derived.Test.YtfkbohfelacaoaaDoorPcPlain
import Derived.Test.YtfkbohfelacaoaaDoorLbProg2
namespace Go.Proofs.YtfkbohfelacaoaaDoor
set_option linter.unusedVariables false

/-- A number that is not negative in decimal, by at most k steps. -/
def decF : Nat → Nat → List UInt8
  | 0, n => [UInt8.ofNat (48 + n)]
  | k + 1, n => if n < 10 then [UInt8.ofNat (48 + n)] else decF k (n / 10) ++ [UInt8.ofNat (48 + n % 10)]
theorem decF_eq : ∀ (k m n : Nat), n ≤ k → n ≤ m → decF k n = decF m n
  | 0, 0, n, _, _ => rfl
  | 0, m + 1, n, h, _ => by
    obtain rfl : n = 0 := by omega
    rfl
  | k + 1, 0, n, _, h => by
    obtain rfl : n = 0 := by omega
    rfl
  | k + 1, m + 1, n, h1, h2 => by
    rw [decF, decF]
    by_cases h : n < 10
    · rw [if_pos h, if_pos h]
    · rw [if_neg h, if_neg h, decF_eq k m (n / 10) (by omega) (by omega)]
/-- A number that is not negative in decimal. -/
def decL (n : Nat) : List UInt8 := decF n n
theorem decL_low {n : Nat} (h : n < 10) : decL n = [UInt8.ofNat (48 + n)] := by
  unfold decL
  cases n with
  | zero => rfl
  | succ n => rw [decF, if_pos h]
theorem decL_high {n : Nat} (h : ¬ n < 10) : decL n = decL (n / 10) ++ [UInt8.ofNat (48 + n % 10)] := by
  unfold decL
  cases n with
  | zero => exact absurd (by decide) h
  | succ n => rw [decF, if_neg h, decF_eq n ((n + 1) / 10) ((n + 1) / 10) (by omega) (Nat.le_refl _)]
/-- The digits of a word, read from left to right. -/
def digF : List UInt8 → Nat → Option Nat
  | [], n => some n
  | b :: l, n => if 48 ≤ b.toNat ∧ b.toNat ≤ 57 then digF l (10 * n + (b.toNat - 48)) else none
theorem digF_snoc : ∀ (l : List UInt8) (n : Nat) (b : UInt8), digF (l ++ [b]) n = (digF l n).bind fun m => if 48 ≤ b.toNat ∧ b.toNat ≤ 57 then some (10 * m + (b.toNat - 48)) else none
  | [], n, b => rfl
  | a :: l, n, b => by
    rw [List.cons_append, digF, digF]
    by_cases h : 48 ≤ a.toNat ∧ a.toNat ≤ 57
    · rw [if_pos h, if_pos h]; exact digF_snoc l _ b
    · rw [if_neg h, if_neg h]; rfl
/-- The number that a word of at most most digits denotes. -/
def digN (most : Nat) (l : List UInt8) : Option Nat := if (l.length < 1 ∨ most < l.length) ∨ (1 < l.length ∧ nb l 0 = 48) then none else digF l 0
theorem dig_byte {d : Nat} (h : d < 10) : (UInt8.ofNat (48 + d)).toNat = 48 + d := u8_nat (by omega)
theorem digF_dec (n : Nat) : digF (decL n) 0 = some n := by
  induction n using Nat.strongRecOn with
  | ind n ih =>
    by_cases h : n < 10
    · rw [decL_low h, digF, dig_byte h, if_pos (by omega), digF]; congr 1; omega
    · rw [decL_high h, digF_snoc, ih (n / 10) (by omega)]
      have hd : n % 10 < 10 := Nat.mod_lt _ (by decide)
      show (if _ then some _ else none) = _
      rw [dig_byte hd, if_pos (by omega)]; congr 1; omega
theorem decL_ne (n : Nat) : decL n ≠ [] := by
  by_cases h : n < 10
  · rw [decL_low h]; simp
  · rw [decL_high h]; simp
theorem decL_len (n : Nat) : ∀ k, 1 ≤ k → n < 10 ^ k → (decL n).length ≤ k := by
  induction n using Nat.strongRecOn with
  | ind n ih =>
    intro k hk hn
    by_cases h : n < 10
    · rw [decL_low h]; exact hk
    · rw [decL_high h, List.length_append]
      obtain ⟨k, rfl⟩ : ∃ j, k = j + 1 := ⟨k - 1, by omega⟩
      have hk1 : 1 ≤ k := by
        rcases Nat.eq_zero_or_pos k with e | e
        · subst e; simp at hn; omega
        · exact e
      have := ih (n / 10) (by omega) k hk1 (by rw [Nat.pow_succ] at hn; omega)
      show _ + 1 ≤ k + 1
      omega
theorem decL_head (n : Nat) (h : 0 < n) : nb (decL n) 0 ≠ 48 := by
  induction n using Nat.strongRecOn with
  | ind n ih =>
    by_cases h1 : n < 10
    · rw [decL_low h1]
      show (UInt8.ofNat (48 + n)).toNat ≠ 48
      rw [dig_byte h1]; omega
    · rw [decL_high h1]
      have hne := decL_ne (n / 10)
      have hl : 0 < (decL (n / 10)).length := List.length_pos_iff.2 hne
      rw [nb_pre hl]
      exact ih (n / 10) (by omega) (by omega)
/-- A number is read back from its decimal form. -/
theorem digN_dec {n : Nat} (h : n < 100000) : digN 5 (decL n) = some n := by
  have hl := decL_len n 5 (by decide) (by simpa using h)
  have hp : 0 < (decL n).length := List.length_pos_iff.2 (decL_ne n)
  unfold digN
  rw [if_neg, digF_dec]
  rintro ((h1 | h1) | ⟨h1, h2⟩)
  · omega
  · omega
  · rcases Nat.eq_zero_or_pos n with e | e
    · subst e; rw [decL_low (by decide)] at h1; simp at h1
    · exact decL_head n e h2
theorem decL_bytes (n : Nat) : ∀ b ∈ decL n, 48 ≤ b.toNat ∧ b.toNat ≤ 57 := by
  induction n using Nat.strongRecOn with
  | ind n ih =>
    by_cases h : n < 10
    · rw [decL_low h]; intro b hb; simp only [List.mem_singleton] at hb; subst hb; rw [dig_byte h]; omega
    · rw [decL_high h]
      have hd : n % 10 < 10 := Nat.mod_lt _ (by decide)
      intro b hb
      rcases List.mem_append.1 hb with hb | hb
      · exact ih (n / 10) (by omega) b hb
      · simp only [List.mem_singleton] at hb; subst hb; rw [dig_byte hd]; omega
/-- The words between bytes c. -/
def wsp (c : UInt8) : List UInt8 → List (List UInt8)
  | [] => [[]]
  | b :: l => if b = c then [] :: wsp c l else match wsp c l with
    | [] => [[b]]
    | w :: ws => (b :: w) :: ws
theorem wsp_ne (c : UInt8) : ∀ l, wsp c l ≠ []
  | [] => by simp [wsp]
  | b :: l => by
    unfold wsp
    split
    · simp
    · split <;> simp
theorem wsp_word {c : UInt8} : ∀ {l : List UInt8}, c ∉ l → wsp c l = [l]
  | [], _ => rfl
  | b :: l, h => by
    have h1 : ¬ b = c := fun e => h (by simp [e])
    rw [wsp, if_neg h1, wsp_word (l := l) fun k => h (by simp [k])]
theorem wsp_cons {c : UInt8} : ∀ {l m : List UInt8}, c ∉ l → wsp c (l ++ c :: m) = l :: wsp c m
  | [], m, _ => by rw [List.nil_append, wsp, if_pos rfl]
  | b :: l, m, h => by
    have h1 : ¬ b = c := fun e => h (by simp [e])
    rw [List.cons_append, wsp, if_neg h1, wsp_cons (l := l) fun k => h (by simp [k])]
/-- Another byte behind: a new word, or the last word grows. -/
theorem wsp_snoc_new (c : UInt8) : ∀ l, wsp c (l ++ [c]) = wsp c l ++ [[]]
  | [] => by simp [wsp]
  | b :: l => by
    rw [List.cons_append, wsp, wsp, wsp_snoc_new c l]
    split
    · rfl
    · have := wsp_ne c l
      cases h : wsp c l with
      | nil => exact absurd h this
      | cons w ws => rfl
theorem wsp_snoc_grow {c b : UInt8} (hb : b ≠ c) : ∀ l, ∃ ws w, wsp c l = ws ++ [w] ∧ wsp c (l ++ [b]) = ws ++ [w ++ [b]]
  | [] => ⟨[], [], rfl, by simp [wsp, hb]⟩
  | a :: l => by
    obtain ⟨ws, w, h1, h2⟩ := wsp_snoc_grow hb l
    rw [List.cons_append, wsp, wsp, h1, h2]
    split
    · exact ⟨[] :: ws, w, rfl, rfl⟩
    · cases ws with
      | nil => exact ⟨[], a :: w, rfl, rfl⟩
      | cons v ws => exact ⟨(a :: v) :: ws, w, rfl, rfl⟩
/-- The first byte c: what is ahead of it and behind it. -/
def cutB (c : UInt8) : List UInt8 → Option (List UInt8 × List UInt8)
  | [] => none
  | b :: l => if b = c then some ([], l) else (cutB c l).map fun p => (b :: p.1, p.2)
theorem cutB_none {c : UInt8} : ∀ {l : List UInt8}, c ∉ l → cutB c l = none
  | [], _ => rfl
  | b :: l, h => by
    have h1 : ¬ b = c := fun e => h (by simp [e])
    rw [cutB, if_neg h1, cutB_none (l := l) fun k => h (by simp [k])]; rfl
theorem cutB_at {c : UInt8} : ∀ {l m : List UInt8}, c ∉ l → cutB c (l ++ c :: m) = some (l, m)
  | [], m, _ => by rw [List.nil_append, cutB, if_pos rfl]
  | b :: l, m, h => by
    have h1 : ¬ b = c := fun e => h (by simp [e])
    rw [List.cons_append, cutB, if_neg h1, cutB_at (l := l) fun k => h (by simp [k])]; rfl
/-- The first byte c found by going through the places. -/
theorem cutB_first {c : UInt8} : ∀ (l : List UInt8) (i : Nat) (h : i < l.length), (∀ j (hj : j < i), l[j]'(by omega) ≠ c) → l[i] = c → cutB c l = some (l.take i, l.drop (i + 1))
  | b :: l, 0, _, _, e => by
    have e' : b = c := e
    rw [cutB, if_pos e']; rfl
  | b :: l, i + 1, h, hn, e => by
    have h1 : ¬ b = c := hn 0 (by omega)
    rw [cutB, if_neg h1, cutB_first l i (by simpa using h) (fun j hj => by have := hn (j + 1) (by omega); simpa using this) (by simpa using e)]
    rfl
theorem cutB_absent {c : UInt8} {l : List UInt8} (h : ∀ j (hj : j < l.length), l[j] ≠ c) : cutB c l = none :=
  cutB_none fun k => by
    obtain ⟨j, hj, e⟩ := List.getElem_of_mem k
    exact h j hj e
/-- One digit more; a byte that is no digit. -/
theorem digF_step {l : List UInt8} {k n : Nat} (hk : k < l.length) (h : digF (l.take k) 0 = some n) (hd : 48 ≤ l[k].toNat ∧ l[k].toNat ≤ 57) : digF (l.take (k + 1)) 0 = some (10 * n + (l[k].toNat - 48)) := by
  rw [List.take_succ_eq_append_getElem hk, digF_snoc, h]
  show (if _ then some _ else none) = _
  rw [if_pos hd]
theorem digF_app : ∀ (l m : List UInt8) (n : Nat), digF (l ++ m) n = (digF l n).bind fun k => digF m k
  | [], m, n => rfl
  | b :: l, m, n => by
    rw [List.cons_append, digF, digF]
    split
    · exact digF_app l m _
    · rfl
theorem digF_bad {l : List UInt8} {k : Nat} (hk : k < l.length) (hd : ¬ (48 ≤ l[k].toNat ∧ l[k].toNat ≤ 57)) : digF l 0 = none := by
  have e : l = l.take k ++ (l[k] :: l.drop (k + 1)) := by rw [List.getElem_cons_drop, List.take_append_drop]
  rw [e, digF_app]
  cases digF (l.take k) 0 with
  | none => rfl
  | some n => show digF (_ :: _) n = none; rw [digF, if_neg hd]
theorem digF_lt : ∀ (l : List UInt8) (n m k : Nat), digF l n = some m → n < k → m < k * 10 ^ l.length
  | [], n, m, k, h, hk => by cases h; simpa using hk
  | b :: l, n, m, k, h, hk => by
    rw [digF] at h
    split at h
    · rename_i hd
      have := digF_lt l _ m (k * 10) h (by omega)
      rw [List.length_cons, Nat.pow_succ, Nat.mul_comm (10 ^ l.length) 10, ← Nat.mul_assoc]
      exact this
    · cases h
/-- The range that a word denotes. -/
def porL (l : List UInt8) : Option (Nat × Nat) :=
  if l = [42] then some (0, 65535)
  else match cutB 45 l with
    | some (x, y) => (digN 5 x).bind fun a => (digN 5 y).map fun b => (a, b)
    | none => (digN 5 l).map fun a => (a, a)
/-- A rule. -/
structure Rul where
  st : ByteArray
  c : Int
  f : Int
  l : Int
  w : Int
/-- A header. -/
structure Hdr where
  st : ByteArray
  c : Int
  p : Int
  l : Int
  f : Int
def ruNum (r : Rul) : Bool := decide ((-1 ≤ r.c ∧ r.c ≤ 7) ∧ (0 ≤ r.f ∧ r.f ≤ r.l ∧ r.l ≤ 65535) ∧ (0 ≤ r.w ∧ r.w < 32))
/-- A rule is valid. -/
def ruOk (r : Rul) : Bool := (decide (r.st.size = 0) || (nam r.st).isSome) && ruNum r
theorem ruOk_parts {r : Rul} (h : ruOk r = true) : (r.st.size = 0 ∨ (nam r.st).isSome = true) ∧ (-1 ≤ r.c ∧ r.c ≤ 7) ∧ (0 ≤ r.f ∧ r.f ≤ r.l ∧ r.l ≤ 65535) ∧ (0 ≤ r.w ∧ r.w < 32) := by
  unfold ruOk ruNum at h
  rw [Bool.and_eq_true, Bool.or_eq_true, decide_eq_true_eq, decide_eq_true_eq] at h
  exact h
/-- What a text describes; nothing if it is none. -/
def clsL (l : List UInt8) : Option Int := if l = [42] then some (-1) else (digN 5 l).map fun n => (n : Int)
def stL (l : List UInt8) : ByteArray := if l = [42] then ⟨#[]⟩ else ⟨l.toArray⟩
def synL (s : List UInt8) : Option Rul :=
  match wsp 32 s with
  | [w0, w1, w2, w3] => if w0 = [] ∨ ¬ nb w3 0 = 62 then none
    else (clsL w1).bind fun c => (porL w2).bind fun p => (digN 5 (w3.drop 1)).map fun (n : Nat) => (⟨stL w0, c, p.1, p.2, (n : Int)⟩ : Rul)
  | _ => none
/-- The error of a text. -/
def ruE (s : List UInt8) : Int := match synL s with
  | none => 8
  | some r => if ruOk r then 0 else 1
/-- The text of a rule. -/
def pairL (f l : Nat) : List UInt8 := if f = 0 ∧ l = 65535 then [42] else if f = l then decL f else decL f ++ 45 :: decL l
def txtL (r : Rul) : List UInt8 :=
  (if r.st.size = 0 then [42] else r.st.data.toList) ++ 32 :: ((if r.c < 0 then [42] else decL r.c.toNat) ++ 32 :: (pairL r.f.toNat r.l.toNat ++ 32 :: 62 :: decL r.w.toNat))
theorem not_dec {n : Nat} {b : UInt8} (h : ¬ (48 ≤ b.toNat ∧ b.toNat ≤ 57)) : b ∉ decL n := fun k => h (decL_bytes n b k)
theorem porL_pair {f l : Nat} (hf : f ≤ 65535) (hl : l ≤ 65535) : porL (pairL f l) = some (f, l) := by
  unfold pairL porL
  by_cases h : f = 0 ∧ l = 65535
  · rw [if_pos h, if_pos rfl, h.1, h.2]
  · rw [if_neg h]
    have d45 : ∀ n, (45 : UInt8) ∉ decL n := fun n => not_dec (by decide)
    have d42 : ∀ n m, ¬ decL n ++ m = [42] := fun n m e => by
      have h1 : (42 : UInt8) ∈ decL n ++ m := by rw [e]; simp
      cases hd : decL n with
      | nil => exact decL_ne n hd
      | cons a t =>
        rw [hd] at e
        have ha : a = 42 := by simpa using (List.cons.inj e).1
        have := decL_bytes n a (by rw [hd]; simp)
        rw [ha] at this
        exact absurd this (by decide)
    by_cases e : f = l
    · subst e
      rw [if_pos rfl, if_neg (by have := d42 f []; rwa [List.append_nil] at this), cutB_none (d45 f)]
      show (digN 5 (decL f)).map _ = _
      rw [digN_dec (by omega)]; rfl
    · rw [if_neg e, if_neg (d42 f _), cutB_at (d45 f)]
      show (digN 5 (decL f)).bind _ = _
      rw [digN_dec (by omega)]
      show (digN 5 (decL l)).map _ = _
      rw [digN_dec (by omega)]; rfl
theorem clsL_dec {c : Int} (h0 : -1 ≤ c) (h1 : c ≤ 7) : clsL (if c < 0 then [42] else decL c.toNat) = some c := by
  unfold clsL
  by_cases h : c < 0
  · rw [if_pos h, if_pos rfl]; congr 1; omega
  · rw [if_neg h, if_neg, digN_dec (by omega)]
    · show some ((c.toNat : Nat) : Int) = some c; congr 1; omega
    · intro e
      have h1 : (42 : UInt8) ∈ decL c.toNat := by rw [e]; simp
      exact not_dec (b := 42) (by decide) h1
theorem enc_high {r : Nat} (h : Scal r) (hr : 128 ≤ r) : ∀ x ∈ enc r, 128 ≤ x.toNat := by
  intro x hx
  rcases h.cases with k | ⟨k1, k2⟩ | ⟨k1, k2⟩ | ⟨k1, k2⟩
  · omega
  · rw [enc_two k1 k2] at hx
    simp only [List.mem_cons, List.not_mem_nil, or_false] at hx
    rcases hx with rfl | rfl <;> (rw [u8_nat (by omega)]; omega)
  · rw [enc_three h k1 k2] at hx
    simp only [List.mem_cons, List.not_mem_nil, or_false] at hx
    rcases hx with rfl | rfl | rfl <;> (rw [u8_nat (by omega)]; omega)
  · rw [enc_four k1 k2] at hx
    simp only [List.mem_cons, List.not_mem_nil, or_false] at hx
    rcases hx with rfl | rfl | rfl | rfl <;> (rw [u8_nat (by omega)]; omega)
theorem space_not {st : ByteArray} (h : (nam st).isSome = true) : (32 : UInt8) ∉ st.data.toList ∧ st.data.toList ≠ [] ∧ st.data.toList ≠ [42] := by
  cases hn : nam st with
  | none => rw [hn] at h; cases h
  | some m =>
    obtain ⟨l, _, hp, hl⟩ := nam_some hn
    obtain ⟨hs, _, _, hsc, hb, _, _⟩ := pat_some hp
    have hz := Lib.size_eq st
    have key : ∀ (l : List Nat), (∀ r ∈ l, Scal r) → (∀ r ∈ l, letN r = true) → ∀ x ∈ encs l, x.toNat ≠ 32 ∧ x.toNat ≠ 42 := by
      intro l
      induction l with
      | nil => intro _ _ x hx; cases hx
      | cons a l ih =>
        intro h1 h2 x hx
        rw [encs_cons] at hx
        rcases List.mem_append.1 hx with hx | hx
        · obtain ⟨b, t, e, hcl, ht, h42⟩ := enc_shape (h1 a (by simp))
          have ha := (letN_iff a).1 (h2 a (by simp))
          rw [e] at hx
          have hbyte : x = b ∨ x ∈ t := by simpa using hx
          have hE : x ∈ enc a := by rw [e]; simpa using hbyte
          rcases Nat.lt_or_ge a 128 with k | k
          · rw [enc_one k] at hE
            have e2 : x = UInt8.ofNat a := by simpa using hE
            have e3 : x.toNat = a := by rw [e2]; exact u8_nat (by omega)
            omega
          · have := enc_high (h1 a (by simp)) k x hE
            omega
        · exact ih (fun r hr => h1 r (by simp [hr])) (fun r hr => h2 r (by simp [hr])) x hx
    refine ⟨fun k => ?_, fun k => ?_, fun k => ?_⟩
    · rw [hb] at k; exact (key l hsc hl 32 k).1 rfl
    · have : st.size = 0 := by rw [hz, k]; rfl
      omega
    · have : (42 : UInt8) ∈ encs l := by rw [← hb, k]; simp
      exact (key l hsc hl 42 this).2 rfl
theorem empty_of {st : ByteArray} (h : st.size = 0) : st = ⟨#[]⟩ := by
  apply ByteArray.ext; exact Array.eq_empty_of_size_eq_zero h
/-- **A rule is read back from its text.** -/
theorem syn_txt {r : Rul} (h : ruOk r = true) : synL (txtL r) = some r := by
  obtain ⟨hst, ⟨c0, c1⟩, ⟨f0, f1, f2⟩, ⟨w0, w1⟩⟩ := ruOk_parts h
  obtain ⟨st, c, f, l, w⟩ := r
  simp only at hst c0 c1 f0 f1 f2 w0 w1
  have d32 : ∀ n, (32 : UInt8) ∉ decL n := fun n => not_dec (by decide)
  have p32 : (32 : UInt8) ∉ pairL f.toNat l.toNat := by
    unfold pairL
    split
    · decide
    · split
      · exact d32 _
      · intro k
        rcases List.mem_append.1 k with k | k
        · exact d32 _ k
        · rcases List.mem_cons.1 k with k | k
          · exact absurd k (by decide)
          · exact d32 _ k
  have c32 : (32 : UInt8) ∉ (if c < 0 then [42] else decL c.toNat) := by
    split
    · decide
    · exact d32 _
  have s32 : (32 : UInt8) ∉ (if st.size = 0 then [42] else st.data.toList) ∧ ¬ (if st.size = 0 then [42] else st.data.toList) = [] ∧ stL (if st.size = 0 then [42] else st.data.toList) = st := by
    by_cases e : st.size = 0
    · rw [if_pos e]
      refine ⟨by decide, by decide, ?_⟩
      unfold stL; rw [if_pos rfl]; exact (empty_of e).symm
    · rw [if_neg e]
      obtain ⟨k1, k2, k3⟩ := space_not (hst.resolve_left e)
      refine ⟨k1, k2, ?_⟩
      unfold stL; rw [if_neg k3]
  have g32 : (32 : UInt8) ∉ 62 :: decL w.toNat := by
    intro k
    rcases List.mem_cons.1 k with k | k
    · exact absurd k (by decide)
    · exact d32 _ k
  unfold synL txtL
  simp only
  rw [wsp_cons s32.1, wsp_cons c32, wsp_cons p32, wsp_word g32]
  simp only
  rw [if_neg (fun k => k.elim s32.2.1 (fun k => k rfl)), clsL_dec c0 c1, porL_pair (by omega) (by omega), show (62 :: decL w.toNat).drop 1 = decL w.toNat from rfl, digN_dec (by omega), s32.2.2]
  show some (Rul.mk st c (f.toNat : Nat) (l.toNat : Nat) (w.toNat : Nat)) = _
  rw [Int.toNat_of_nonneg f0, Int.toNat_of_nonneg (show 0 ≤ l by omega), Int.toNat_of_nonneg w0]
theorem ruE_txt {r : Rul} (h : ruOk r = true) : ruE (txtL r) = 0 := by
  unfold ruE; rw [syn_txt h]; exact if_pos h
/-- A header is valid. -/
def hdB (h : Hdr) : Bool := hdOk h.st h.c h.p h.l h.f
def cmpN (a b : ByteArray) : Int := cmpO (nam a) (nam b)
/-- A rule matches a header; a rule covers another. -/
def mtR (r : Rul) (h : Hdr) : Bool := ruOk r && hdB h && (decide (r.st.size = 0) || decide (cmpN r.st h.st = 0)) && (decide (r.c < 0) || decide (r.c = h.c)) && decide (r.f ≤ h.p ∧ h.p ≤ r.l)
def cov (a b : Rul) : Bool := ruOk a && ruOk b && (decide (a.st.size = 0) || (decide (¬ b.st.size = 0) && decide (cmpN a.st b.st = 0))) && (decide (a.c < 0) || decide (a.c = b.c)) && decide (a.f ≤ b.f ∧ b.l ≤ a.l)
theorem cmpR_zero : ∀ {x y : List Nat}, cmpR x y = 0 ↔ x = y
  | [], [] => by simp [cmpR]
  | [], b :: y => by simp [cmpR]
  | a :: x, [] => by simp [cmpR]
  | a :: x, b :: y => by
    rw [cmpR]
    by_cases h1 : a < b
    · rw [if_pos h1]; simp; omega
    · rw [if_neg h1]
      by_cases h2 : b < a
      · rw [if_pos h2]; simp; omega
      · rw [if_neg h2, cmpR_zero]
        obtain rfl : a = b := by omega
        simp
theorem cmpN_zero {a b : ByteArray} (ha : (nam a).isSome = true) (hb : (nam b).isSome = true) : cmpN a b = 0 ↔ nam a = nam b := by
  unfold cmpN
  cases h1 : nam a with
  | none => rw [h1] at ha; cases ha
  | some x =>
    cases h2 : nam b with
    | none => rw [h2] at hb; cases hb
    | some y =>
      show cmpR x y = 0 ↔ _
      rw [cmpR_zero, Option.some.injEq]
theorem hd_name {h : Hdr} (hh : hdB h = true) : (nam h.st).isSome = true := by
  unfold hdB hdOk at hh; rw [Bool.and_eq_true] at hh; exact hh.1
theorem mtR_iff {r : Rul} {h : Hdr} : mtR r h = true ↔ ruOk r = true ∧ hdB h = true ∧ (r.st.size = 0 ∨ cmpN r.st h.st = 0) ∧ (r.c < 0 ∨ r.c = h.c) ∧ r.f ≤ h.p ∧ h.p ≤ r.l := by
  unfold mtR
  simp only [Bool.and_eq_true, Bool.or_eq_true, decide_eq_true_eq, and_assoc]
theorem cov_iff {a b : Rul} : cov a b = true ↔ ruOk a = true ∧ ruOk b = true ∧ (a.st.size = 0 ∨ ¬ b.st.size = 0 ∧ cmpN a.st b.st = 0) ∧ (a.c < 0 ∨ a.c = b.c) ∧ a.f ≤ b.f ∧ b.l ≤ a.l := by
  unfold cov
  simp only [Bool.and_eq_true, Bool.or_eq_true, decide_eq_true_eq, and_assoc]
/-- **What a covered rule matches the covering one matches.** -/
theorem cov_mt {a b : Rul} {h : Hdr} (hc : cov a b = true) (hm : mtR b h = true) : mtR a h = true := by
  obtain ⟨oa, ob, s1, c1, f1, l1⟩ := cov_iff.1 hc
  obtain ⟨_, oh, s2, c2, f2, l2⟩ := mtR_iff.1 hm
  refine mtR_iff.2 ⟨oa, oh, ?_, ?_, by omega, by omega⟩
  · rcases s1 with s1 | ⟨s1, s3⟩
    · exact .inl s1
    · by_cases e : a.st.size = 0
      · exact .inl e
      · have na := (ruOk_parts oa).1.resolve_left e
        have nb_ := (ruOk_parts ob).1.resolve_left s1
        have nh := hd_name oh
        have k1 := (cmpN_zero na nb_).1 s3
        have k2 := (cmpN_zero nb_ nh).1 (s2.resolve_left s1)
        exact .inr ((cmpN_zero na nh).2 (k1.trans k2))
  · rcases c1 with c1 | c1
    · exact .inl c1
    · rcases c2 with c2 | c2
      · exact .inl (by omega)
      · exact .inr (by omega)
theorem cov_self {r : Rul} (h : ruOk r = true) : cov r r = true := by
  refine cov_iff.2 ⟨h, h, ?_, .inr rfl, by omega, by omega⟩
  by_cases e : r.st.size = 0
  · exact .inl e
  · have n := (ruOk_parts h).1.resolve_left e
    exact .inr ⟨e, (cmpN_zero n n).2 rfl⟩
/-- The rule that matches every header. -/
def allR : Rul := ⟨⟨#[]⟩, -1, 0, 65535, 0⟩
theorem allR_ok : ruOk allR = true := by decide +kernel
theorem cov_all {r : Rul} (h : ruOk r = true) : cov allR r = true := by
  obtain ⟨_, _, ⟨f0, _, l1⟩, _⟩ := ruOk_parts h
  exact cov_iff.2 ⟨allR_ok, h, .inl rfl, .inl (by decide), f0, l1⟩
theorem mt_all {h : Hdr} (hh : hdB h = true) : mtR allR h = true := by
  have : (0 ≤ h.p ∧ h.p ≤ 65535) := by
    unfold hdB hdOk at hh; rw [Bool.and_eq_true] at hh
    exact (of_decide_eq_true hh.2).2.1
  exact mtR_iff.2 ⟨allR_ok, hh, .inl rfl, .inl (by decide), this.1, this.2⟩
/-- The first rule that matches. -/
def clF (h : Hdr) : List Rul → Option Int
  | [] => none
  | r :: l => if mtR r h then some r.w else clF h l
def clV (h : Hdr) (l : List Rul) : Int := (clF h l).getD (-1)
def clB (h : Hdr) (l : List Rul) : Bool := (clF h l).isSome
/-- Rule number i is covered by an earlier one. -/
def shB (l : List Rul) (i : Nat) : Bool := (List.range i).any fun k => match l[k]?, l[i]? with | some a, some b => cov a b | _, _ => false
def shL (l : List Rul) : List Nat := (List.range l.length).filter (shB l)
/-- The list without the rules that are covered by earlier ones; 'pre': what stands ahead. -/
def keepL (pre : List Rul) : List Rul → List Rul
  | [] => []
  | r :: l => if pre.any (fun a => cov a r) then keepL (pre ++ [r]) l else r :: keepL (pre ++ [r]) l
theorem clF_keep {h : Hdr} : ∀ (l pre : List Rul), (∀ a ∈ pre, mtR a h = false) → clF h (keepL pre l) = clF h l
  | [], _, _ => rfl
  | r :: l, pre, hp => by
    rw [keepL]
    by_cases hm : mtR r h = true
    · have hn : ¬ (pre.any fun a => cov a r) = true := by
        intro k
        obtain ⟨a, ha, hc⟩ := List.any_eq_true.1 k
        have := cov_mt hc hm
        rw [hp a ha] at this; cases this
      rw [if_neg hn, clF, clF, if_pos hm, if_pos hm]
    · have hp' : ∀ a ∈ pre ++ [r], mtR a h = false := by
        intro a ha
        rcases List.mem_append.1 ha with ha | ha
        · exact hp a ha
        · simp only [List.mem_singleton] at ha; subst ha; simpa using hm
      have ih := clF_keep l (pre ++ [r]) hp'
      split
      · rw [ih, clF, if_neg hm]
      · rw [clF, if_neg hm, ih, clF, if_neg hm]
/-- **Without the rules that are shadowed every header gets the same flow.** -/
theorem clF_shadow (h : Hdr) (l : List Rul) : clF h (keepL [] l) = clF h l := clF_keep l [] (by simp)
theorem shB_at {l : List Rul} {i : Nat} (hi : i < l.length) : shB l i = (l.take i).any fun a => cov a l[i] := by
  rw [Bool.eq_iff_iff]
  unfold shB
  rw [List.any_eq_true, List.any_eq_true]
  constructor
  · rintro ⟨k, hk, hc⟩
    have hk' : k < i := by simpa using hk
    rw [List.getElem?_eq_getElem (by omega), List.getElem?_eq_getElem hi] at hc
    exact ⟨l[k], List.mem_take_iff_getElem.2 ⟨k, by omega, rfl⟩, hc⟩
  · rintro ⟨a, ha, hc⟩
    obtain ⟨k, hk, rfl⟩ := List.mem_take_iff_getElem.1 ha
    refine ⟨k, by simpa using (by omega : k < i), ?_⟩
    rw [List.getElem?_eq_getElem (by omega), List.getElem?_eq_getElem hi]
    exact hc
/-- The list that is left, as the statement builds it: element i goes on if i is not among the shadowed. -/
theorem keep_snoc : ∀ (l pre : List Rul) (r : Rul), keepL pre (l ++ [r]) = keepL pre l ++ if (pre ++ l).any (fun a => cov a r) then [] else [r]
  | [], pre, r => by
    simp only [List.nil_append, keepL, List.append_nil]
  | a :: l, pre, r => by
    rw [List.cons_append, keepL, keepL, keep_snoc l (pre ++ [a]) r]
    rw [show pre ++ [a] ++ l = pre ++ a :: l by simp]
    split
    · rfl
    · rfl
theorem keep_take {l : List Rul} {i : Nat} (hi : i < l.length) : keepL [] (l.take (i + 1)) = keepL [] (l.take i) ++ if shB l i then [] else [l[i]] := by
  rw [List.take_succ_eq_append_getElem hi, keep_snoc, List.nil_append, ← shB_at hi]
theorem mem_shL {l : List Rul} {i : Nat} (hi : i < l.length) : i ∈ shL l ↔ shB l i = true := by
  unfold shL; rw [List.mem_filter, List.mem_range]; exact ⟨fun h => h.2, fun h => ⟨hi, h⟩⟩
end Go.Proofs.YtfkbohfelacaoaaDoor

