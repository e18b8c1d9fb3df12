/-
  Layer 8, plain: the checksum, records and what is read back from them; damage. No program is named.
-/
import Derived.Test.YtfkbohfelacaoaaDoorLbGr
namespace Go.Proofs.YtfkbohfelacaoaaDoor
set_option linter.unusedVariables false

/-- One byte more of a checksum. -/
def ckS (q : Nat × Nat) (x : UInt8) : Nat × Nat := ((q.1 + x.toNat) % 255, (q.2 + (q.1 + x.toNat) % 255) % 255)
def ckL (l : List UInt8) : Nat × Nat := l.foldl ckS (0, 0)
def ck (l : List UInt8) : Nat := 256 * (ckL l).2 + (ckL l).1
theorem ckL_snoc (l : List UInt8) (x : UInt8) : ckL (l ++ [x]) = ckS (ckL l) x := by unfold ckL; rw [List.foldl_append]; rfl
/-- The sum of bytes. -/
def sumB : List UInt8 → Nat
  | [] => 0
  | x :: l => x.toNat + sumB l
theorem fold_a : ∀ (l : List UInt8) (q : Nat × Nat), q.1 < 255 → q.2 < 255 → (l.foldl ckS q).1 = (q.1 + sumB l) % 255 ∧ (l.foldl ckS q).1 < 255 ∧ (l.foldl ckS q).2 < 255
  | [], q, h, k => by simp [sumB]; omega
  | x :: l, q, h, k => by
    have ih := fold_a l (ckS q x) (by unfold ckS; show _ % 255 < 255; omega) (by unfold ckS; show _ % 255 < 255; omega)
    rw [List.foldl_cons]
    refine ⟨?_, ih.2.1, ih.2.2⟩
    rw [ih.1, sumB]
    unfold ckS
    show ((q.1 + x.toNat) % 255 + sumB l) % 255 = _
    omega
theorem ck_a (l : List UInt8) : ck l % 256 = sumB l % 255 := by
  obtain ⟨h1, h2, h3⟩ := fold_a l (0, 0) (by decide) (by decide)
  unfold ck ckL
  rw [h1]
  show (256 * _ + (0 + sumB l) % 255) % 256 = _
  omega
theorem ck_lt (l : List UInt8) : ck l < 65536 := by
  obtain ⟨h1, h2, h3⟩ := fold_a l (0, 0) (by decide) (by decide)
  unfold ck ckL
  omega
theorem ckL_lt (l : List UInt8) : (ckL l).1 < 255 ∧ (ckL l).2 < 255 := (fold_a l (0, 0) (by decide) (by decide)).2
theorem sum_set : ∀ (l : List UInt8) (i : Nat) (y : UInt8) (h : i < l.length), sumB (l.set i y) + l[i].toNat = sumB l + y.toNat
  | x :: l, 0, y, _ => by simp [sumB]; omega
  | x :: l, i + 1, y, h => by
    have ih := sum_set l i y (by simpa using h)
    simp only [List.set_cons_succ, sumB, List.getElem_cons_succ]
    omega
/-- Byte i as a number, 0 beyond the end. -/
def nb (l : List UInt8) (i : Nat) : Nat := (l.getD i 0).toNat
theorem nb_lt (l : List UInt8) (i : Nat) : nb l i < 256 := (l.getD i 0).toNat_lt
theorem nb_at {l : List UInt8} {i : Nat} (h : i < l.length) : nb l i = l[i].toNat := by unfold nb; rw [List.getD_eq_getElem?_getD, List.getElem?_eq_getElem h]; rfl
theorem nb_bt {s : ByteArray} {i : Nat} (h : i < s.size) : bt s i = nb s.data.toList i := by
  rw [← bt_get s i h, nb_at (by rw [← Lib.size_eq]; exact h)]; rfl
theorem nb_set_ne {l : List UInt8} {i j : Nat} (y : UInt8) (h : i ≠ j) : nb (l.set i y) j = nb l j := by
  unfold nb; rw [List.getD_eq_getElem?_getD, List.getD_eq_getElem?_getD, List.getElem?_set_ne h]
theorem nb_set_eq {l : List UInt8} {i : Nat} (y : UInt8) (h : i < l.length) : nb (l.set i y) i = y.toNat := by
  rw [nb_at (by simpa using h)]; simp
/-- A number in two bytes. -/
def two (n : Nat) : List UInt8 := [UInt8.ofNat (n / 256), UInt8.ofNat (n % 256)]
/-- A header is valid. -/
def hdOk (st : ByteArray) (c p l f : Int) : Bool := (nam st).isSome && decide ((0 ≤ c ∧ c ≤ 7) ∧ (0 ≤ p ∧ p ≤ 65535) ∧ (1 ≤ l ∧ l ≤ 4096) ∧ (0 ≤ f ∧ f ≤ 65535))
/-- The record but for its checksum; the record. -/
def bodL (st : ByteArray) (c p l f : Nat) : List UInt8 := [165, 1, UInt8.ofNat c] ++ two p ++ two l ++ two f ++ [UInt8.ofNat st.size] ++ st.data.toList
def sld (l : List UInt8) : List UInt8 := l ++ two (ck l)
def recL (st : ByteArray) (c p l f : Nat) : List UInt8 := sld (bodL st c p l f)
/-- The station that a record holds. -/
def stn (l : List UInt8) : ByteArray := ⟨((l.drop 10).take (l.length - 12)).toArray⟩
def n2 (l : List UInt8) (i : Nat) : Nat := 256 * nb l i + nb l (i + 1)
/-- What is wrong with a record: 0 if nothing is. -/
def prE (l : List UInt8) : Int :=
  if l.length < 12 then 9
  else if ¬ (nb l 0 = 165 ∧ nb l 1 = 1) then 11
  else if l.length < 12 + nb l 9 then 9
  else if 12 + nb l 9 < l.length then 11
  else if n2 l (l.length - 2) ≠ ck (l.take (l.length - 2)) then 10
  else if hdOk (stn l) (nb l 2) (n2 l 3) (n2 l 5) (n2 l 7) then 0 else 1
theorem prE_zero {l : List UInt8} : prE l = 0 ↔ 12 ≤ l.length ∧ (nb l 0 = 165 ∧ nb l 1 = 1) ∧ l.length = 12 + nb l 9 ∧ n2 l (l.length - 2) = ck (l.take (l.length - 2)) ∧ hdOk (stn l) (nb l 2) (n2 l 3) (n2 l 5) (n2 l 7) = true := by
  unfold prE
  by_cases h1 : l.length < 12
  · rw [if_pos h1]; constructor
    · intro h; cases h
    · intro h; omega
  · rw [if_neg h1]
    by_cases h2 : nb l 0 = 165 ∧ nb l 1 = 1
    · rw [if_neg (fun k => k h2)]
      by_cases h3 : l.length < 12 + nb l 9
      · rw [if_pos h3]; constructor
        · intro h; cases h
        · intro h; omega
      · rw [if_neg h3]
        by_cases h4 : 12 + nb l 9 < l.length
        · rw [if_pos h4]; constructor
          · intro h; cases h
          · intro h; omega
        · rw [if_neg h4]
          by_cases h5 : n2 l (l.length - 2) = ck (l.take (l.length - 2))
          · rw [if_neg (fun k => k h5)]
            by_cases h6 : hdOk (stn l) (nb l 2) (n2 l 3) (n2 l 5) (n2 l 7) = true
            · rw [if_pos h6]; exact ⟨fun _ => ⟨by omega, h2, by omega, h5, h6⟩, fun _ => rfl⟩
            · rw [if_neg h6]; constructor
              · intro h; cases h
              · intro h; exact absurd h.2.2.2.2 h6
          · rw [if_pos h5]; constructor
            · intro h; cases h
            · intro h; exact absurd h.2.2.2.1 h5
    · rw [if_pos h2]; constructor
      · intro h; cases h
      · intro h; exact absurd h.2.1 h2
/-- One byte has been changed: what was a record is none. -/
theorem prE_damage {l : List UInt8} {i : Nat} {y : UInt8} (h : prE l = 0) (hi : i < l.length) (hy : y ≠ l[i]) (h1 : ¬ (l[i].toNat = 0 ∧ y.toNat = 255)) (h2 : ¬ (l[i].toNat = 255 ∧ y.toNat = 0)) : prE (l.set i y) ≠ 0 := by
  intro h'
  obtain ⟨a1, ⟨a2, a3⟩, a4, a5, _⟩ := prE_zero.1 h
  obtain ⟨b1, ⟨b2, b3⟩, b4, b5, _⟩ := prE_zero.1 h'
  rw [List.length_set] at b1 b4 b5
  have hne : y.toNat ≠ l[i].toNat := fun e => hy (UInt8.toNat_inj.1 e)
  have hold := nb_at hi
  have hnew := nb_set_eq y hi
  have c1 := l[i].toNat_lt
  have c2 := y.toNat_lt
  have c3 := ck_lt (l.take (l.length - 2))
  by_cases e : i < l.length - 2
  · -- the checksum turns
    have e1 : n2 (l.set i y) (l.length - 2) = n2 l (l.length - 2) := by
      unfold n2; rw [nb_set_ne y (by omega), nb_set_ne y (by omega)]
    have e2 : (l.set i y).take (l.length - 2) = (l.take (l.length - 2)).set i y := by rw [List.take_set]
    rw [e1, e2, a5] at b5
    have hlt : i < (l.take (l.length - 2)).length := by rw [List.length_take]; omega
    have hs := sum_set (l.take (l.length - 2)) i y hlt
    have hg : (l.take (l.length - 2))[i] = l[i] := List.getElem_take
    rw [hg] at hs
    have k1 := ck_a (l.take (l.length - 2))
    have k2 := ck_a ((l.take (l.length - 2)).set i y)
    rw [← b5, k1] at k2
    omega
  · -- the checksum that is held turns
    have e2 : (l.set i y).take (l.length - 2) = l.take (l.length - 2) := by rw [List.take_set, List.set_eq_of_length_le (by rw [List.length_take]; omega)]
    rw [e2, ← a5] at b5
    unfold n2 at b5
    rcases (by omega : i = l.length - 2 ∨ i = l.length - 2 + 1) with e | e
    · rw [← e] at b5
      rw [hnew, hold, nb_set_ne y (by omega)] at b5
      omega
    · rw [← e] at b5
      rw [hnew, hold, nb_set_ne y (by omega)] at b5
      omega
/-- A record by its parts: ten bytes, the station, two bytes. -/
theorem bodL_eq (st : ByteArray) (c p l f : Nat) : bodL st c p l f = [165, 1, UInt8.ofNat c, UInt8.ofNat (p / 256), UInt8.ofNat (p % 256), UInt8.ofNat (l / 256), UInt8.ofNat (l % 256), UInt8.ofNat (f / 256), UInt8.ofNat (f % 256), UInt8.ofNat st.size] ++ st.data.toList := rfl
theorem nb_pre {a b : List UInt8} {i : Nat} (h : i < a.length) : nb (a ++ b) i = nb a i := by
  unfold nb; rw [List.getD_eq_getElem?_getD, List.getD_eq_getElem?_getD, List.getElem?_append_left h]
theorem nb_post {a b : List UInt8} {i : Nat} : nb (a ++ b) (a.length + i) = nb b i := by
  unfold nb; rw [List.getD_eq_getElem?_getD, List.getD_eq_getElem?_getD, List.getElem?_append_right (by omega), Nat.add_sub_cancel_left]
theorem ba_eq (b : ByteArray) : (⟨b.data.toList.toArray⟩ : ByteArray) = b := by rfl
theorem bodL_len (st : ByteArray) (c p l f : Nat) : (bodL st c p l f).length = 10 + st.size := by
  rw [bodL_eq, List.length_append, ← Lib.size_eq]; simp
theorem sld_len (l : List UInt8) : (sld l).length = l.length + 2 := by simp [sld, two]
theorem sld_take (l : List UInt8) : (sld l).take ((sld l).length - 2) = l := by
  rw [sld_len, Nat.add_sub_cancel]; unfold sld; simp
theorem two_at (n : Nat) (h : n < 65536) : 256 * nb (two n) 0 + nb (two n) 1 = n := by
  unfold two nb
  show 256 * (UInt8.ofNat (n / 256)).toNat + (UInt8.ofNat (n % 256)).toNat = n
  rw [u8_nat (by omega), u8_nat (by omega)]; omega
theorem sld_n2 (l : List UInt8) : n2 (sld l) ((sld l).length - 2) = ck l := by
  rw [sld_len, Nat.add_sub_cancel]
  unfold n2 sld
  rw [show l.length = l.length + 0 from rfl, nb_post, Nat.add_assoc, nb_post]
  exact two_at _ (ck_lt l)
/-- What is read back from the record of a header. -/
theorem prE_rec {st : ByteArray} {c p l f : Nat} (h : hdOk st c p l f = true) (hz : st.size ≤ 24) :
    prE (recL st c p l f) = 0 ∧ stn (recL st c p l f) = st ∧ nb (recL st c p l f) 2 = c ∧ n2 (recL st c p l f) 3 = p ∧ n2 (recL st c p l f) 5 = l ∧ n2 (recL st c p l f) 7 = f := by
  have hb : ((0 ≤ (c : Int) ∧ (c : Int) ≤ 7) ∧ (0 ≤ (p : Int) ∧ (p : Int) ≤ 65535) ∧ (1 ≤ (l : Int) ∧ (l : Int) ≤ 4096) ∧ (0 ≤ (f : Int) ∧ (f : Int) ≤ 65535)) := by
    unfold hdOk at h; rw [Bool.and_eq_true] at h; exact of_decide_eq_true h.2
  have hlen : (recL st c p l f).length = 12 + st.size := by unfold recL; rw [sld_len, bodL_len]; omega
  have at10 : ∀ i, i < 10 → nb (recL st c p l f) i = nb [165, 1, UInt8.ofNat c, UInt8.ofNat (p / 256), UInt8.ofNat (p % 256), UInt8.ofNat (l / 256), UInt8.ofNat (l % 256), UInt8.ofNat (f / 256), UInt8.ofNat (f % 256), UInt8.ofNat st.size] i := by
    intro i hi
    unfold recL sld
    rw [bodL_eq, List.append_assoc, nb_pre (by simpa using hi)]
  have e0 : nb (recL st c p l f) 0 = 165 := at10 0 (by omega)
  have e1 : nb (recL st c p l f) 1 = 1 := at10 1 (by omega)
  have e2 : nb (recL st c p l f) 2 = c := (at10 2 (by omega)).trans (u8_nat (by omega))
  have e3 : n2 (recL st c p l f) 3 = p := by
    unfold n2; rw [at10 3 (by omega), at10 4 (by omega)]
    show 256 * (UInt8.ofNat (p / 256)).toNat + (UInt8.ofNat (p % 256)).toNat = p
    rw [u8_nat (by omega), u8_nat (by omega)]; omega
  have e5 : n2 (recL st c p l f) 5 = l := by
    unfold n2; rw [at10 5 (by omega), at10 6 (by omega)]
    show 256 * (UInt8.ofNat (l / 256)).toNat + (UInt8.ofNat (l % 256)).toNat = l
    rw [u8_nat (by omega), u8_nat (by omega)]; omega
  have e7 : n2 (recL st c p l f) 7 = f := by
    unfold n2; rw [at10 7 (by omega), at10 8 (by omega)]
    show 256 * (UInt8.ofNat (f / 256)).toNat + (UInt8.ofNat (f % 256)).toNat = f
    rw [u8_nat (by omega), u8_nat (by omega)]; omega
  have e9 : nb (recL st c p l f) 9 = st.size := (at10 9 (by omega)).trans (u8_nat (by omega))
  have es : stn (recL st c p l f) = st := by
    unfold stn
    rw [hlen, show 12 + st.size - 12 = st.size by omega]
    have : ((recL st c p l f).drop 10).take st.size = st.data.toList := by
      unfold recL sld
      rw [bodL_eq, List.append_assoc, List.drop_append_of_le_length (by simp), List.drop_of_length_le (by simp), List.nil_append, List.take_append_of_le_length (by rw [← Lib.size_eq]; omega), List.take_of_length_le (by rw [← Lib.size_eq]; omega)]
    rw [this]
  refine ⟨prE_zero.2 ⟨by omega, ⟨e0, e1⟩, by rw [hlen, e9], ?_, ?_⟩, es, e2, e3, e5, e7⟩
  · unfold recL; rw [sld_n2, sld_take]
  · rw [es, e2, e3, e5, e7]; exact h
/-- A list of known length is its bytes. -/
theorem take_bytes (l : List UInt8) : ∀ n, n ≤ l.length → l.take n = (List.range n).map (fun i => UInt8.ofNat (nb l i))
  | 0, _ => rfl
  | n + 1, h => by
    rw [List.range_succ, List.map_append, ← take_bytes l n (by omega), List.take_succ_eq_append_getElem (by omega)]
    congr 1
    simp only [List.map_cons, List.map_nil]
    rw [nb_at (by omega)]
    congr 1
    exact (UInt8.toNat_inj.1 (by rw [u8_nat (l[n].toNat_lt)])).symm
/-- The record of what has been read is what has been read. -/
theorem rec_prE {l : List UInt8} (h : prE l = 0) : recL (stn l) (nb l 2) (n2 l 3) (n2 l 5) (n2 l 7) = l ∧ (stn l).size = nb l 9 := by
  obtain ⟨a1, ⟨a2, a3⟩, a4, a5, a6⟩ := prE_zero.1 h
  have hb : ∀ i, nb l i < 256 := nb_lt l
  have hst : (stn l).data.toList = (l.drop 10).take (l.length - 12) := rfl
  have hsz : (stn l).size = nb l 9 := by rw [Lib.size_eq, hst, List.length_take, List.length_drop]; omega
  refine ⟨?_, hsz⟩
  have hbod : bodL (stn l) (nb l 2) (n2 l 3) (n2 l 5) (n2 l 7) = l.take (l.length - 2) := by
    rw [bodL_eq, hst, hsz]
    have k1 := take_bytes l 10 (by omega)
    have e : l.take (l.length - 2) = l.take 10 ++ (l.drop 10).take (l.length - 12) := by
      rw [show l.length - 2 = 10 + (l.length - 12) by omega, List.take_add]
    rw [e, k1]
    congr 1
    have q : ∀ i, n2 l i / 256 = nb l i ∧ n2 l i % 256 = nb l (i + 1) := fun i => by unfold n2; have := hb i; have := hb (i + 1); omega
    rw [(q 3).1, (q 3).2, (q 5).1, (q 5).2, (q 7).1, (q 7).2]
    show _ = [UInt8.ofNat (nb l 0), UInt8.ofNat (nb l 1), UInt8.ofNat (nb l 2), UInt8.ofNat (nb l 3), UInt8.ofNat (nb l 4), UInt8.ofNat (nb l 5), UInt8.ofNat (nb l 6), UInt8.ofNat (nb l 7), UInt8.ofNat (nb l 8), UInt8.ofNat (nb l 9)]
    rw [a2, a3]; rfl
  unfold recL sld
  rw [hbod, ← a5]
  have e2 : two (n2 l (l.length - 2)) = l.drop (l.length - 2) := by
    have d1 : l.drop (l.length - 2) = [l[l.length - 2], l[l.length - 2 + 1]] := by
      rw [List.drop_eq_getElem_cons (by omega), List.drop_eq_getElem_cons (by omega), List.drop_of_length_le (by omega)]
    rw [d1]
    unfold two n2
    have h1 := hb (l.length - 2)
    have h2 := hb (l.length - 2 + 1)
    rw [show (256 * nb l (l.length - 2) + nb l (l.length - 2 + 1)) / 256 = nb l (l.length - 2) by omega, show (256 * nb l (l.length - 2) + nb l (l.length - 2 + 1)) % 256 = nb l (l.length - 2 + 1) by omega]
    rw [nb_at (by omega), nb_at (by omega)]
    congr 1
    · exact UInt8.toNat_inj.1 (u8_nat (UInt8.toNat_lt _))
    · congr 1
      exact UInt8.toNat_inj.1 (u8_nat (UInt8.toNat_lt _))
  rw [e2, List.take_append_drop]
end Go.Proofs.YtfkbohfelacaoaaDoor

