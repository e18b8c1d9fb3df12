/-
  Layer 8: contracts of the checksum, of numbers in two bytes and of what is sealed, program's and reference's. Every string of up to 2000000 bytes.
-/
import Derived.Test.YthhipejffpifkaaPcPlain
import Derived.Test.YthhipejffpifkaaWhl
import Derived.Deep.QuietTactic
import Derived.BigQuiet
import Derived.OwnWalk
namespace Go.Proofs.Ythhipejffpifkaa
open Go.ChangeShapes Go.WideShapes Go.ChangeAt Go.RowKit
set_option linter.unusedVariables false

/-- A new row of bytes, made a string. -/
theorem convNew (w : World) (xs : List Int) (n : Nat) (hn : xs.length = n) (cs : Array Value) (hc : cs = (xs.map (Value.int .u8)).toArray) :
    (convert 36 9 (.slice (some ⟨w.heap.size, 0, none⟩) n n)).run Try.prog (w.alloc (.cells cs 5)) = .ok (.string (strOfNums xs)) (w.alloc (.cells cs 5)) := by
  refine run_convert_bytes_arg _ 36 5 Try.underlying36 Try.underlying5 w.heap.size 0 n n xs hn (fun i hi => ?_) 9 Try.underlying9
  rw [Nat.zero_add, Whole.read (show Whole _ w.heap.size 5 cs from (MapKept.heap_alloc w (.cells cs 5)).1) i, hc, List.getElem?_toArray, List.getElem?_map, List.getD_eq_getElem?_getD, List.getElem?_eq_getElem (by omega)]
  rfl
theorem two_str (n : Nat) : (⟨(two n).toArray⟩ : ByteArray) = strOfNums [(n : Int) / 256, (n : Int) % 256] := by
  unfold two strOfNums
  have e1 : ((n : Int) / 256).toNat = n / 256 := by omega
  have e2 : ((n : Int) % 256).toNat = n % 256 := by omega
  simp [e1, e2]
theorem str_add (s : ByteArray) (l : List UInt8) : s ++ (⟨l.toArray⟩ : ByteArray) = ⟨(s.data.toList ++ l).toArray⟩ := by
  apply ByteArray.ext; apply Array.toList_inj.1; simp
theorem add_str (l : List UInt8) (s : ByteArray) : (⟨l.toArray⟩ : ByteArray) ++ s = ⟨(l ++ s.data.toList).toArray⟩ := by
  apply ByteArray.ext; apply Array.toList_inj.1; simp
theorem add_two (l m : List UInt8) : (⟨l.toArray⟩ : ByteArray) ++ (⟨m.toArray⟩ : ByteArray) = ⟨(l ++ m).toArray⟩ := by rw [str_add]
theorem nb_idx (s : ByteArray) (i : Nat) (h : i < s.size) : ((s[i]'h).toNat : Int) = (nb s.data.toList i : Nat) := by
  rw [bt_get s i h, nb_bt h]
theorem or_byte (a c : Int) (a0 : 0 ≤ a) (a1 : a ≤ 255) (c0 : 0 ≤ c) (c1 : c ≤ 255) : bits .or .i64 (a * 256) c = a * 256 + c := by
  have key : bits .or .i64 (a * 256) c = IntKind.i64.wrap ((BitVec.ofInt 64 (a * 256) ||| BitVec.ofInt 64 c).toNat : Nat) := rfl
  have ha : (BitVec.ofInt 64 (a * 256)).toNat = (a * 256).toNat := by rw [BitVec.toNat_ofInt]; omega
  have hc : (BitVec.ofInt 64 c).toNat = c.toNat := by rw [BitVec.toNat_ofInt]; omega
  rw [key, BitVec.toNat_or, ha, hc, nat_join 8 (a * 256).toNat c.toNat (by omega) (by omega), IntKind.wrap_i64]
  omega
theorem take_snoc (s : ByteArray) (k : Nat) (h : k < s.size) : s.data.toList.take (k + 1) = s.data.toList.take k ++ [s[k]] := by
  rw [List.take_succ_eq_append_getElem (by simpa using h)]; rfl
theorem ck_next (s : ByteArray) (k : Nat) (h : k < s.size) : ckL (s.data.toList.take (k + 1)) = (((ckL (s.data.toList.take k)).1 + nb s.data.toList k) % 255, ((ckL (s.data.toList.take k)).2 + ((ckL (s.data.toList.take k)).1 + nb s.data.toList k) % 255) % 255) := by
  rw [take_snoc s k h, ckL_snoc, ckS, nb_at (by simpa using h)]; rfl
/-- What a checksum answers. -/
def CkAns (s : ByteArray) (w : World) (e : Ending) (w' : World) : Prop := e = .returned (.int .i64 (ck s.data.toList : Nat)) ∧ w = w'
theorem ck_end (s : ByteArray) : ((ckL (s.data.toList.take s.size)).2 : Int) * 256 + (ckL (s.data.toList.take s.size)).1 = (ck s.data.toList : Nat) := by
  rw [List.take_of_length_le (by simp)]; unfold ck; omega
set_option maxHeartbeats 1000000 in
theorem checksum_any (s : ByteArray) (hs : s.size ≤ 2000000) (w : World) : Calls Try.prog 22 #[.string s] w (CkAns s w) := by
  have HE := Lib.hid (ck_end s)
  have HN := Lib.hid (ck_next s)
  unfold CkAns
  go_enter Try.func22, Try.ntmps22
  go_wp2
  go_loop [3, 4, 8] (fun lo hi i => ∃ k : Nat, k ≤ s.size ∧ i = .int .i64 k ∧ lo = .int .i64 ((ckL (s.data.toList.take k)).1 : Nat) ∧ hi = .int .i64 ((ckL (s.data.toList.take k)).2 : Nat)) (fun _ _ i => s.size - (intOf i).toNat)
  case atStart => exact ⟨0, Nat.zero_le _, rfl, rfl, rfl⟩
  case round =>
    obtain ⟨k, hk, rfl, rfl, rfl⟩ := hrel
    obtain ⟨b1, b2⟩ := ckL_lt (s.data.toList.take k)
    by_cases hlt : k < s.size
    · have hn := Lib.hid (HN.out k hlt)
      have hv := nb_idx s k hlt
      have hvl := nb_lt s.data.toList k
      generalize (ckL (s.data.toList.take k)).1 = x at *
      generalize (ckL (s.data.toList.take k)).2 = y at *
      generalize nb s.data.toList k = z at *
      go_wp2
      go_round
      case rel => exact ⟨k + 1, by omega, by go_num, by rw [hn.out]; go_num, by rw [hn.out]; go_num⟩
      case measure => simp [intOf]; omega
    · obtain rfl : k = s.size := by omega
      have ho := or_byte ((ckL (s.data.toList.take s.size)).2 : Nat) ((ckL (s.data.toList.take s.size)).1 : Nat) (by omega) (by omega) (by omega) (by omega)
      have HE' := HE.out
      generalize (ckL (s.data.toList.take s.size)).1 = x at *
      generalize (ckL (s.data.toList.take s.size)).2 = y at *
      have HE'' := Lib.hid HE'
      clear HE'
      go_wp2
      go_ret
      exact ⟨ret_int HE''.out, rfl⟩
set_option maxHeartbeats 1000000 in
theorem refChecksum_any (s : ByteArray) (hs : s.size ≤ 2000000) (w : World) : Calls Try.prog 25 #[.string s] w (CkAns s w) := by
  have HE := Lib.hid (ck_end s)
  have HN := Lib.hid (ck_next s)
  unfold CkAns
  go_enter Try.func25, Try.ntmps25
  go_wp2
  go_loop [3, 4, 5] (fun lo hi i => ∃ k : Nat, k ≤ s.size ∧ i = .int .i64 k ∧ lo = .int .i64 ((ckL (s.data.toList.take k)).1 : Nat) ∧ hi = .int .i64 ((ckL (s.data.toList.take k)).2 : Nat)) (fun _ _ i => s.size - (intOf i).toNat)
  case atStart => exact ⟨0, Nat.zero_le _, rfl, rfl, rfl⟩
  case round =>
    obtain ⟨k, hk, rfl, rfl, rfl⟩ := hrel
    obtain ⟨b1, b2⟩ := ckL_lt (s.data.toList.take k)
    by_cases hlt : k < s.size
    · have hn := Lib.hid (HN.out k hlt)
      have hv := nb_idx s k hlt
      have hvl := nb_lt s.data.toList k
      generalize (ckL (s.data.toList.take k)).1 = x at *
      generalize (ckL (s.data.toList.take k)).2 = y at *
      generalize nb s.data.toList k = z at *
      go_wp2
      go_round
      case rel => exact ⟨k + 1, by omega, by go_num, by rw [hn.out]; go_num, by rw [hn.out]; go_num⟩
      case measure => simp [intOf]; omega
    · obtain rfl : k = s.size := by omega
      have HE' := HE.out
      generalize (ckL (s.data.toList.take s.size)).1 = x at *
      generalize (ckL (s.data.toList.take s.size)).2 = y at *
      have HE'' := Lib.hid (show (256 : Int) * y + x = (ck s.data.toList : Nat) by rw [← HE']; omega)
      clear HE'
      go_wp2
      go_ret
      exact ⟨ret_int HE''.out, rfl⟩
/-- What the number in two bytes is; draws are not counted. -/
def NumAns (s : ByteArray) (i : Nat) (w : World) (e : Ending) (w' : World) : Prop := e = .returned (.int .i64 (n2 s.data.toList i : Nat)) ∧ ∃ n, w' = w.drewN n
theorem n2_val (s : ByteArray) (i : Nat) : (nb s.data.toList i : Int) * 256 + (nb s.data.toList (i + 1) : Nat) = (n2 s.data.toList i : Nat) := by unfold n2; omega
set_option maxHeartbeats 1000000 in
theorem numberAt_any (s : ByteArray) (hs : s.size ≤ 2000000) (j : Int) (i : Nat) (hj : j = i) (hi : i + 1 < s.size) (w : World) : Calls Try.prog 28 #[.string s, .int .i64 j] w (NumAns s i w) := by
  subst hj
  have HE := n2_val s i
  have hv1 := nb_idx s i (by omega)
  have hv2 := nb_idx s (i + 1) hi
  have l1 := nb_lt s.data.toList i
  have l2 := nb_lt s.data.toList (i + 1)
  have ho := or_byte (nb s.data.toList i : Nat) (nb s.data.toList (i + 1) : Nat) (by omega) (by omega) (by omega) (by omega)
  generalize nb s.data.toList i = x at *
  generalize nb s.data.toList (i + 1) = y at *
  replace HE := Lib.hid HE
  have g1 : (0 : Int) ≤ (i : Int) := by omega
  have g2 : (i : Int) < (s.size : Int) := by omega
  have g3 : (0 : Int) ≤ (i : Int) + 1 := by omega
  have g4 : (i : Int) + 1 < (s.size : Int) := by omega
  have e1 : IntKind.i64.wrap ((i : Int) + 1) = (i : Int) + 1 := IntWalk.i64_in _ (by omega)
  have e2 : ((i : Int) + 1).toNat = i + 1 := by omega
  have e3 : IntKind.i64.wrap ((x : Int) * 256) = (x : Int) * 256 := IntWalk.i64_in _ (by omega)
  unfold NumAns
  go_enter Try.func28, Try.ntmps28
  go_wp2
  go_quiet (fail)
  go_wp2
  go_ret
  exact ⟨ret_int HE.out, _, rfl⟩
set_option maxHeartbeats 1000000 in
theorem refNumber_any (s : ByteArray) (hs : s.size ≤ 2000000) (j : Int) (i : Nat) (hj : j = i) (hi : i + 1 < s.size) (w : World) : Calls Try.prog 32 #[.string s, .int .i64 j] w (NumAns s i w) := by
  subst hj
  have HE := n2_val s i
  have hv1 := nb_idx s i (by omega)
  have hv2 := nb_idx s (i + 1) hi
  have l1 := nb_lt s.data.toList i
  have l2 := nb_lt s.data.toList (i + 1)
  generalize nb s.data.toList i = x at *
  generalize nb s.data.toList (i + 1) = y at *
  replace HE := Lib.hid (show (256 : Int) * x + y = (n2 s.data.toList i : Nat) by rw [← HE]; omega)
  have g1 : (0 : Int) ≤ (i : Int) := by omega
  have g2 : (i : Int) < (s.size : Int) := by omega
  have g3 : (0 : Int) ≤ (i : Int) + 1 := by omega
  have g4 : (i : Int) + 1 < (s.size : Int) := by omega
  have e1 : IntKind.i64.wrap ((i : Int) + 1) = (i : Int) + 1 := IntWalk.i64_in _ (by omega)
  have e2 : ((i : Int) + 1).toNat = i + 1 := by omega
  have e3 : IntKind.i64.wrap (256 * (x : Int)) = 256 * (x : Int) := IntWalk.i64_in _ (by omega)
  have e4 : IntKind.i64.wrap (256 * (x : Int) + y) = 256 * (x : Int) + y := IntWalk.i64_in _ (by omega)
  unfold NumAns
  go_enter Try.func32, Try.ntmps32
  go_wp2
  go_quiet (fail)
  go_wp2
  go_ret
  exact ⟨ret_int HE.out, _, rfl⟩
/-- What two answers. -/
def StrAns (V : ByteArray) (w : World) (e : Ending) (w' : World) : Prop := e = .returned (.string V) ∧ Below w.heap.size w w'
theorem two_any (n : Nat) (h : n < 65536) (w : World) : Calls Try.prog 23 #[.int .i64 n] w (StrAns ⟨(two n).toArray⟩ w) := by
  rw [two_str]
  have hst := convNew w [(n : Int) / 256, (n : Int) % 256] 2 rfl #[.int .u8 ((n : Int) / 256), .int .u8 ((n : Int) % 256)] rfl
  generalize strOfNums [(n : Int) / 256, (n : Int) % 256] = V at *
  have q1 : IntKind.u8.wrap ((n : Int) / 256) = (n : Int) / 256 := by rw [IntKind.wrap_u8']; omega
  have q2 : IntKind.u8.wrap ((n : Int) % 256) = (n : Int) % 256 := by rw [IntKind.wrap_u8']; omega
  unfold StrAns
  go_enter Try.func23, Try.ntmps23
  go_wp2
  go_ret
  exact ⟨rfl, (Below.refl _ _).alloc (Nat.le_refl _) _⟩
theorem sealed_any (s : ByteArray) (hs : s.size ≤ 2000000) (w : World) : Calls Try.prog 15 #[.string s] w (StrAns ⟨(sld s.data.toList).toArray⟩ w) := by
  have H1 := Lib.hid (fun w => refChecksum_any s hs w)
  have H2 := Lib.hid (fun w => two_any (ck s.data.toList) (ck_lt _) w)
  have HV := Lib.hid (show s ++ (⟨(two (ck s.data.toList)).toArray⟩ : ByteArray) = ⟨(sld s.data.toList).toArray⟩ by rw [str_add]; rfl)
  have hz : (⟨(two (ck s.data.toList)).toArray⟩ : ByteArray).size = 2 := rfl
  unfold CkAns at H1
  generalize (⟨(two (ck s.data.toList)).toArray⟩ : ByteArray) = T at *
  generalize ck s.data.toList = c at *
  generalize (⟨(sld s.data.toList).toArray⟩ : ByteArray) = V at *
  have hz' : T.size ≤ 2 := by omega
  clear hz
  unfold StrAns at *
  go_enter Try.func15, Try.ntmps15
  go_wp2_with fail
  (with_reducible refine (H1.out _).mono ?_); rintro e w1 ⟨rfl, rfl⟩
  go_wp2_with fail
  (with_reducible refine (H2.out _).mono ?_); rintro e w1 ⟨rfl, hb⟩
  have hb := Lib.hid hb
  go_wp2
  go_ret
  exact ⟨by rw [HV.out]; rfl, hb.out⟩
end Go.Proofs.Ythhipejffpifkaa

