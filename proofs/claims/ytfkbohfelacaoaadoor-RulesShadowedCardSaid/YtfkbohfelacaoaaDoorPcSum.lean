/-
  Layer 8: contracts of the checksum, of numbers in two bytes and of what is sealed, program's and reference's. Every string of up to 2000000 bytes.
-/
import Derived.Test.YtfkbohfelacaoaaDoorPcPlain
import Derived.Test.YtfkbohfelacaoaaDoorWhl
import Derived.Deep.QuietTactic
import Derived.BigQuiet
import Derived.OwnWalk
namespace Go.Proofs.YtfkbohfelacaoaaDoor
open Go.ChangeShapes Go.WideShapes Go.ChangeAt Go.RowKit
set_option linter.unusedVariables false

/-- A new row of bytes, made a string. -/
theorem convNew (w : World) (xs : List Int) (n : Nat) (hn : xs.length = n) (cs : Array Value) (hc : cs = (xs.map (Value.int .u8)).toArray) :
    (convert 34 9 (.slice (some ⟨w.heap.size, 0, none⟩) n n)).run Tryd.prog (w.alloc (.cells cs 5)) = .ok (.string (strOfNums xs)) (w.alloc (.cells cs 5)) := by
  refine run_convert_bytes_arg _ 34 5 Tryd.underlying34 Tryd.underlying5 w.heap.size 0 n n xs hn (fun i hi => ?_) 9 Tryd.underlying9
  rw [Nat.zero_add, Whole.read (show Whole _ w.heap.size 5 cs from (MapKept.heap_alloc w (.cells cs 5)).1) i, hc, List.getElem?_toArray, List.getElem?_map, List.getD_eq_getElem?_getD, List.getElem?_eq_getElem (by omega)]
  rfl
theorem two_str (n : Nat) : (⟨(two n).toArray⟩ : ByteArray) = strOfNums [(n : Int) / 256, (n : Int) % 256] := by
  unfold two strOfNums
  have e1 : ((n : Int) / 256).toNat = n / 256 := by omega
  have e2 : ((n : Int) % 256).toNat = n % 256 := by omega
  simp [e1, e2]
theorem str_add (s : ByteArray) (l : List UInt8) : s ++ (⟨l.toArray⟩ : ByteArray) = ⟨(s.data.toList ++ l).toArray⟩ := by
  apply ByteArray.ext; apply Array.toList_inj.1; simp
theorem add_str (l : List UInt8) (s : ByteArray) : (⟨l.toArray⟩ : ByteArray) ++ s = ⟨(l ++ s.data.toList).toArray⟩ := by
  apply ByteArray.ext; apply Array.toList_inj.1; simp
theorem add_two (l m : List UInt8) : (⟨l.toArray⟩ : ByteArray) ++ (⟨m.toArray⟩ : ByteArray) = ⟨(l ++ m).toArray⟩ := by rw [str_add]
theorem nb_idx (s : ByteArray) (i : Nat) (h : i < s.size) : ((s[i]'h).toNat : Int) = (nb s.data.toList i : Nat) := by
  rw [bt_get s i h, nb_bt h]
theorem or_byte (a c : Int) (a0 : 0 ≤ a) (a1 : a ≤ 255) (c0 : 0 ≤ c) (c1 : c ≤ 255) : bits .or .i64 (a * 256) c = a * 256 + c := by
  have key : bits .or .i64 (a * 256) c = IntKind.i64.wrap ((BitVec.ofInt 64 (a * 256) ||| BitVec.ofInt 64 c).toNat : Nat) := rfl
  have ha : (BitVec.ofInt 64 (a * 256)).toNat = (a * 256).toNat := by rw [BitVec.toNat_ofInt]; omega
  have hc : (BitVec.ofInt 64 c).toNat = c.toNat := by rw [BitVec.toNat_ofInt]; omega
  rw [key, BitVec.toNat_or, ha, hc, nat_join 8 (a * 256).toNat c.toNat (by omega) (by omega), IntKind.wrap_i64]
  omega
theorem take_snoc (s : ByteArray) (k : Nat) (h : k < s.size) : s.data.toList.take (k + 1) = s.data.toList.take k ++ [s[k]] := by
  rw [List.take_succ_eq_append_getElem (by simpa using h)]; rfl
theorem ck_next (s : ByteArray) (k : Nat) (h : k < s.size) : ckL (s.data.toList.take (k + 1)) = (((ckL (s.data.toList.take k)).1 + nb s.data.toList k) % 255, ((ckL (s.data.toList.take k)).2 + ((ckL (s.data.toList.take k)).1 + nb s.data.toList k) % 255) % 255) := by
  rw [take_snoc s k h, ckL_snoc, ckS, nb_at (by simpa using h)]; rfl
/-- What a checksum answers. -/
def CkAns (s : ByteArray) (w : World) (e : Ending) (w' : World) : Prop := e = .returned (.int .i64 (ck s.data.toList : Nat)) ∧ w = w'
theorem ck_end (s : ByteArray) : ((ckL (s.data.toList.take s.size)).2 : Int) * 256 + (ckL (s.data.toList.take s.size)).1 = (ck s.data.toList : Nat) := by
  rw [List.take_of_length_le (by simp)]; unfold ck; omega
/-- What the number in two bytes is; draws are not counted. -/
def NumAns (s : ByteArray) (i : Nat) (w : World) (e : Ending) (w' : World) : Prop := e = .returned (.int .i64 (n2 s.data.toList i : Nat)) ∧ ∃ n, w' = w.drewN n
theorem n2_val (s : ByteArray) (i : Nat) : (nb s.data.toList i : Int) * 256 + (nb s.data.toList (i + 1) : Nat) = (n2 s.data.toList i : Nat) := by unfold n2; omega
/-- What two answers. -/
def StrAns (V : ByteArray) (w : World) (e : Ending) (w' : World) : Prop := e = .returned (.string V) ∧ Below w.heap.size w w'
end Go.Proofs.YtfkbohfelacaoaaDoor

