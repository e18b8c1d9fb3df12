/-
  Layer 7: contract of the reference's encode. Every rune.
-/
import Derived.Test.YthabmbjjpgcceaaDoorLbMatch
import Derived.OwnWalk
import Derived.IntWalk
namespace Go.Proofs.YthabmbjjpgcceaaDoor
open Go.ChangeShapes Go.WideShapes Go.ChangeAt Go.RowKit
set_option linter.unusedVariables false

def EncAns (r : Nat) (w : World) (e : Ending) (w' : World) : Prop := e = .returned (.string ⟨(enc r).toArray⟩) ∧ Below w.heap.size w w'
/-- A new row of bytes, made a string. -/
theorem conv_new (w : World) (xs : List Int) (n : Nat) (hn : xs.length = n) (cs : Array Value) (hc : cs = (xs.map (Value.int .u8)).toArray) :
    (convert 29 9 (.slice (some ⟨w.heap.size, 0, none⟩) n n)).run Tryd.prog (w.alloc (.cells cs 5)) = .ok (.string (strOfNums xs)) (w.alloc (.cells cs 5)) := by
  refine run_convert_bytes_arg _ 29 5 Tryd.underlying29 Tryd.underlying5 w.heap.size 0 n n xs hn (fun i hi => ?_) 9 Tryd.underlying9
  rw [Nat.zero_add, Whole.read (show Whole _ w.heap.size 5 cs from (MapKept.heap_alloc w (.cells cs 5)).1) i, hc, List.getElem?_toArray, List.getElem?_map, List.getD_eq_getElem?_getD, List.getElem?_eq_getElem (by omega)]
  rfl
theorem enc_str (r : Nat) : (⟨(enc r).toArray⟩ : ByteArray) = strOfNums (Lib.encodeRuneZ (r : Int)) := by
  unfold enc Lib.encodeRune strOfNums; rfl
set_option maxHeartbeats 2000000 in
set_option maxRecDepth 100000 in
theorem encode_any (r : Nat) (h : Scal r) (w : World) : Calls Tryd.prog 34 #[.int .i64 r] w (EncAns r w) := by
  unfold EncAns
  rw [enc_str]
  have hc := h.cases
  rcases hc with h1 | ⟨h1, h2⟩ | ⟨h1, h2⟩ | ⟨h1, h2⟩
  · rw [Lib.encodeRuneZ_one (by omega) (by omega)]
    have hst := conv_new w [(r : Int)] 1 rfl #[.int .u8 (r : Int)] rfl
    generalize strOfNums [(r : Int)] = V at *
    clear h
    go_enter Tryd.func34, Tryd.ntmps34
    go_wp2
    go_ret
    exact ⟨rfl, (Below.refl _ _).alloc (Nat.le_refl _) _⟩
  · rw [Lib.encodeRuneZ_two (by omega) (by omega)]
    have hst := conv_new w [192 + (r : Int) / 64, 128 + (r : Int) % 64] 2 rfl #[.int .u8 (192 + (r : Int) / 64), .int .u8 (128 + (r : Int) % 64)] rfl
    generalize strOfNums [192 + (r : Int) / 64, 128 + (r : Int) % 64] = V at *
    clear h
    go_enter Tryd.func34, Tryd.ntmps34
    go_wp2
    go_ret
    exact ⟨rfl, (Below.refl _ _).alloc (Nat.le_refl _) _⟩
  · rw [Lib.encodeRuneZ_three (by unfold Scal at h; omega)]
    have hst := conv_new w [224 + (r : Int) / 4096, 128 + (r : Int) / 64 % 64, 128 + (r : Int) % 64] 3 rfl #[.int .u8 (224 + (r : Int) / 4096), .int .u8 (128 + (r : Int) / 64 % 64), .int .u8 (128 + (r : Int) % 64)] rfl
    generalize strOfNums [224 + (r : Int) / 4096, 128 + (r : Int) / 64 % 64, 128 + (r : Int) % 64] = V at *
    have e1 : (2048 : Int) ≤ (r : Int) := by omega
    have e2 : (r : Int) < 65536 := by omega
    clear h h1 h2
    generalize (r : Int) = d at *
    go_enter Tryd.func34, Tryd.ntmps34
    go_wp2
    go_ret
    exact ⟨rfl, (Below.refl _ _).alloc (Nat.le_refl _) _⟩
  · rw [Lib.encodeRuneZ_four (by omega) (by omega)]
    have hst := conv_new w [240 + (r : Int) / 262144, 128 + (r : Int) / 4096 % 64, 128 + (r : Int) / 64 % 64, 128 + (r : Int) % 64] 4 rfl #[.int .u8 (240 + (r : Int) / 262144), .int .u8 (128 + (r : Int) / 4096 % 64), .int .u8 (128 + (r : Int) / 64 % 64), .int .u8 (128 + (r : Int) % 64)] rfl
    generalize strOfNums [240 + (r : Int) / 262144, 128 + (r : Int) / 4096 % 64, 128 + (r : Int) / 64 % 64, 128 + (r : Int) % 64] = V at *
    have e1 : (65536 : Int) ≤ (r : Int) := by omega
    have e2 : (r : Int) < 1114112 := by omega
    clear h h1 h2
    generalize (r : Int) = d at *
    go_enter Tryd.func34, Tryd.ntmps34
    go_wp2
    go_ret
    exact ⟨rfl, (Below.refl _ _).alloc (Nat.le_refl _) _⟩
end Go.Proofs.YthabmbjjpgcceaaDoor

