/-
  Layer 8: '[]byte(s)': a row that holds a string's bytes, one of which is changed; made a string again.
-/
import Derived.Test.YtfkbohfelacaoaaDoorPcSum
import Derived.Lib.ConvBytes
import Derived.Lib.UnsafeStr
import Derived.Lib.SlBytesRow
namespace Go.Proofs.YtfkbohfelacaoaaDoor
open Go.ChangeShapes Go.WideShapes Go.ChangeAt Go.RowKit
set_option linter.unusedVariables false

/-- The row in block g begins with the bytes l; they may be written. -/
def RowB (w : World) (g : Nat) (l : List UInt8) : Prop := ∃ cur fz, w.heap[g]? = some (.cells cur 5 fz) ∧ l.length ≤ fz.1 ∧ l.length ≤ cur.size ∧ ∀ i (h : i < l.length), cur[i]? = some (.int .u8 (l[i].toNat : Int))
theorem RowB.lt {w : World} {g : Nat} {l : List UInt8} (h : RowB w g l) : g < w.heap.size := by obtain ⟨_, _, h1, _⟩ := h; exact lt_of_block h1
theorem RowB.cell {w : World} {g i : Nat} {l : List UInt8} (h : RowB w g l) (hi : i < l.length) : w.cell? ⟨g, i, none⟩ = some (.int .u8 (l[i].toNat : Int)) := by
  obtain ⟨cur, fz, h1, h2, h3, h4⟩ := h
  rw [cell_of_row w g i cur _ fz h1]; exact h4 i hi
theorem RowB.frozen {w : World} {g i : Nat} {l : List UInt8} (h : RowB w g l) (hi : i < l.length) : w.frozen? ⟨g, i, none⟩ = false := by
  obtain ⟨cur, fz, h1, h2, h3, h4⟩ := h
  simp [World.frozen?, h1]; omega
theorem RowB.later {w w' : World} {g : Nat} {l : List UInt8} (h : RowB w g l) (e : w'.heap[g]? = w.heap[g]?) : RowB w' g l := by
  obtain ⟨cur, fz, h1, h2⟩ := h
  exact ⟨cur, fz, e.trans h1, h2⟩
theorem RowB.string {w : World} {g : Nat} {l : List UInt8} (h : RowB w g l) (n cap : Nat) (hn : n ≤ l.length) : (convert 34 9 (.slice (some ⟨g, 0, none⟩) n cap)).run Tryd.prog w = .ok (.string ⟨(l.take n).toArray⟩) w := by
  have hz : (⟨(l.take n).toArray⟩ : ByteArray).size = n := by show (l.take n).length = n; rw [List.length_take]; omega
  have := Lib.run_convert_whole (P := Tryd.prog) w 34 5 9 Tryd.underlying34 Tryd.underlying5 Tryd.underlying9 g 0 ⟨(l.take n).toArray⟩ (fun i hi => by
    rw [hz] at hi
    rw [Nat.zero_add, h.cell (show i < l.length by omega)]
    have e : ((⟨(l.take n).toArray⟩ : ByteArray)[i]'(by rw [hz]; exact hi)).toNat = (l[i]'(by omega)).toNat := by
      show ((l.take n)[i]'(by rw [List.length_take]; omega)).toNat = _
      rw [List.getElem_take]
    rw [e]) cap
  rw [hz] at this
  exact this
theorem RowB.put {w : World} {g i : Nat} {l : List UInt8} (h : RowB w g l) (hi : i < l.length) (v : Int) (v0 : 0 ≤ v) (v1 : v ≤ 255) : RowB (w.setCell ⟨g, i, none⟩ (.int .u8 v)) g (l.set i (UInt8.ofNat v.toNat)) := by
  obtain ⟨cur, fz, h1, h2, h3, h4⟩ := h
  refine ⟨cur.setIfInBounds i (.int .u8 v), fz, ?_, by simpa using h2, by simpa using h3, fun k hk => ?_⟩
  · have hlt := lt_of_block h1
    have h' : w.heap[g] = .cells cur 5 fz := by simpa [Array.getElem?_eq_getElem hlt] using h1
    show (w.heap.modify g _)[g]? = _
    rw [Array.getElem?_eq_getElem (by simpa using hlt), Array.getElem_modify_self, h']
    rfl
  · rw [List.length_set] at hk
    by_cases e : i = k
    · subst e
      rw [Array.getElem?_setIfInBounds_self_of_lt (by omega), List.getElem_set_self, UInt8.toNat_ofNat']
      congr 2; omega
    · rw [Array.getElem?_setIfInBounds_ne e, List.getElem_set_ne e]
      exact h4 k hk
theorem RowB.new (w : World) (s : ByteArray) : RowB (Lib.bytesWorld w 5 s) w.heap.size s.data.toList := by
  have hz : s.data.toList.length = s.size := (Lib.size_eq s).symm
  have hc : s.size ≤ (Lib.bytesCells w 5 s).size := by simp [Lib.bytesCells]
  refine ⟨_, _, Lib.bytesWorld_at_new w _ s, by rw [hz]; exact hc, by rw [hz]; exact hc, fun i hi => ?_⟩
  have := Lib.bytesWorld_cell w 5 s i (by omega)
  rw [cell_of_row _ w.heap.size i _ _ _ (Lib.bytesWorld_at_new w _ s)] at this
  rw [this]
  congr 3
  rw [List.getD_eq_getElem?_getD, List.getElem?_eq_getElem hi]; rfl
theorem bytes_below (w : World) (e : TypeId) (s : ByteArray) : Below w.heap.size w (Lib.bytesWorld w e s) := by
  refine ⟨?_, ?_, ?_, by rw [Lib.bytesWorld_size]; omega, fun k hk => Lib.bytesWorld_at_old w e s k hk⟩ <;> (unfold Lib.bytesWorld World.freeze; split <;> rfl)
end Go.Proofs.YtfkbohfelacaoaaDoor

