/-
  Layer 8: a []byte of the call's own that grows: its words; the program's appendNumber.
-/
import Derived.Test.YthhipejffpifkaaPcSum
import Derived.Lib.BufSteps
import Derived.Lib.BufferWrite
import Derived.Lib.SlBytesRow
import Derived.Lib.SlBytesConst
namespace Go.Proofs.Ythhipejffpifkaa
open Go.ChangeShapes Go.WideShapes Go.ChangeAt Go.RowKit
set_option linter.unusedVariables false

theorem info8 : (Try.prog.info? 5).map (fun i => (i.zero, i.size, i.bytes)) = some (some (.int .u8 0), 1, 1) := by kernel_rfl
/-- The bytes l in a slice of the call's own, in a block from B on; nothing below B has turned since W0. -/
def BufL (W0 : World) (B : Nat) (l : List UInt8) (v : Value) (w : World) : Prop := Lib.OwnBuf B 5 v l.length (Lib.byteCells l) W0 w
theorem BufL.alloc {W0 w : World} {B : Nat} {l : List UInt8} {v : Value} (h : BufL W0 B l v w) (o : Obj) : BufL W0 B l v (w.alloc o) := Lib.OwnBuf.alloc h o
theorem BufL.below {W0 w : World} {B : Nat} {l : List UInt8} {v : Value} (h : BufL W0 B l v w) : Below B W0 w := h.2.1
theorem BufL.le {W0 w : World} {B : Nat} {l : List UInt8} {v : Value} (h : BufL W0 B l v w) : B ≤ w.heap.size := h.2.2
theorem BufL.of {W0 w : World} {B : Nat} {l m : List UInt8} {v : Value} {n : Nat} {xs : List Value} (h : Lib.OwnBuf B 5 v n xs W0 w) (e : l = m) (hn : n = m.length) (hx : xs = Lib.byteCells m) : BufL W0 B l v w := by
  subst e hn hx; exact h
theorem BufL.later {W0 w w' : World} {B : Nat} {l : List UInt8} {v : Value} (h : BufL W0 B l v w) (hb : Below w.heap.size w w') : BufL W0 B l v w' := by
  refine ⟨⟨h.1.1, ?_⟩, h.2.1.trans (hb.mono h.2.2), Nat.le_trans h.2.2 hb.size⟩
  rcases h.1.2 with h1 | ⟨g, cap, cur, fz, h1, h2, h3, h4⟩
  · exact .inl h1
  · exact .inr ⟨g, cap, cur, fz, h1, h2, (hb.block g (lt_of_block h3)).trans h3, h4⟩
/-- Its bytes make the string. -/
theorem BufL.string {W0 w : World} {B : Nat} {l : List UInt8} {v : Value} (h : BufL W0 B l v w) (hl : 0 < l.length) : (convert 36 9 v).run Try.prog w = .ok (.string ⟨l.toArray⟩) w := by
  rcases h.1.2 with ⟨_, h0⟩ | ⟨g, cap, cur, fz, hv, _, hh, _, _, _, _, ht⟩
  · omega
  · subst hv
    have hz : (⟨l.toArray⟩ : ByteArray).size = l.length := rfl
    have := Lib.run_convert_whole (P := Try.prog) w 36 5 9 Try.underlying36 Try.underlying5 Try.underlying9 g 0 ⟨l.toArray⟩ (fun i hi => by
      rw [Nat.zero_add, cell_of_row w g i cur 5 fz hh]
      have e : (Lib.byteCells l)[i]? = some (.int .u8 ((⟨l.toArray⟩ : ByteArray)[i].toNat : Int)) := by
        unfold Lib.byteCells
        rw [List.getElem?_map, List.getElem?_eq_getElem (by rw [← hz]; exact hi)]; rfl
      rw [← ht, List.getElem?_take, if_pos (by rw [hz] at hi; omega)] at e
      simpa using e) cap
    rw [hz] at this
    exact this
theorem newRow2 (w : World) (x y : Value) (t : TypeId) : ∀ j u, [x, y][j]? = some u → (w.alloc (.cells #[x, y] t)).cell? ((⟨w.heap.size, 0, none⟩ : Addr).add j) = some u := by
  intro j u hj
  have h : ((⟨w.heap.size, 0, none⟩ : Addr).add j) = ⟨w.heap.size, j, none⟩ := by unfold Addr.add; split <;> simp_all
  rw [h]
  have e := (MapKept.heap_alloc w (.cells #[x, y] t)).1
  simp only [World.cell?, e]
  simpa using hj
theorem one8 (x y : Int) : ∀ u ∈ [Value.int .u8 x, Value.int .u8 y], u.oneCell' = true := by
  intro u hu; simp at hu; rcases hu with rfl | rfl <;> rfl
theorem two_cells (n : Nat) : Lib.byteCells (two n) = [.int .u8 ((n : Int) / 256 % 256), .int .u8 ((n : Int) % 256)] := by
  unfold Lib.byteCells two
  simp only [List.map_cons, List.map_nil, List.cons.injEq, Value.int.injEq, true_and, and_true]
  refine ⟨?_, ?_⟩
  · rw [UInt8.toNat_ofNat']; omega
  · rw [UInt8.toNat_ofNat']; omega
/-- What appendNumber answers. -/
def AppAns (W0 : World) (B : Nat) (l : List UInt8) (e : Ending) (w' : World) : Prop := ∃ v', e = .returned v' ∧ BufL W0 B l v' w'
set_option maxHeartbeats 1000000 in
theorem appendNumber_any (n : Nat) (hn : n < 65536) {W0 w : World} {B : Nat} {l : List UInt8} {v : Value} (h : BufL W0 B l v w) (hl : l.length ≤ 1000) :
    Calls Try.prog 26 #[v, .int .i64 n] w (AppAns W0 B (l ++ two n) ) := by
  have hb := h.alloc (.cells #[.int .u8 ((n : Int) / 256), .int .u8 ((n : Int) % 256)] 5)
  have HG := Lib.hid (fun v' w' (h1 : w'.ownsRowF B 5 1 v' (l.length + 2) (Lib.byteCells l ++ [.int .u8 ((n : Int) / 256), .int .u8 ((n : Int) % 256)])) (h2 : World.grownBy (w.alloc (.cells #[.int .u8 ((n : Int) / 256), .int .u8 ((n : Int) % 256)] 5)) w' v.ownBlock) => show BufL W0 B (l ++ two n) v' w' from
    BufL.of (Lib.OwnBuf.grown hb h1 h2) rfl (by simp [two]) (by rw [Lib.byteCells_append, two_cells, show (n : Int) / 256 % 256 = (n : Int) / 256 by omega]))
  obtain ⟨i0, hii, hz0, hz1, hz2⟩ := info_parts info8
  have q1 : IntKind.u8.wrap ((n : Int) / 256) = (n : Int) / 256 := by rw [IntKind.wrap_u8']; omega
  have q2 : IntKind.u8.wrap (n : Int) = (n : Int) % 256 := IntKind.wrap_u8' _
  have hbl := hb.1
  have hle := h.le
  clear h hb
  unfold AppAns
  go_enter Try.func26, Try.ntmps26
  go_wp2_with (at_builtin; refine wpList_append_ownF _ rfl (.tmp 5) (.tmp 11) 36 rfl B 5 i0 (.int .u8 0) 1 1 Try.underlying36 hii hz0 hz1 hz2 rfl (by decide) v l.length (Lib.byteCells l) rfl hbl ⟨w.heap.size, 0, none⟩ 2 2 [.int .u8 ((n : Int) / 256), .int .u8 ((n : Int) % 256)] rfl rfl (newRow2 _ _ _ _) (one8 _ _) (by unfold maxLen; omega) (by omega) (by simp; omega) ?_; intro v4 w4 hown4 hg4 _)
  have HR := Lib.hid (HG.out _ _ hown4 hg4)
  clear hown4 hg4 HG hbl
  go_wp2
  go_ret
  exact ⟨_, rfl, HR.out⟩
end Go.Proofs.Ythhipejffpifkaa

