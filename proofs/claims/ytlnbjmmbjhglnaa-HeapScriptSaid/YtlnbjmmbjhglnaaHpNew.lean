/-
  Layer 4: contracts of slices.Repeat at the heap's table of positions, and of New. Every capacity.
-/
import Derived.Test.YtlnbjmmbjhglnaaHpSort
import Derived.Laws.CopyOwn
import Derived.Deep.RegionLaw
namespace Go.Proofs.Ytlnbjmmbjhglnaa
open Go.ChangeShapes Go.WideShapes Go.ChangeAt Go.RowKit
set_option linter.unusedVariables false

theorem mul_lit (w : World) : Calls Try.prog 39 #[.int .u64 1, .int .u64 4096] w fun e w' => e = .returned (.tuple #[.int .u64 0, .int .u64 4096]) ∧ w = w' :=
  Calls.mono (show Calls Try.prog 39 _ _ _ from Any.bits_Mul mulF 1 4096 (by decide) (by decide) w) fun _ _ h => ⟨h.1, h.2.symm⟩
theorem splice_at {L cs : List Value} {off j : Nat} (ho : off ≤ L.length) : (splice L off cs)[j]? = if j < off then L[j]? else if j < off + cs.length then cs[j - off]? else L[j]? := by
  unfold splice
  by_cases h : j < off
  · rw [if_pos h, List.getElem?_append_left (by simp; omega), List.getElem?_take, if_pos h]
  · rw [if_neg h, List.getElem?_append_right (by simp; omega), List.length_take, Nat.min_eq_left ho]
    by_cases h2 : j < off + cs.length
    · rw [if_pos h2, List.getElem?_append_left (by omega)]
    · rw [if_neg h2, List.getElem?_append_right (by omega), List.getElem?_drop]
      congr 1; omega
/-- The first m cells of a row of 4096 are -1. -/
def Minus (L : List Value) (m : Nat) : Prop := L.length = 4096 ∧ ∀ j, j < m → L[j]? = some (.int .i64 (-1))
theorem Minus.step {L : List Value} {m k : Nat} (h : Minus L m) (hk : m + k ≤ 4096) : Minus (splice L m (List.replicate k (.int .i64 (-1)))) (m + k) := by
  have hl : (splice L m (List.replicate k (Value.int .i64 (-1)))).length = L.length := length_splice _ _ _ (by rw [List.length_replicate, h.1]; exact hk)
  refine ⟨hl.trans h.1, fun j hj => ?_⟩
  rw [splice_at (by rw [h.1]; omega)]
  by_cases h1 : j < m
  · rw [if_pos h1]; exact h.2 j h1
  · rw [if_neg h1, List.length_replicate, if_pos hj, List.getElem?_replicate, if_pos (by omega)]
theorem rep_at {k j : Nat} {v : Value} (h : (List.replicate k (Value.int .i64 (-1)))[j]? = some v) : j < k ∧ v = .int .i64 (-1) := by
  rw [List.getElem?_replicate] at h
  by_cases hj : j < k
  · rw [if_pos hj] at h; cases h; exact ⟨hj, rfl⟩
  · rw [if_neg hj] at h; cases h
theorem rep_one (k : Nat) : ∀ v ∈ List.replicate k (Value.int .i64 (-1)), v.oneCell' = true := fun v hv => by rw [List.eq_of_mem_replicate hv]; rfl
theorem info_int : (Try.prog.info? 3).map (fun i => (i.zero, i.size, i.bytes)) = some (some (.int .i64 0), 1, 8) := by kernel_rfl
theorem own_list {w : World} {base g n : Nat} {t : TypeId} {xs : List Value} (h : w.ownsRow base t 1 (.slice (some ⟨g, 0, none⟩) n n) n xs) : ∃ L : List Value, Hid (w.heap[g]? = some (.cells L.toArray t (0, 0))) ∧ Hid (L.length = n) := by
  rcases h.2 with ⟨hv, _⟩ | ⟨g', cap, cur, hv, h1, h2, h3, h4, h5, h6⟩
  · simp at hv
  · simp only [Value.slice.injEq, Option.some.injEq, Addr.mk.injEq, and_true, true_and] at hv
    obtain ⟨rfl, rfl⟩ := hv
    exact ⟨cur.toList, h2, by show _ = _; simp; omega⟩
set_option maxRecDepth 100000 in
set_option maxHeartbeats 4000000 in
theorem repeat_any (b : Nat) (w : World) (hb : Whole w b 3 #[.int .i64 (-1)]) :
    Calls Try.prog 23 #[.slice (some ⟨b, 0, none⟩) 1 1, .int .i64 4096] w fun e w' => ∃ g, e = .returned (.slice (some ⟨g, 0, none⟩) 4096 4096) ∧ w.heap.size ≤ g ∧ Row w' g 3 4096 (fun _ => -1) ∧ Below w.heap.size w w' := by
  have HM := Lib.hid (fun w => mul_lit w)
  have c0 : w.cell? ⟨b, 0, none⟩ = some (.int .i64 (-1)) := by rw [hb.read]; rfl
  have hbl := hb.size_lt
  have HC := Lib.hid c0
  obtain ⟨i0, hii, hz0, hz1, hz2⟩ := info_parts info_int
  clear hb c0
  go_enter Try.func23, Try.ntmps23
  go_wp2_with fail
  (with_reducible refine (HM.out _).mono ?_)
  rintro e w1 ⟨rfl, rfl⟩
  have hsi : (Try.prog.info? 3).map (·.size) = some 1 := by rw [hii]; simp [hz1]
  have HSI := Lib.hid hsi
  clear hsi
  go_wp2_with (first
    | (at_make; refine wpList_make_full _ rfl _ _ 22 rfl w.heap.size 3 i0 (.int .i64 0) 1 Try.underlying22 hii hz0 hz1 .i64 .i64 _ _ 4096 rfl rfl rfl rfl (by rw [hz2]; omega) (by unfold maxLen; omega) (Nat.le_refl _) ?_; intro w3 hown hg; obtain ⟨L0, HW, HL⟩ := own_list hown; have HB := Lib.hid ((Below.refl w.heap.size w).grown hg (Nat.le_refl _) (by intro k hk; cases hk)); clear hown hg)
    | (with_reducible refine wpList_copy_splice rfl (.tmp 31) (.tmp 32) 22 22 rfl 3 Try.underlying22 HSI.out (some ⟨w.heap.size, 0, none⟩) (some ⟨b, 0, none⟩) 4096 4096 1 1 rfl rfl w.heap.size 0 L0 3 HW.out (List.replicate 1 (.int .i64 (-1))) ?ca ?cb ?cc (rep_one 1) w.heap.size w HB.out (Nat.le_refl _) ?cd))
  case ca => rfl
  case cb =>
    intro j v hj
    have h1 : j = 0 ∧ v = .int .i64 (-1) := by
      cases j with
      | zero => simp at hj; exact ⟨rfl, hj.symm⟩
      | succ j => simp at hj
    obtain ⟨rfl, rfl⟩ := h1
    exact (HB.out.cell (p := ⟨b, 0, none⟩) hbl).trans HC.out
  case cc => rw [HL.out]; decide
  case cd =>
    intro w4 hw4 hb4
    have hM : Minus (splice L0 0 (List.replicate 1 (.int .i64 (-1)))) 1 := Minus.step (m := 0) (k := 1) ⟨HL.out, fun j hj => by omega⟩ (by omega)
    have hW4 : Hid (∃ L, w4.heap[w.heap.size]? = some (.cells (List.toArray L) 3 (0, 0)) ∧ Minus L 1) := Lib.hid ⟨_, hw4.out, hM⟩
    have HB4 := Lib.hid hb4
    clear hw4 hb4 hM HW HL HB HC
    have hgsz : w.heap.size < w4.heap.size := by obtain ⟨L, h, _⟩ := hW4.out; exact lt_of_block h
    go_wp2_with fail
    go_loopw [8] (fun s wr => ∃ m : Nat, s = .int .i64 m ∧ 1 ≤ m ∧ m ≤ 4096 ∧ Hid (∃ L, wr.heap[w.heap.size]? = some (.cells (List.toArray L) 3 (0, 0)) ∧ Minus L m) ∧ Hid (Below w.heap.size w wr)) (fun s _ => 4096 - (intOf s).toNat)
    case atStart => exact ⟨1, rfl, Nat.le_refl _, by omega, hW4, HB4⟩
    case round =>
      obtain ⟨m, rfl, m1, m2, HWr, HBr⟩ := hrel
      clear hW4 HB4
      by_cases hlt : m < 4096
      · have hlt' : (m : Int) < 4096 := by omega
        have f1 : (m : Int) ≤ 4096 := by omega
        have f2 : ¬ 4096 = m := by omega
        obtain ⟨L, hL, hM⟩ := HWr.out
        have HL := Lib.hid hL
        have HM := Lib.hid hM
        obtain ⟨k, hk⟩ : ∃ k, k = Nat.min m (4096 - m) := ⟨_, rfl⟩
        have hk1 : 1 ≤ k ∧ k ≤ m ∧ m + k ≤ 4096 := by rw [hk]; simp only [Nat.min_def]; split <;> omega
        have HK := Lib.hid hk
        have HDA : Hid ((List.replicate k (Value.int .i64 (-1))).length = Nat.min m (4096 - m)) := by show _ = _; rw [List.length_replicate]; exact hk
        have HDB : Hid (∀ j v, (List.replicate k (Value.int .i64 (-1)))[j]? = some v → wr.cell? ((⟨w.heap.size, 0, none⟩ : Addr).add j) = some v) := by
          intro j v hj
          obtain ⟨h1, rfl⟩ := rep_at hj
          have ha : ((⟨w.heap.size, 0, none⟩ : Addr).add j) = ⟨w.heap.size, j, none⟩ := by unfold Addr.add; split <;> simp_all
          rw [ha, cell_of_row wr _ j _ _ (0, 0) hL]
          simpa using hM.2 j (by omega)
        have HDC : Hid (m + (List.replicate k (Value.int .i64 (-1))).length ≤ L.length) := by show _ ≤ _; rw [List.length_replicate, hM.1]; omega
        have HDR := Lib.hid (HBr.out.drew)
        have sm : IntKind.i64.wrap ((m : Int) + (k : Int)) = (m : Int) + k := IntWalk.i64_in _ (by omega)
        clear hL hM hk HWr
        go_wp2_with fail
        go_region_law (first | (refine step_copy_splice rfl (.tmp 41) (.tmp 44) 22 22 rfl 3 Try.underlying22 HSI.out (some ⟨w.heap.size, m, none⟩) (some ⟨w.heap.size, 0, none⟩) (4096 - m) (4096 - m) m 4096 (by simp [Act.eval, Act.put]) (by simp [Act.eval, Act.put]) w.heap.size m L 3 HL.out (List.replicate k (.int .i64 (-1))) HDA.out (fun _ => ⟨rfl, _, rfl, HDB.out⟩) HDC.out (rep_one k) w.heap.size w HDR.out (Nat.le_refl _) ?_; intro w5 hw5 hb5))
        have HW5 : Hid (∃ L, w5.heap[w.heap.size]? = some (.cells (List.toArray L) 3 (0, 0)) ∧ Minus L (m + k)) := Lib.hid ⟨_, hw5.out, HM.out.step hk1.2.2⟩
        have HB5 := Lib.hid hb5
        clear hw5 hb5 HDA HDB HDC HDR HL HM HK
        go_simp
        clear sm
        go_wp2
        go_roundw
        case rel => exact ⟨m + k, by go_num, by omega, by omega, HW5, HB5⟩
        case measure => simp [intOf]; omega
      · obtain rfl : m = 4096 := by omega
        have HF : Hid (Row wr w.heap.size 3 4096 (fun _ => -1)) := by
          obtain ⟨L, hL, hM⟩ := HWr.out
          exact Lib.hid ⟨L.toArray, hL, by simpa using hM.1, fun i hi => by simpa using hM.2 i hi⟩
        clear HWr
        go_wp2
        go_ret
        exact ⟨_, rfl, Nat.le_refl _, HF.out, HBr.out⟩
/-- What New answers to a permitted capacity. -/
def NewAns (cap : Nat) (w : World) (e : Ending) (w' : World) : Prop :=
  ∃ (H : Nat) (S : Nat → Prop), e = .returned (.tuple #[.pointer (some ⟨H, 0, none⟩), .int .i64 0]) ∧ HeapO w.heap.size H S cap 0 noM w' ∧ Below w.heap.size w w'
theorem posOk_nil (E : Nat → Int × Int) : PosOk E 0 (fun _ => -1) := ⟨fun j hj => by omega, fun i _ => .inl rfl⟩
theorem hp_nil (E : Nat → Int × Int) : Hp E 0 := fun j _ hj => by omega
set_option maxRecDepth 100000 in
set_option maxHeartbeats 2000000 in
theorem hnew_ok (cap : Nat) (w : World) (h1 : 1 ≤ cap) (h2 : cap ≤ 4096) : Calls Try.prog 9 #[.int .i64 cap] w (NewAns cap w) := by
  have HR := Lib.hid (repeat_any w.heap.size (w.alloc (.cells #[.int .i64 (-1)] 3)) (Whole.new w _ _))
  have i1 : ¬ (cap : Int) < 1 := by omega
  have i2 : ¬ 4096 < (cap : Int) := by omega
  go_enter Try.func9, Try.ntmps9
  go_wp2_with fail
  (with_reducible refine HR.out.mono ?_)
  rintro e w1 ⟨g, rfl, hg, hrow, hb⟩
  have hgl := hrow.lt
  have hg' : w.heap.size ≤ g := by simp at hg; omega
  have hb' : Below w.heap.size w w1 := ((Below.refl _ _).alloc (Nat.le_refl _) _).trans (hb.mono (by simp))
  have HF := Lib.hid (fun (o : Obj) (ho : o = .cells #[.int .i64 cap, .slice none 0 0, .slice (some ⟨g, 0, none⟩) 4096 4096] 60) => (show NewAns cap w (.returned (.tuple #[.pointer (some ⟨w1.heap.size, 0, none⟩), .int .i64 0])) (w1.alloc o) from by
    subst ho
    refine ⟨w1.heap.size, foot w1.heap.size g (.slice none 0 0), rfl, ⟨g, .slice none 0 0, fun _ => (0, 0), fun _ => -1, ?_, posOk_nil _, cont_nil _, hp_nil _, fun k hk => hk, ?_⟩, hb'.alloc hb'.size _⟩
    · exact ⟨(MapKept.heap_alloc w1 _).1, Ents.nil _ _ _, hrow.alloc _, ⟨hb'.size, hg'⟩, ⟨by omega, (by intro h; cases h), (by intro h; cases h)⟩, by omega⟩
    · rintro k (rfl | rfl | h)
      · exact ⟨hb'.size, by simp⟩
      · exact ⟨hg', by simp; omega⟩
      · cases h))
  clear hg hrow hb hgl hg' hb'
  go_wp2
  go_ret2
  exact HF.out _ rfl
theorem hnew_bad (x : Int) (w : World) (h : x < 1 ∨ 4096 < x) : Calls Try.prog 9 #[.int .i64 x] w fun e w' => e = .returned (.tuple #[.pointer none, .int .i64 1]) ∧ w = w' := by
  rcases h with h | h
  · go_enter Try.func9, Try.ntmps9
    go_wp2
    go_ret2
    exact ⟨rfl, rfl⟩
  · have h' : ¬ x < 1 := by omega
    go_enter Try.func9, Try.ntmps9
    go_wp2
    go_ret2
    exact ⟨rfl, rfl⟩
end Go.Proofs.Ytlnbjmmbjhglnaa
