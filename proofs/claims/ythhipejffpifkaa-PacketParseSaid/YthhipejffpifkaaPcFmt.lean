/-
  Layer 8: contract of Format.
-/
import Derived.Test.YthhipejffpifkaaPcBuf
import Derived.Test.YthhipejffpifkaaPcValid
namespace Go.Proofs.Ythhipejffpifkaa
open Go.ChangeShapes Go.WideShapes Go.ChangeAt Go.RowKit
set_option linter.unusedVariables false

def fmS (st : ByteArray) (c p l f : Int) : ByteArray := if hdOk st c p l f then ⟨(recL st c.toNat p.toNat l.toNat f.toNat).toArray⟩ else ⟨#[]⟩
def fmE (st : ByteArray) (c p l f : Int) : Int := if hdOk st c p l f then 0 else 1
/-- What Format answers. -/
def FmAns (st : ByteArray) (c p l f : Int) (w : World) (e : Ending) (w' : World) : Prop := e = .returned (.tuple #[.string (fmS st c p l f), .int .i64 (fmE st c p l f)]) ∧ Below w.heap.size w w'
theorem hd_parts {st : ByteArray} {c p l f : Int} (h : hdOk st c p l f = true) : (1 ≤ st.size ∧ st.size ≤ 24) ∧ (0 ≤ c ∧ c ≤ 7) ∧ (0 ≤ p ∧ p ≤ 65535) ∧ (1 ≤ l ∧ l ≤ 4096) ∧ (0 ≤ f ∧ f ≤ 65535) := by
  unfold hdOk at h
  rw [Bool.and_eq_true] at h
  refine ⟨?_, of_decide_eq_true h.2⟩
  cases hn : nam st with
  | none => rw [hn] at h; cases h.1
  | some m => obtain ⟨l, _, h2, _⟩ := nam_some hn; exact (pat_some h2).1
theorem fm_no {st : ByteArray} {c p l f : Int} (h : hdOk st c p l f = false) : fmS st c p l f = ⟨#[]⟩ ∧ fmE st c p l f = 1 := by unfold fmS fmE; rw [h]; exact ⟨rfl, rfl⟩
theorem fm_yes {st : ByteArray} {c p l f : Int} (h : hdOk st c p l f = true) : fmS st c p l f = ⟨(recL st c.toNat p.toNat l.toNat f.toNat).toArray⟩ ∧ fmE st c p l f = 0 := by unfold fmS fmE; rw [h]; exact ⟨rfl, rfl⟩
theorem valid8_is {st : ByteArray} {c p l f : Int} {b : Bool} (h : hdOk st c p l f = b) (w : World) : Calls Try.prog 20 #[.agg #[.string st, .int .i64 c, .int .i64 p, .int .i64 l, .int .i64 f]] w (BoolAns b w) := h ▸ valid8_any st c p l f w
theorem validHeader_is {st : ByteArray} (hs : st.size ≤ 2000000) {c p l f : Int} {b : Bool} (h : hdOk st c p l f = b) (w : World) : Calls Try.prog 21 #[.agg #[.string st, .int .i64 c, .int .i64 p, .int .i64 l, .int .i64 f]] w (BoolAns b w) := h ▸ validHeader_any st c p l f hs w
theorem format_no (st : ByteArray) (c p l f : Int) (h : hdOk st c p l f = false) (w : World) : Calls Try.prog 16 #[.agg #[.string st, .int .i64 c, .int .i64 p, .int .i64 l, .int .i64 f]] w (FmAns st c p l f w) := by
  obtain ⟨e1, e2⟩ := fm_no h
  unfold FmAns
  rw [e1, e2]
  have H := Lib.hid (fun w => valid8_is h w)
  unfold BoolAns at H
  clear e1 e2 h
  go_enter Try.func16, Try.ntmps16
  go_wp2_with fail
  (with_reducible refine (H.out _).mono ?_); rintro e w1 ⟨rfl, hb⟩
  have hb := Lib.hid (((Below.refl _ _).alloc (Nat.le_refl _) _).trans (hb.mono (by simp)))
  go_wp2
  go_ret2
  exact ⟨rfl, hb.out⟩
theorem byte_cell (k : Nat) (h : k < 256) : [Value.int .u8 (k : Int)] = Lib.byteCells [UInt8.ofNat k] := by
  unfold Lib.byteCells
  simp only [List.map_cons, List.map_nil, List.cons.injEq, Value.int.injEq, true_and, and_true]
  rw [UInt8.toNat_ofNat']; omega
/-- The first append: the constant's two bytes and one more, in a new row. -/
theorem BufL.first {W0 w : World} {v : Value} {k : Nat} (hk : k < 256) {W : World} (h : w.ownsRow W.heap.size 5 1 v (2 + 1) ([.int .u8 165, .int .u8 1] ++ [.int .u8 (k : Int)])) (hg : W.grownBy w none) : BufL W W.heap.size ([165, 1] ++ [UInt8.ofNat k]) v w := by
  refine BufL.of ⟨World.ownsRowF_of h, (Below.refl _ W).grown hg (Nat.le_refl _) (fun _ hk => by cases hk), hg.size⟩ rfl rfl ?_
  rw [byte_cell k hk]; rfl
theorem rowAt2 {w : World} {g : Nat} {t : TypeId} {x y : Value} {fz : Nat × Nat} (h : w.heap[g]? = some (.cells #[x, y] t fz)) : ∀ b, some (⟨g, 0, none⟩ : Addr) = some b → ∀ j u, [x, y][j]? = some u → w.cell? (b.add j) = some u := by
  intro b hb j u hj
  cases hb
  have e : ((⟨g, 0, none⟩ : Addr).add j) = ⟨g, j, none⟩ := by unfold Addr.add; split <;> simp_all
  rw [e, cell_of_row w g j _ t fz h]
  simpa using hj
theorem newRow1 (w : World) (x : Value) (t : TypeId) : ∀ j u, [x][j]? = some u → (w.alloc (.cells #[x] t)).cell? ((⟨w.heap.size, 0, none⟩ : Addr).add j) = some u := by
  intro j u hj
  have h : ((⟨w.heap.size, 0, none⟩ : Addr).add j) = ⟨w.heap.size, j, none⟩ := by unfold Addr.add; split <;> simp_all
  rw [h]
  have e := (MapKept.heap_alloc w (.cells #[x] t)).1
  simp only [World.cell?, e]
  simpa using hj
theorem oneU8 (x : Int) : ∀ u ∈ [Value.int .u8 x], u.oneCell' = true := by
  intro u hu; simp at hu; rcases hu with rfl; rfl
set_option maxRecDepth 100000 in
set_option maxHeartbeats 4000000 in
theorem format_ok (st : ByteArray) (c p l f : Nat) (h : hdOk st c p l f = true) (w : World) : Calls Try.prog 16 #[.agg #[.string st, .int .i64 c, .int .i64 p, .int .i64 l, .int .i64 f]] w (FmAns st c p l f w) := by
  obtain ⟨e1, e2⟩ := fm_yes h
  unfold FmAns
  rw [e1, e2]
  simp only [Int.toNat_natCast]
  obtain ⟨⟨s1, s2⟩, ⟨c0, c1⟩, ⟨p0, p1⟩, ⟨l0, l1⟩, ⟨f0, f1⟩⟩ := hd_parts h
  have H := Lib.hid (fun w => valid8_is h w)
  unfold BoolAns at H
  obtain ⟨i0, hii, hz0, hz1, hz2⟩ := info_parts info8
  have HZ := Lib.hid (Whole.fresh w 24 #[.string st, .int .i64 c, .int .i64 p, .int .i64 l, .int .i64 f])
  have q1 : IntKind.u8.wrap (c : Int) = c := by rw [IntKind.wrap_u8']; omega
  have q2 : IntKind.u8.wrap (st.size : Int) = st.size := by rw [IntKind.wrap_u8']; omega
  clear e1 e2 h
  go_enter Try.func16, Try.ntmps16
  go_wp2_with fail
  (with_reducible refine (H.out _).mono ?_); rintro e w1 ⟨rfl, hb⟩
  have hz := HZ.out.carry (hb.block _ HZ.out.size_lt)
  have hlt := hz.size_lt
  have HW := Lib.hid hz
  have d0 := hz.read 0
  have d1 := hz.read 1
  have d2 := hz.read 2
  have d3 := hz.read 3
  have d4 := hz.read 4
  simp at d0 d1 d2 d3 d4
  have HB := Lib.hid (((Below.refl _ _).alloc (Nat.le_refl _) _).trans (hb.mono (by simp)))
  clear hb hz HZ H
  have hcv := Lib.run_convert_bytes_const (P := Try.prog) w1 36 5 #[.int .u8 165, .int .u8 1] 2 2 Try.underlying36 Try.underlying5
  simp at hcv
  obtain ⟨w2, hw2⟩ : ∃ w2, w1.alloc (.cells #[.int .u8 165, .int .u8 1] 5 (2, 3)) = w2 := ⟨_, rfl⟩
  rw [hw2] at hcv
  have HW2 := Lib.hid (show Whole w2 w.heap.size 24 _ from hw2 ▸ HW.out.alloc _)
  have HB2 := Lib.hid (show Below w.heap.size w w2 from hw2 ▸ HB.out.alloc HB.out.size _)
  have hg2 : w2.heap[w1.heap.size]? = some (.cells #[.int .u8 165, .int .u8 1] 5 (2, 3)) := by rw [← hw2]; exact heap_alloc_new _ _
  have hs2 : w2.heap.size = w1.heap.size + 1 := by rw [← hw2]; simp
  have hold := rowAt2 (w := w2.alloc (.cells #[.int .u8 (c : Int)] 5)) ((Below.heap_alloc w2 _ _ (by omega)).trans hg2)
  have HWa := HW2.out.alloc (.cells #[.int .u8 (c : Int)] 5)
  have hla := HWa.size_lt
  have HBa := Lib.hid (HB2.out.alloc HB2.out.size (.cells #[.int .u8 (c : Int)] 5))
  have HG := Lib.hid (fun v3 w3 => BufL.first (v := v3) (w := w3) (W := w2.alloc (.cells #[.int .u8 (c : Int)] 5)) (W0 := w) (show c < 256 by omega))
  have HK := Lib.hid (fun L v w' (h : BufL (w2.alloc (.cells #[.int .u8 (c : Int)] 5)) (w2.alloc (.cells #[.int .u8 (c : Int)] 5)).heap.size L v w') => HWa.carry (h.below.block _ hla))
  have HK1 := Lib.hid (fun L v w' (h : BufL (w2.alloc (.cells #[.int .u8 (c : Int)] 5)) (w2.alloc (.cells #[.int .u8 (c : Int)] 5)).heap.size L v w') => HBa.out.trans (h.below.mono HBa.out.size))
  have HS := Lib.hid hs2
  have d1 := HW2.out.read 1
  simp at d1
  generalize hwa : w2.alloc (.cells #[.int .u8 (c : Int)] 5) = wa at HG HK HK1
  have HE := Lib.hid hwa
  clear hw2 hg2 hs2 HW d0 d2 d3 d4 HB hwa HWa hla HBa
  go_wp2_with (at_builtin; refine wpList_append_grows _ rfl (.tmp 9) (.tmp 13) 36 rfl 5 i0 (.int .u8 0) 1 1 Try.underlying36 hii hz0 hz1 hz2 rfl (by decide) (some ⟨w1.heap.size, 0, none⟩) 2 2 [.int .u8 165, .int .u8 1] rfl (fun h => by cases h) rfl hold ⟨w2.heap.size, 0, none⟩ 1 1 [.int .u8 (c : Int)] rfl rfl (newRow1 _ _ _) (oneU8 _) (by omega) (by unfold maxLen; omega) (by omega) ?_; intro v3 w3 hown3 hg3; rw [HE.out] at hown3 hg3; have B3 := Lib.hid (HG.out _ _ hown3 hg3); have d2 := (HK.out _ _ _ B3.out).read 2; simp only [List.getElem?_toArray, List.getElem?_cons_succ, List.getElem?_cons_zero] at d2; clear hown3 hg3 hold hcv)
  (with_reducible refine (appendNumber_any p (by omega) B3.out (by simp)).mono ?_); rintro e w4 ⟨v4, rfl, hb⟩
  have B4 := Lib.hid hb
  have d3 := (HK.out _ _ _ hb).read 3
  simp only [List.getElem?_toArray, List.getElem?_cons_succ, List.getElem?_cons_zero] at d3
  clear hb
  go_wp2_with fail
  (with_reducible refine (appendNumber_any l (by omega) B4.out (by simp [two])).mono ?_); rintro e w5 ⟨v5, rfl, hb⟩
  have B5 := Lib.hid hb
  have d4 := (HK.out _ _ _ hb).read 4
  simp only [List.getElem?_toArray, List.getElem?_cons_succ, List.getElem?_cons_zero] at d4
  clear hb
  go_wp2_with fail
  (with_reducible refine (appendNumber_any f (by omega) B5.out (by simp [two])).mono ?_); rintro e w6 ⟨v6, rfl, hb⟩
  have B6 := Lib.hid hb
  have d0 := (HK.out _ _ _ hb).read 0
  simp only [List.getElem?_toArray, List.getElem?_cons_zero] at d0
  clear hb
  have h6 := B6.out
  have HL4 := Lib.hid (show ([165, 1] ++ [UInt8.ofNat c] ++ two p ++ two l ++ two f).length = 9 from rfl)
  have HL5 := Lib.hid (show ([165, 1] ++ [UInt8.ofNat c] ++ two p ++ two l ++ two f) ++ [UInt8.ofNat st.size] ++ st.data.toList = bodL st c p l f from rfl)
  generalize ([165, 1] ++ [UInt8.ofNat c] ++ two p ++ two l ++ two f) = L6 at *
  have HX7 := Lib.hid (fun v7 w7 (h : Lib.OwnBuf wa.heap.size 5 v7 (L6.length + 1) (Lib.byteCells L6 ++ [.int .u8 (st.size : Int)]) wa w7) => show BufL wa wa.heap.size (L6 ++ [UInt8.ofNat st.size]) v7 w7 from BufL.of h rfl (by simp) (by rw [Lib.byteCells_append, byte_cell _ (by omega)]))
  have HX8 := Lib.hid (fun L8 v8 w8 (h : Lib.OwnBuf wa.heap.size 5 v8 (List.length L8 + st.size) (Lib.byteCells L8 ++ Lib.strCells st) wa w8) => show BufL wa wa.heap.size (L8 ++ st.data.toList) v8 w8 from BufL.of h rfl (by rw [List.length_append, ← Lib.size_eq]) (by rw [Lib.byteCells_append]; rfl))
  obtain ⟨X, hX⟩ : ∃ X, (⟨(bodL st c p l f).toArray⟩ : ByteArray) = X := ⟨_, rfl⟩
  have hXl : X.data.toList = bodL st c p l f := by rw [← hX]
  have hXs : X.size ≤ 100 := by rw [← hX]; show (bodL st c p l f).length ≤ 100; rw [bodL_len]; omega
  have HC := Lib.hid (fun w => checksum_any X (by omega) w)
  unfold CkAns at HC
  rw [hXl] at HC
  have HXe := Lib.hid hX
  clear hX hXl
  go_wp2_with (first
    | (at_builtin; refine Lib.wpList_append_byte rfl (.tmp 27) (.tmp 32) 36 rfl wa.heap.size 5 i0 Try.underlying36 hii hz0 hz1 hz2 v6 L6.length (Lib.byteCells L6) rfl wa w6 (st.size : Int) h6 rfl (by have := HL4.out; omega) ?_; intro v7 w7 h7; have B7 := HX7.out _ _ h7; have d0 := (HK.out _ _ _ B7).read 0; simp only [List.getElem?_toArray, List.getElem?_cons_zero] at d0; have h7' := B7; clear h7)
    | (at_builtin; refine Lib.wpList_append_text rfl (.tmp 34) (.tmp 36) 36 9 rfl wa.heap.size 5 i0 Try.underlying36 Try.underlying9 hii hz0 hz1 hz2 v7 _ _ rfl wa h7' st rfl (by have := HL4.out; simp only [List.length_append, List.length_cons, List.length_nil]; omega) ?_; intro v8 w8 h8; have B8 := Lib.hid (show BufL wa wa.heap.size (bodL st c p l f) v8 w8 by have := HX8.out _ _ _ h8; rw [HL5.out] at this; exact this); have hst := B8.out.string (by rw [bodL_len]; omega); rw [HXe.out] at hst; clear h8 B7 h7'))
  (with_reducible refine (HC.out _).mono ?_); rintro e w9 ⟨rfl, rfl⟩
  have HA := Lib.hid (fun h => appendNumber_any (ck (bodL st c p l f)) (ck_lt _) B8.out h)
  have HF := Lib.hid (fun v9 w9 (h : BufL wa wa.heap.size (bodL st c p l f ++ two (ck (bodL st c p l f))) v9 w9) => And.intro (h.string (by simp [two])) (HK1.out _ _ _ h))
  have HR := Lib.hid (show (⟨(recL st c p l f).toArray⟩ : ByteArray) = ⟨(bodL st c p l f ++ two (ck (bodL st c p l f))).toArray⟩ from rfl)
  have HN := Lib.hid (bodL_len st c p l f)
  unfold AppAns at HA
  clear hst
  go_wp2_with fail
  (with_reducible refine (HA.out (by rw [HN.out]; omega)).mono ?_); rintro e w9 ⟨v9, rfl, hb⟩
  obtain ⟨hst, hbe⟩ := HF.out _ _ hb
  rw [← HR.out] at hst
  obtain ⟨Y, hY⟩ : ∃ Y, (⟨(recL st c p l f).toArray⟩ : ByteArray) = Y := ⟨_, rfl⟩
  rw [hY] at hst
  have HY := Lib.hid hY
  replace hbe := Lib.hid hbe
  clear hb hY
  go_wp2
  go_ret2
  exact ⟨by rw [HY.out]; rfl, hbe.out⟩
theorem format_any (st : ByteArray) (c p l f : Int) (w : World) : Calls Try.prog 16 #[.agg #[.string st, .int .i64 c, .int .i64 p, .int .i64 l, .int .i64 f]] w (FmAns st c p l f w) := by
  rcases h : hdOk st c p l f with _ | _
  · exact format_no st c p l f h w
  · obtain ⟨_, ⟨c0, _⟩, ⟨p0, _⟩, ⟨l0, _⟩, ⟨f0, _⟩⟩ := hd_parts h
    obtain ⟨c, rfl⟩ := Int.eq_ofNat_of_zero_le c0
    obtain ⟨p, rfl⟩ := Int.eq_ofNat_of_zero_le p0
    obtain ⟨l, rfl⟩ := Int.eq_ofNat_of_zero_le (show 0 ≤ l by omega)
    obtain ⟨f, rfl⟩ := Int.eq_ofNat_of_zero_le f0
    exact format_ok st c p l f h w
end Go.Proofs.Ythhipejffpifkaa

