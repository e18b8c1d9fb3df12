/-
  Layer 7: contracts of the program's folded, Fold, Runes, Compare. Every string (folded: up to 1000 bytes), every world.
-/
import Derived.Test.YtgojbomdkdlclaaLbProg
namespace Go.Proofs.Ytgojbomdkdlclaa
open Go.ChangeShapes Go.WideShapes Go.ChangeAt Go.RowKit
set_option linter.unusedVariables false

theorem dec_max (s : ByteArray) (i : Nat) : (Utf8.decode s i).1 ≤ 1114111 := by
  have b0 := bt_lt s i; have b1 := bt_lt s (i + 1); have b2 := bt_lt s (i + 2); have b3 := bt_lt s (i + 3)
  have ip : ∀ {p : Prop} [Decidable p] {a b : Nat × Nat}, (p → a.1 ≤ 1114111) → (b.1 ≤ 1114111) → (if p then a else b).1 ≤ 1114111 := by
    intro p _ a b ha hb; split
    · rename_i h; exact ha h
    · exact hb
  have k (x : Nat) (n : Nat) (h : x ≤ 1114111) : (x, n).1 ≤ 1114111 := h
  have e : 65533 ≤ 1114111 := by omega
  rw [dec_eq]
  refine ip (fun h => k _ _ (by omega)) (ip (fun _ => ip (fun h => k _ _ (by omega)) (k _ _ e)) (ip (fun _ => ip (fun h => k _ _ (by omega)) (k _ _ e)) (ip (fun _ => ip (fun h => k _ _ (by omega)) (k _ _ e)) (k _ _ e))))
theorem foldedRune_is (r : Nat) (h : r ≤ 1114111) (w : World) : Calls Try.prog 61 #[.int .i32 r] w fun e w' => e = .returned (.int .i32 (foldN r : Nat)) ∧ w = w' :=
  (foldedRune_any r h w).mono fun _ _ ⟨a, b⟩ => ⟨a, b.symm⟩
theorem enc_len (r : Nat) : (enc r).length ≤ 4 := by
  unfold enc Lib.encodeRune; rw [List.length_map]; exact (Lib.encodeRuneZ_length _).2
theorem encs_one (r : Nat) : encs [r] = enc r := by simp [encs]
/-- The loop of folded: the builder, the iterator, what has been written. -/
def FoldRel (s : ByteArray) (w wr : World) (i f : Nat) (acc : List Nat) : Prop :=
  Lib.IsBuilderF 90 5 w.heap.size w.heap.size (Lib.byteCells (encs (acc.map foldN))) wr ∧ wr.heap[w.heap.size + 1]? = some (.stringIter s i) ∧ Below w.heap.size w wr ∧
  acc ++ grF s f i = gr s ∧ s.size ≤ i + f ∧ (encs (acc.map foldN)).length ≤ 4 * i
def FoldsAns (s : ByteArray) (w : World) (e : Ending) (w' : World) : Prop := e = .returned (.string ⟨(fldB s).toArray⟩) ∧ Below w.heap.size w w'
set_option maxHeartbeats 4000000 in
set_option maxRecDepth 1000000 in
theorem folded_any (s : ByteArray) (w : World) (hs : s.size ≤ 1000) : Calls Try.prog 53 #[.string s] w (FoldsAns s w) := by
  go_enter Try.func53, Try.ntmps53
  go_wp2
  go_loopw [] (fun wr => ∃ (i f : Nat) (acc : List Nat), Hid (FoldRel s w wr i f acc)) (fun wr => s.size - wr.iterPos (w.heap.size + 1))
  case atStart =>
    refine ⟨0, s.size, [], Lib.hid (show FoldRel s w _ 0 s.size [] from ⟨(Lib.IsBuilderF.of (Lib.fresh_isBuilder 90 5 w)).alloc _, ?_, ((Below.refl _ w).alloc (Nat.le_refl _) _).alloc (by simp) _, rfl, by omega, by simp [encs]⟩)⟩
    have := World.iter_heap (w.alloc (.cells #[.pointer none, .slice none 0 0] 90)) s 0
    simpa using this
  case round =>
    obtain ⟨i, f, acc, HR⟩ := hrel
    obtain ⟨hI, hit, hbw, hacc, hfu, hal⟩ := HR.out
    have hsz : w.heap.size + 1 < wr.heap.size := (Array.getElem?_eq_some_iff.1 hit).1
    by_cases hp : i < s.size
    · have hnx : ∀ ty, (Instr.next (.pointer (some ⟨w.heap.size + 1, 0, none⟩)) true ty).run Try.prog wr = _ := fun ty => Lib.run_next_any_at wr (w.heap.size + 1) s i ty hit hp
      have hwd := (dec_width s i).1
      have hd1 := dec_max s i
      have hd2 := decode_le s i
      have hI2 := Lib.hid (hI.iterAt hit (i + (Utf8.decode s i).2))
      have hit2 := Lib.hid (Lib.iterAt_heap wr (w.heap.size + 1) s i (i + (Utf8.decode s i).2) hit)
      have hbw2 := Lib.hid (Lib.below_iterAt hbw (k := w.heap.size + 1) (by omega) s (i + (Utf8.decode s i).2))
      have hsz2 : w.heap.size ≤ (wr.iterAt (w.heap.size + 1) s (i + (Utf8.decode s i).2)).heap.size := by rw [Lib.iterAt_size]; omega
      obtain ⟨g, rfl⟩ : ∃ g, f = g + 1 := ⟨f - 1, by omega⟩
      rw [grF_next hp] at hacc
      have hacc := Lib.hid hacc
      have hal := Lib.hid hal
      have HC := Lib.hid (foldedRune_is (Utf8.decode s i).1 hd1)
      have hf0 := foldN_le (Utf8.decode s i).1
      have HM := Lib.hid (show wr.iterPos (w.heap.size + 1) = i by simp only [World.iterPos, hit])
      clear HR hI hbw hit
      go_wp2_with fail
      (with_reducible refine (HC.out _).mono ?_); rintro e w1 ⟨rfl, rfl⟩
      go_wp2_with fail
      (with_reducible refine (Builder_WriteRune_k w.heap.size w.heap.size _ _ (by omega) (by omega) _ hI2.out (by have := hal.out; rw [Lib.byteCells_length]; omega) hsz2).mono ?_)
      rintro e W1 ⟨rfl, h1, b1, k1⟩
      have hr : FoldRel s w W1 (i + (Utf8.decode s i).2) g (acc ++ [(Utf8.decode s i).1]) := by
        have e : encs ((acc ++ [(Utf8.decode s i).1]).map foldN) = encs (acc.map foldN) ++ enc (foldN (Utf8.decode s i).1) := by rw [List.map_append, encs_app, List.map_cons, List.map_nil, encs_one]
        refine ⟨?_, k1.iter hit2.out (by omega), hbw2.out.trans b1, ?_, by omega, ?_⟩
        · rw [e, Lib.byteCells_append]
          have e2 : Lib.byteCells (enc (foldN (Utf8.decode s i).1)) = Lib.runeCells (foldN (Utf8.decode s i).1 : Nat) := Lib.byteCells_encodeRune _
          rw [e2]; exact Or.inr h1
        · rw [List.append_assoc]; exact hacc.out
        · rw [e, List.length_append]
          have := enc_len (foldN (Utf8.decode s i).1)
          have := hal.out
          omega
      have HI2 := Lib.hid (show W1.iterPos (w.heap.size + 1) = i + (Utf8.decode s i).2 by simp only [World.iterPos, hr.2.1])
      have hr := Lib.hid hr
      clear h1 b1 k1 hI2 hit2 hbw2 hsz2 hacc hal HC
      go_wp2
      go_roundw
      case rel => exact ⟨_, _, _, hr⟩
      case measure =>
        rw [HI2.out, HM.out]; omega
    · have hnx : ∀ ty, (Instr.next (.pointer (some ⟨w.heap.size + 1, 0, none⟩)) true ty).run Try.prog wr = _ := fun ty => Lib.run_next_end_at wr (w.heap.size + 1) s i ty hit hp
      have hz : w.heap.size ≤ wr.heap.size := by omega
      have HF := Lib.hid (show FoldRel s w wr i f acc from HR.out)
      clear HR
      have hI := Lib.hid hI
      have hbw := Lib.hid hbw
      have HE : Hid (encs (acc.map foldN) = fldB s) := Lib.hid (by unfold fldB; rw [← hacc, grF_end hp, List.append_nil])
      clear hacc hit hal
      go_wp2_with fail
      (with_reducible refine (Builder_String_any_k w.heap.size w.heap.size (encs (acc.map foldN)) _ hI.out hz).mono ?_)
      rintro e W1 ⟨rfl, _, b1, _⟩
      have HB := Lib.hid (hbw.out.trans b1)
      clear b1 hbw hI
      rw [HE.out]
      go_wp2
      go_ret
      exact ⟨rfl, HB.out⟩
/-- What Fold answers. -/
def fS (s : ByteArray) : ByteArray := match nam s with | some m => ⟨(encs m).toArray⟩ | none => ⟨#[]⟩
def fE (s : ByteArray) : Int := match nam s with | some _ => 0 | none => 1
def FoldAns (s : ByteArray) (w : World) (e : Ending) (w' : World) : Prop := e = .returned (.tuple #[.string (fS s), .int .i64 (fE s)]) ∧ Below w.heap.size w w'
theorem nam_size {s : ByteArray} {m : List Nat} (h : nam s = some m) : s.size ≤ 24 ∧ fldB s = encs m ∧ gr s = gr s ∧ m.length = (gr s).length := by
  obtain ⟨l, rfl, h1, _⟩ := nam_some h
  obtain ⟨h2, _, _, _, _, h3, _⟩ := pat_some h1
  exact ⟨h2.2, by unfold fldB; rw [h3], rfl, by rw [h3]; simp⟩
theorem valid_is {s : ByteArray} {b : Bool} (h : (nam s).isSome = b) (w : World) : Calls Try.prog 52 #[.string s] w fun e w' => e = .returned (.bool b) ∧ Below w.heap.size w w' := by
  have := valid_any s w; rw [h] at this; exact this
theorem fold_name (s : ByteArray) (w : World) : Calls Try.prog 42 #[.string s] w (FoldAns s w) := by
  cases h : nam s with
  | none =>
    have H1 := Lib.hid (fun w => valid_is (s := s) (b := false) (by rw [h]; rfl) w)
    unfold FoldAns fS fE; rw [h]; clear h
    go_enter Try.func42, Try.ntmps42
    go_wp2_with fail
    (with_reducible refine (H1.out _).mono ?_); rintro e w1 ⟨rfl, hb⟩
    go_wp2
    go_ret2
    exact ⟨rfl, hb⟩
  | some m =>
    have H1 := Lib.hid (fun w => valid_is (s := s) (b := true) (by rw [h]; rfl) w)
    obtain ⟨hs, he, _⟩ := nam_size h
    have H2 := Lib.hid (fun w => folded_any s w (by omega))
    unfold FoldsAns at H2
    rw [he] at H2
    unfold FoldAns fS fE; rw [h]; clear h he
    go_enter Try.func42, Try.ntmps42
    go_wp2_with fail
    (with_reducible refine (H1.out _).mono ?_); rintro e w1 ⟨rfl, hb⟩
    have hb := Lib.hid hb
    go_wp2_with fail
    (with_reducible refine (H2.out _).mono ?_); rintro e w2 ⟨rfl, hb2⟩
    have HB := Lib.hid (hb.out.trans (hb2.mono hb.out.size))
    clear hb2 hb
    go_wp2
    go_ret2
    exact ⟨rfl, HB.out⟩
/-- What Runes answers. -/
def rnB (s : ByteArray) : Int := match nam s with | some m => m.length | none => -1
def RunesAns (s : ByteArray) (w : World) (e : Ending) (w' : World) : Prop := e = .returned (.int .i64 (rnB s)) ∧ Below w.heap.size w w'
/-- The order of names, of what is no name too. -/
def cmpO : Option (List Nat) → Option (List Nat) → Int
  | none, none => 0
  | none, some _ => -1
  | some _, none => 1
  | some x, some y => cmpR x y
theorem nam_ne {s : ByteArray} {m : List Nat} (h : nam s = some m) : (∀ r ∈ m, Scal r) ∧ encs m ≠ [] := by
  obtain ⟨l, rfl, h1, _⟩ := nam_some h
  obtain ⟨h2, _, _, h4, h5, _, _⟩ := pat_some h1
  have h6 : ∀ r ∈ l.map foldN, Scal r := by
    intro r hr
    obtain ⟨q, hq, rfl⟩ := List.mem_map.1 hr
    exact scal_fold (h4 q hq)
  refine ⟨h6, ?_⟩
  cases l with
  | nil =>
    rw [show encs [] = [] from rfl] at h5
    have : s.size = 0 := by rw [Lib.size_eq, h5]; rfl
    omega
  | cons a l =>
    rw [List.map_cons, encs_cons]
    have := enc_ne (h6 (foldN a) (by simp))
    simp [this]
theorem cmp_names (a b : ByteArray) : Lib.compareBytes (fS a).data.toList (fS b).data.toList = cmpO (nam a) (nam b) := by
  unfold fS
  cases ha : nam a with
  | none =>
    cases hb : nam b with
    | none => rfl
    | some y =>
      obtain ⟨_, h⟩ := nam_ne hb
      show Lib.compareBytes [] (encs y) = -1
      cases e : encs y with
      | nil => exact absurd e h
      | cons _ _ => rfl
  | some x =>
    obtain ⟨hx, h⟩ := nam_ne ha
    cases hb : nam b with
    | none =>
      show Lib.compareBytes (encs x) [] = 1
      cases e : encs x with
      | nil => exact absurd e h
      | cons _ _ => rfl
    | some y => exact cmp_encs x y hx (nam_ne hb).1
def CmpAns (a b : ByteArray) (w : World) (e : Ending) (w' : World) : Prop := e = .returned (.int .i64 (cmpO (nam a) (nam b))) ∧ Below w.heap.size w w'
end Go.Proofs.Ytgojbomdkdlclaa

