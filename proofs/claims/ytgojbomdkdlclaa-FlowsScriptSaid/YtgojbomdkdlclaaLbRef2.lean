/-
  Layer 7: contracts of the reference's folded, ValidName, Fold, Runes, Compare. Every string of up to 2000000 bytes.
-/
import Derived.Test.YtgojbomdkdlclaaLbRef
import Derived.Test.YtgojbomdkdlclaaLbProg2
import Derived.Laws.OwnMore
namespace Go.Proofs.Ytgojbomdkdlclaa
open Go.ChangeShapes Go.WideShapes Go.ChangeAt Go.RowKit
set_option linter.unusedVariables false

/-- The first k runes folded, the others as they were. -/
def mix (l : List Nat) (k : Nat) : List Nat := (l.take k).map foldN ++ l.drop k
theorem mix_zero (l : List Nat) : mix l 0 = l := by simp [mix]
theorem mix_all (l : List Nat) : mix l l.length = l.map foldN := by simp [mix]
theorem mix_len (l : List Nat) (k : Nat) : (mix l k).length = l.length := by simp [mix]; omega
theorem mix_at {l : List Nat} {k : Nat} (h : k < l.length) : (rc (mix l k))[k]? = some (.int .i64 (l[k] : Int)) := by
  unfold rc mix
  rw [List.getElem?_map, List.getElem?_append_right (by simp; omega)]
  simp only [List.length_map, List.length_take]
  rw [show k - min k l.length = 0 by omega, List.getElem?_drop, Nat.add_zero, List.getElem?_eq_getElem h]; rfl
theorem mix_set {l : List Nat} {k : Nat} (h : k < l.length) : (rc (mix l k)).set k (.int .i64 (foldN l[k] : Nat)) = rc (mix l (k + 1)) := by
  unfold rc mix
  rw [List.map_append, List.set_append_right _ _ (by simp; omega)]
  simp only [List.length_map, List.length_take]
  rw [show k - min k l.length = 0 by omega, List.drop_eq_getElem_cons h, List.map_cons, List.set_cons_zero, List.take_succ_eq_append_getElem h]
  simp only [List.map_append, List.map_cons, List.map_nil, List.append_assoc, List.singleton_append]
theorem own_form {w : World} {base : Nat} {e : TypeId} {size : Nat} {v : Value} {n : Nat} {xs : List Value} (h : w.ownsRow base e size v n xs) (hn : 0 < n) :
    ∃ g cap, v = .slice (some ⟨g, 0, none⟩) n cap ∧ base ≤ g ∧ g < w.heap.size := by
  rcases h.2 with ⟨_, h0⟩ | ⟨g, cap, cur, hv, hb, hg, _⟩
  · omega
  · exact ⟨g, cap, hv, hb, lt_of_block hg⟩
/-- What folded answers. -/
def FdAns (s : ByteArray) (w : World) (e : Ending) (w' : World) : Prop :=
  Below w.heap.size w w' ∧ match nam s with
  | none => e = .returned (.tuple #[.slice none 0 0, .bool false])
  | some m => ∃ v, e = .returned (.tuple #[v, .bool true]) ∧ w'.ownsRow w.heap.size 3 1 v m.length (rc m)
theorem FdAns.no {s : ByteArray} {w w' : World} (h : nam s = none) (hb : Below w.heap.size w w') : FdAns s w (.returned (.tuple #[.slice none 0 0, .bool false])) w' := by
  refine ⟨hb, ?_⟩; rw [h]
theorem FdAns.yes {s : ByteArray} {w w' : World} {v : Value} {m : List Nat} (h : nam s = some m) (hb : Below w.heap.size w w') (hr : w'.ownsRow w.heap.size 3 1 v m.length (rc m)) : FdAns s w (.returned (.tuple #[v, .bool true])) w' := by
  refine ⟨hb, ?_⟩; rw [h]; exact ⟨v, rfl, hr⟩
theorem runs_no {s : ByteArray} (hs : s.size ≤ 2000000) (h : rs s = none) (w : World) : Calls Try.prog 55 #[.string s] w fun e w' => e = .returned (.tuple #[.slice none 0 0, .bool false]) ∧ Below w.heap.size w w' :=
  (runes_any s w hs).mono fun _ _ ⟨hb, k⟩ => by rw [h] at k; exact ⟨k, hb⟩
/-- Runes in a slice of the call's own. -/
def Got (w : World) (l : List Nat) (e : Ending) (w' : World) : Prop := ∃ A c, e = .returned (.tuple #[.slice A l.length c, .bool true]) ∧ w'.ownsRow w.heap.size 3 1 (.slice A l.length c) l.length (rc l) ∧ Below w.heap.size w w'
theorem shape_of {w : World} {base : Nat} {t : TypeId} {s n : Nat} {v : Value} {xs : List Value} (h : w.ownsRow base t s v n xs) : ∃ A c, v = .slice A n c := by
  rcases h.2 with ⟨hv, rfl⟩ | ⟨g, cap, cur, hv, _⟩
  · exact ⟨none, 0, hv⟩
  · exact ⟨_, _, hv⟩
theorem runs_yes {s : ByteArray} {l : List Nat} (hs : s.size ≤ 2000000) (h : rs s = some l) (w : World) : Calls Try.prog 55 #[.string s] w (Got w l) :=
  (runes_any s w hs).mono fun _ _ ⟨hb, k⟩ => by
    rw [h] at k
    obtain ⟨v, rfl, ho⟩ := k
    obtain ⟨A, c, rfl⟩ := shape_of ho
    exact ⟨A, c, rfl, ho, hb⟩
theorem letter_is {r : Nat} {b : Bool} (h : r ≤ 2147483647) (e : letN r = b) (w : World) : Calls Try.prog 56 #[.int .i64 r] w fun e w' => e = .returned (.bool b) ∧ w = w' := by
  have := letter_any r h w
  rw [e] at this
  exact this.mono fun _ _ ⟨a, b⟩ => ⟨a, b.symm⟩
theorem fold_is {r : Nat} (h : r ≤ 1114111) (w : World) : Calls Try.prog 57 #[.int .i64 r] w fun e w' => e = .returned (.int .i64 (foldN r : Nat)) ∧ w = w' :=
  (fold_any r h w).mono fun _ _ ⟨a, b⟩ => ⟨a, b.symm⟩
theorem nam_of {s : ByteArray} {l : List Nat} (h : rs s = some l) (h0 : 1 ≤ s.size) (h1 : s.size ≤ 24) : nam s = if l.all letN then some (l.map foldN) else none := by
  unfold nam; rw [if_pos ⟨h0, h1⟩, h]
theorem nam_size_no {s : ByteArray} (h : ¬ (1 ≤ s.size ∧ s.size ≤ 24)) : nam s = none := by unfold nam; rw [if_neg h]
theorem nam_rs_no {s : ByteArray} (h : rs s = none) : nam s = none := by unfold nam; rw [h]; split <;> rfl
set_option maxHeartbeats 4000000 in
theorem refFolded_loop (s : ByteArray) (w : World) (l : List Nat) (h : rs s = some l) (h0 : 1 ≤ s.size) (h1 : s.size ≤ 24) : Calls Try.prog 48 #[.string s] w (FdAns s w) := by
  have hn := nam_of h h0 h1
  have hsc := (rs_bytes h).1
  have hll := rs_size h
  have H1 := Lib.hid (fun w => runs_yes (by omega) h w)
  have HN := Lib.hid hn
  have HS := Lib.hid hsc
  have g0 : ¬ (s.size : Int) < 1 := by omega
  have g1 : ¬ (24 : Int) < s.size := by omega
  clear hn hsc h
  go_enter Try.func48, Try.ntmps48
  go_wp2_with fail
  (with_reducible refine (H1.out _).mono ?_); rintro e w1 ⟨A, c, rfl, ho, hb⟩
  have hb1 := Lib.hid hb
  have ho1 := Lib.hid ho
  clear ho hb H1
  go_wp2
  go_loopw [6] (fun s6 wr => ∃ k : Nat, k ≤ l.length ∧ s6 = .int .i64 k ∧ Hid (wr.ownsRow w.heap.size 3 1 (.slice A l.length c) l.length (rc (mix l k))) ∧ Hid (Below w.heap.size w wr) ∧ Hid ((l.take k).all letN = true)) (fun s6 _ => l.length - (intOf s6).toNat)
  case atStart => exact ⟨0, by omega, rfl, Lib.hid (by rw [mix_zero]; exact ho1.out), hb1, Lib.hid rfl⟩
  case round =>
    obtain ⟨k, hk, rfl, HO, HB, HA⟩ := hrel
    clear ho1 hb1
    by_cases hlt : k < l.length
    · have ho := HO.out
      obtain ⟨gb, cap, hv, hge, hgl⟩ := own_form ho (by omega)
      simp only [Value.slice.injEq] at hv
      obtain ⟨rfl, _, rfl⟩ := hv
      have hcell := ho.cellAt k (by omega)
      rw [mix_at hlt] at hcell
      have hfz := ho.frozenAt k
      have hst := ho.stored k (.int .i64 (foldN l[k] : Nat))
      rw [mix_set hlt] at hst
      have HST := Lib.hid hst.1
      have HB2 := Lib.hid (show Below w.heap.size w (wr.setCell ⟨gb, k, none⟩ (.int .i64 (foldN l[k] : Nat))) from HB.out.setCell (p := ⟨gb, k, none⟩) hge _)
      have hr : l[k] ≤ 1114111 := by have := HS.out l[k] (List.getElem_mem _); unfold Scal at this; omega
      have HT := Lib.hid (show (l.take (k + 1)).all letN = letN l[k] by rw [List.take_succ_eq_append_getElem hlt, List.all_append, HA.out]; simp)
      have HNo := Lib.hid (fun (d : letN l[k] = false) => show nam s = none by
        rw [HN.out, if_neg]
        rw [Bool.not_eq_true, List.all_eq_false]
        exact ⟨l[k], List.getElem_mem _, by simp [d]⟩)
      generalize l[k] = r at *
      clear HO ho hst HA
      by_cases d : letN r = true
      · have HL := Lib.hid (fun w => letter_is (by omega) d w)
        have HF := Lib.hid (fun w => fold_is hr w)
        have HT' := Lib.hid (HT.out.trans d)
        have hf0 := foldN_le r
        clear d HT HNo
        generalize foldN r = q at *
        go_wp2_with fail
        (with_reducible refine (HL.out _).mono ?_); rintro e w' ⟨rfl, rfl⟩
        go_wp2_with fail
        (with_reducible refine (HF.out _).mono ?_); rintro e w' ⟨rfl, rfl⟩
        go_wp2
        go_roundw
        case rel => exact ⟨k + 1, by omega, by go_num, HST, HB2, HT'⟩
        case measure => simp [intOf]; omega
      · have d : letN r = false := by simpa using d
        have HL := Lib.hid (fun w => letter_is (by omega) d w)
        have HF := Lib.hid (FdAns.no (HNo.out d) HB.out)
        clear d HT HNo HST HB2
        go_wp2_with fail
        (with_reducible refine (HL.out _).mono ?_); rintro e w' ⟨rfl, rfl⟩
        go_wp2
        go_ret2
        exact HF.out
    · obtain rfl : k = l.length := by omega
      have HF := Lib.hid (FdAns.yes (s := s) (m := l.map foldN) (by rw [HN.out, if_pos]; have := HA.out; rwa [List.take_length] at this) HB.out (by have := HO.out; rw [mix_all] at this; rw [List.length_map]; exact this))
      clear HO HB HA
      go_wp2
      go_ret2
      exact HF.out
theorem refFolded_any (s : ByteArray) (w : World) (hs : s.size ≤ 2000000) : Calls Try.prog 48 #[.string s] w (FdAns s w) := by
  cases h : rs s with
  | none =>
    have H1 := Lib.hid (fun w => runs_no hs h w)
    have HN := Lib.hid (nam_rs_no h)
    clear h
    go_enter Try.func48, Try.ntmps48
    go_wp2_with fail
    (with_reducible refine (H1.out _).mono ?_); rintro e w1 ⟨rfl, hb⟩
    have HF := Lib.hid (FdAns.no HN.out hb)
    clear hb
    go_wp2
    go_ret2
    exact HF.out
  | some l =>
    by_cases hz : 1 ≤ s.size ∧ s.size ≤ 24
    · exact refFolded_loop s w l h hz.1 hz.2
    · have H1 := Lib.hid (fun w => runs_yes hs h w)
      have HN := Lib.hid (nam_size_no hz)
      clear h
      rcases (by omega : s.size < 1 ∨ (1 ≤ s.size ∧ 24 < s.size)) with g0 | ⟨g0, g1⟩
      · have g0' : (s.size : Int) < 1 := by omega
        clear hz
        go_enter Try.func48, Try.ntmps48
        go_wp2_with fail
        (with_reducible refine (H1.out _).mono ?_); rintro e w1 ⟨A, c, rfl, ho, hb⟩
        have HF := Lib.hid (FdAns.no HN.out hb)
        clear hb ho
        go_wp2
        go_ret2
        exact HF.out
      · have g0' : ¬ (s.size : Int) < 1 := by omega
        have g1' : (24 : Int) < s.size := by omega
        clear hz
        go_enter Try.func48, Try.ntmps48
        go_wp2_with fail
        (with_reducible refine (H1.out _).mono ?_); rintro e w1 ⟨A, c, rfl, ho, hb⟩
        have HF := Lib.hid (FdAns.no HN.out hb)
        clear hb ho
        go_wp2
        go_ret2
        exact HF.out
/-- The same as two contracts. -/
theorem fd_no {s : ByteArray} (hs : s.size ≤ 2000000) (h : nam s = none) (w : World) : Calls Try.prog 48 #[.string s] w fun e w' => e = .returned (.tuple #[.slice none 0 0, .bool false]) ∧ Below w.heap.size w w' :=
  (refFolded_any s w hs).mono fun _ _ ⟨hb, k⟩ => by rw [h] at k; exact ⟨k, hb⟩
theorem fd_yes {s : ByteArray} {m : List Nat} (hs : s.size ≤ 2000000) (h : nam s = some m) (w : World) : Calls Try.prog 48 #[.string s] w (Got w m) :=
  (refFolded_any s w hs).mono fun _ _ ⟨hb, k⟩ => by
    rw [h] at k
    obtain ⟨v, rfl, ho⟩ := k
    obtain ⟨A, c, rfl⟩ := shape_of ho
    exact ⟨A, c, rfl, ho, hb⟩
theorem validName_any (s : ByteArray) (w : World) (hs : s.size ≤ 2000000) : Calls Try.prog 21 #[.string s] w fun e w' => e = .returned (.bool (nam s).isSome) ∧ Below w.heap.size w w' := by
  cases h : nam s with
  | none =>
    have H1 := Lib.hid (fun w => fd_no hs h w)
    clear h
    go_enter Try.func21, Try.ntmps21
    go_wp2_with fail
    (with_reducible refine (H1.out _).mono ?_); rintro e w1 ⟨rfl, hb⟩
    go_wp2
    go_ret
    exact ⟨rfl, hb⟩
  | some m =>
    have H1 := Lib.hid (fun w => fd_yes hs h w)
    clear h
    go_enter Try.func21, Try.ntmps21
    go_wp2_with fail
    (with_reducible refine (H1.out _).mono ?_); rintro e w1 ⟨A, c, rfl, ho, hb⟩
    clear ho
    go_wp2
    go_ret
    exact ⟨rfl, hb⟩
end Go.Proofs.Ytgojbomdkdlclaa

