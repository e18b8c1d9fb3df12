/-
  Layer 7: contracts of the program's isPattern and folded, and of Valid, Fold, Runes. Every string, every world.
-/
import Derived.Test.YtgojbomdkdlclaaLbGr
import Derived.Test.YtgojbomdkdlclaaLbShelf
import Derived.Laws.RangeAny
import Derived.Deep.LoopGhost
import Derived.BigCall
namespace Go.Proofs.Ytgojbomdkdlclaa
open Go.ChangeShapes Go.WideShapes Go.ChangeAt Go.RowKit
set_option linter.unusedVariables false

theorem permitted_is {r : Nat} {b : Bool} (h : r ≤ 2147483647) (e : letN r = b) (w : World) : Calls Try.prog 64 #[.int .i32 r] w fun e w' => e = .returned (.bool b) ∧ w = w' := by
  have := permitted_any r h w
  rw [e] at this
  exact this.mono fun _ _ ⟨a, b⟩ => ⟨a, b.symm⟩
theorem iter_below (w : World) (s : ByteArray) (i : Nat) : Below w.heap.size w (w.iter s i) := (Below.refl _ w).alloc (Nat.le_refl _) _
/-- Whether what is ranged over is a pattern. -/
def PatAns (s : ByteArray) (w : World) (e : Ending) (w' : World) : Prop := e = .returned (.bool (patB s)) ∧ Below w.heap.size w w'
set_option maxHeartbeats 2000000 in
theorem isPattern_loop (s : ByteArray) (w : World) (h0 : 1 ≤ s.size) (h1 : s.size ≤ 24) : Calls Try.prog 58 #[.string s] w (PatAns s w) := by
  have HT := Lib.hid (fun (h : (gr s).all okN = true) => (show patB s = true by unfold patB; rw [h, decide_eq_true ⟨h0, h1⟩]; rfl))
  have HF := Lib.hid (fun (h : (gr s).all okN = false) => (show patB s = false by unfold patB; rw [h, Bool.and_false]))
  have g0 : ¬ (s.size : Int) < 1 := by omega
  have g1 : ¬ (24 : Int) < s.size := by omega
  go_enter Try.func58, Try.ntmps58
  go_wp2
  go_loopg [] s.size (fun g wx => ∃ (i : Nat) (acc : List Nat), s.size ≤ i + g ∧ wx = w.iter s i ∧ Hid (acc ++ grF s g i = gr s) ∧ Hid (acc.all okN = true))
  case atStart => exact ⟨0, [], by omega, rfl, Lib.hid rfl, Lib.hid rfl⟩
  case round =>
    obtain ⟨i, acc, hi, rfl, H1, H2⟩ := hrel
    by_cases hp : i < s.size
    · obtain ⟨g, rfl⟩ : ∃ g, gk = g + 1 := ⟨gk - 1, by omega⟩
      have hnx := fun ty => run_next_any (P := Try.prog) w s i ty hp
      have hw := dec_width s i
      have hle := decode_le s i
      have H3 := H1.out
      rw [grF_next hp] at H3
      have H3 := Lib.hid H3
      clear H1
      generalize hr : (Utf8.decode s i).1 = r at *
      generalize hn : (Utf8.decode s i).2 = n at *
      clear hr hn
      by_cases c : r = 42
      · have e1 : ((r : Int) != 42) = false := by simp; omega
        have HN := Lib.hid (show (acc ++ [r]).all okN = true by rw [List.all_append, H2.out]; subst c; rfl)
        have HE := Lib.hid (show (acc ++ [r]) ++ grF s g (i + n) = gr s by rw [List.append_assoc]; exact H3.out)
        clear c H3 H2
        go_wp2
        go_roundg g
        case measure => omega
        case rel => exact ⟨i + n, acc ++ [r], by omega, rfl, HE, HN⟩
      · have e1 : ((r : Int) != 42) = true := by simp; omega
        by_cases d : letN r = true
        · have HN := Lib.hid (show (acc ++ [r]).all okN = true by rw [List.all_append, H2.out]; simp [okN, d])
          have HE := Lib.hid (show (acc ++ [r]) ++ grF s g (i + n) = gr s by rw [List.append_assoc]; exact H3.out)
          have HP := Lib.hid (fun w => permitted_is hle d w)
          clear c d H3 H2
          go_wp2_with fail
          (with_reducible refine (HP.out _).mono ?_); rintro e w' ⟨rfl, rfl⟩
          go_wp2
          go_roundg g
          case measure => omega
          case rel => exact ⟨i + n, acc ++ [r], by omega, rfl, HE, HN⟩
        · have d' : letN r = false := by simpa using d
          have HR := Lib.hid (HF.out (by rw [← H3.out, List.all_append, List.all_cons]; simp [okN, d', c]))
          have HP := Lib.hid (fun w => permitted_is hle d' w)
          have HB := Lib.hid (iter_below w s (i + n))
          clear c d d' H3 H2
          go_wp2_with fail
          (with_reducible refine (HP.out _).mono ?_); rintro e w' ⟨rfl, rfl⟩
          go_wp2
          go_ret
          exact ⟨ret_bool HR.out.symm, HB.out⟩
    · have hnx := fun ty => run_next_end (P := Try.prog) w s i ty hp
      have HR := Lib.hid (HT.out (by rw [← H1.out, grF_end hp, List.append_nil]; exact H2.out))
      have HB := Lib.hid (iter_below w s i)
      clear H1 H2
      go_wp2
      go_ret
      exact ⟨ret_bool HR.out.symm, HB.out⟩
theorem isPattern_any (s : ByteArray) (w : World) : Calls Try.prog 58 #[.string s] w (PatAns s w) := by
  by_cases h0 : s.size < 1
  · have e : patB s = false := by unfold patB; rw [decide_eq_false (by omega)]; rfl
    have g0 : (s.size : Int) < 1 := by omega
    unfold PatAns; rw [e]; clear e
    go_enter Try.func58, Try.ntmps58
    go_wp2
    go_ret
    exact ⟨rfl, Below.refl _ _⟩
  · by_cases h1 : 24 < s.size
    · have e : patB s = false := by unfold patB; rw [decide_eq_false (by omega)]; rfl
      have g0 : ¬ (s.size : Int) < 1 := by omega
      have g1 : (24 : Int) < s.size := by omega
      unfold PatAns; rw [e]; clear e
      go_enter Try.func58, Try.ntmps58
      go_wp2
      go_ret
      exact ⟨rfl, Below.refl _ _⟩
    · exact isPattern_loop s w (by omega) (by omega)
/-- Whether s is a name. -/
theorem valid_any (s : ByteArray) (w : World) : Calls Try.prog 52 #[.string s] w fun e w' => e = .returned (.bool (nam s).isSome) ∧ Below w.heap.size w w' := by
  rw [← valid_iff]
  have HP := Lib.hid (fun w => isPattern_any s w)
  unfold PatAns at HP
  by_cases c : patB s = true
  · rw [c] at HP ⊢
    clear c
    go_enter Try.func52, Try.ntmps52
    go_wp2_with fail
    (with_reducible refine (HP.out _).mono ?_); rintro e w1 ⟨rfl, hb⟩
    have hb := Lib.hid hb
    go_wp2_with fail
    (with_reducible refine (strings_ContainsRune_ascii s 42 _ (by omega) (by omega)).mono ?_); rintro e w2 ⟨rfl, rfl⟩
    go_wp2
    go_ret
    exact ⟨rfl, hb.out⟩
  · have c : patB s = false := by simpa using c
    rw [c] at HP ⊢
    clear c
    go_enter Try.func52, Try.ntmps52
    go_wp2_with fail
    (with_reducible refine (HP.out _).mono ?_); rintro e w1 ⟨rfl, hb⟩
    go_wp2
    go_ret
    exact ⟨rfl, hb⟩
end Go.Proofs.Ytgojbomdkdlclaa

