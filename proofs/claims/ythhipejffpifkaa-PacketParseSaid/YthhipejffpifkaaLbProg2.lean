/-
  Layer 7: contracts of the program's folded, Fold, Runes, Compare. Every string (folded: up to 1000 bytes), every world.
-/
import Derived.Test.YthhipejffpifkaaLbProg
namespace Go.Proofs.Ythhipejffpifkaa
open Go.ChangeShapes Go.WideShapes Go.ChangeAt Go.RowKit
set_option linter.unusedVariables false

theorem dec_max (s : ByteArray) (i : Nat) : (Utf8.decode s i).1 ≤ 1114111 := by
  have b0 := bt_lt s i; have b1 := bt_lt s (i + 1); have b2 := bt_lt s (i + 2); have b3 := bt_lt s (i + 3)
  have ip : ∀ {p : Prop} [Decidable p] {a b : Nat × Nat}, (p → a.1 ≤ 1114111) → (b.1 ≤ 1114111) → (if p then a else b).1 ≤ 1114111 := by
    intro p _ a b ha hb; split
    · rename_i h; exact ha h
    · exact hb
  have k (x : Nat) (n : Nat) (h : x ≤ 1114111) : (x, n).1 ≤ 1114111 := h
  have e : 65533 ≤ 1114111 := by omega
  rw [dec_eq]
  refine ip (fun h => k _ _ (by omega)) (ip (fun _ => ip (fun h => k _ _ (by omega)) (k _ _ e)) (ip (fun _ => ip (fun h => k _ _ (by omega)) (k _ _ e)) (ip (fun _ => ip (fun h => k _ _ (by omega)) (k _ _ e)) (k _ _ e))))
theorem enc_len (r : Nat) : (enc r).length ≤ 4 := by
  unfold enc Lib.encodeRune; rw [List.length_map]; exact (Lib.encodeRuneZ_length _).2
theorem encs_one (r : Nat) : encs [r] = enc r := by simp [encs]
def FoldsAns (s : ByteArray) (w : World) (e : Ending) (w' : World) : Prop := e = .returned (.string ⟨(fldB s).toArray⟩) ∧ Below w.heap.size w w'
/-- What Fold answers. -/
def fS (s : ByteArray) : ByteArray := match nam s with | some m => ⟨(encs m).toArray⟩ | none => ⟨#[]⟩
def fE (s : ByteArray) : Int := match nam s with | some _ => 0 | none => 1
def FoldAns (s : ByteArray) (w : World) (e : Ending) (w' : World) : Prop := e = .returned (.tuple #[.string (fS s), .int .i64 (fE s)]) ∧ Below w.heap.size w w'
theorem nam_size {s : ByteArray} {m : List Nat} (h : nam s = some m) : s.size ≤ 24 ∧ fldB s = encs m ∧ gr s = gr s ∧ m.length = (gr s).length := by
  obtain ⟨l, rfl, h1, _⟩ := nam_some h
  obtain ⟨h2, _, _, _, _, h3, _⟩ := pat_some h1
  exact ⟨h2.2, by unfold fldB; rw [h3], rfl, by rw [h3]; simp⟩
theorem valid_is {s : ByteArray} {b : Bool} (h : (nam s).isSome = b) (w : World) : Calls Try.prog 30 #[.string s] w fun e w' => e = .returned (.bool b) ∧ Below w.heap.size w w' := by
  have := valid_any s w; rw [h] at this; exact this
/-- What Runes answers. -/
def rnB (s : ByteArray) : Int := match nam s with | some m => m.length | none => -1
def RunesAns (s : ByteArray) (w : World) (e : Ending) (w' : World) : Prop := e = .returned (.int .i64 (rnB s)) ∧ Below w.heap.size w w'
/-- The order of names, of what is no name too. -/
def cmpO : Option (List Nat) → Option (List Nat) → Int
  | none, none => 0
  | none, some _ => -1
  | some _, none => 1
  | some x, some y => cmpR x y
theorem nam_ne {s : ByteArray} {m : List Nat} (h : nam s = some m) : (∀ r ∈ m, Scal r) ∧ encs m ≠ [] := by
  obtain ⟨l, rfl, h1, _⟩ := nam_some h
  obtain ⟨h2, _, _, h4, h5, _, _⟩ := pat_some h1
  have h6 : ∀ r ∈ l.map foldN, Scal r := by
    intro r hr
    obtain ⟨q, hq, rfl⟩ := List.mem_map.1 hr
    exact scal_fold (h4 q hq)
  refine ⟨h6, ?_⟩
  cases l with
  | nil =>
    rw [show encs [] = [] from rfl] at h5
    have : s.size = 0 := by rw [Lib.size_eq, h5]; rfl
    omega
  | cons a l =>
    rw [List.map_cons, encs_cons]
    have := enc_ne (h6 (foldN a) (by simp))
    simp [this]
theorem cmp_names (a b : ByteArray) : Lib.compareBytes (fS a).data.toList (fS b).data.toList = cmpO (nam a) (nam b) := by
  unfold fS
  cases ha : nam a with
  | none =>
    cases hb : nam b with
    | none => rfl
    | some y =>
      obtain ⟨_, h⟩ := nam_ne hb
      show Lib.compareBytes [] (encs y) = -1
      cases e : encs y with
      | nil => exact absurd e h
      | cons _ _ => rfl
  | some x =>
    obtain ⟨hx, h⟩ := nam_ne ha
    cases hb : nam b with
    | none =>
      show Lib.compareBytes (encs x) [] = 1
      cases e : encs x with
      | nil => exact absurd e h
      | cons _ _ => rfl
    | some y => exact cmp_encs x y hx (nam_ne hb).1
def CmpAns (a b : ByteArray) (w : World) (e : Ending) (w' : World) : Prop := e = .returned (.int .i64 (cmpO (nam a) (nam b))) ∧ Below w.heap.size w w'
end Go.Proofs.Ythhipejffpifkaa

