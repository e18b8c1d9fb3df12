/-
  Layer 7: contracts of the program's matches and Match. Strings of up to 1000 bytes (Match: every string).
-/
import Derived.Test.YthabmbjjpgcceaaDoorLbProg2
import Derived.Test.YthabmbjjpgcceaaDoorLbSplit
namespace Go.Proofs.YthabmbjjpgcceaaDoor
open Go.ChangeShapes Go.WideShapes Go.ChangeAt Go.RowKit
set_option linter.unusedVariables false

/-- The library's variable MaxLen holds some number. -/
def ML (w : World) : Prop := ∃ m : Int, w.cell? ⟨0, 0, none⟩ = some (.int .i64 m)
theorem ML.below {w w' : World} (h : ML w) (hb : Below w.heap.size w w') : ML w' := by
  obtain ⟨m, h⟩ := h
  exact ⟨m, cell_later h hb⟩
theorem ML.drewN {w : World} (h : ML w) (n : Nat) : ML (w.drewN n) := h
theorem split_any (p : ByteArray) (w : World) (hw : ML w) (hp : p.size ≤ 1000) : Calls Tryd.prog 41 #[.string p, .string ⟨#[42]⟩] w fun e w' =>
    e = .returned (.slice (some ⟨w.heap.size, 0, none⟩) (Lib.countB p ast + 1) (Lib.countB p ast + 1)) ∧ w' = w.alloc (.cells ((Lib.splitB ast 0 (Lib.countB p ast) p).map Value.string).toArray 9) := by
  obtain ⟨m, h⟩ := hw
  exact strings_Split p ast m w (by omega) h (by decide)
theorem cut_any (s q : ByteArray) (w : World) (hw : ML w) (hs : s.size ≤ 1000) : Calls Tryd.prog 44 #[.string s, .string q] w fun e w' =>
    e = .returned (.tuple #[.string ⟨(Lib.cut s.data.toList q.data.toList).1.toArray⟩, .string ⟨(Lib.cut s.data.toList q.data.toList).2.1.toArray⟩, .bool (Lib.cut s.data.toList q.data.toList).2.2]) ∧ ∃ n, w' = w.drewN n := by
  obtain ⟨m, h⟩ := hw
  exact strings_Cut s q m w (by omega) h
def LikAns (p s : ByteArray) (w : World) (e : Ending) (w' : World) : Prop := e = .returned (.bool (lik 42 p.data.toList s.data.toList)) ∧ Below w.heap.size w w'
theorem bytes_toList (b : ByteArray) : b.toList = b.data.toList := by
  have := Lib.extract_toList b 0 b.size
  rw [ByteArray.extract_zero_size] at this
  rw [this, List.drop_zero, List.take_of_length_le (by rw [← Lib.size_eq]; omega)]
theorem matches_plain (p s : ByteArray) (w : World) (hw : ML w) (hp : p.size ≤ 1000) (hk : Lib.countB p ast = 0) : Calls Tryd.prog 29 #[.string p, .string s] w (LikAns p s w) := by
  have H1 := split_any p w hw hp
  unfold LikAns
  rw [← plain_lik p s hk, ← bytes_toList, ← bytes_toList]
  rw [hk] at H1
  replace H1 := Lib.hid H1
  clear hk hw
  go_enter Tryd.func29, Tryd.ntmps29
  go_wp2_with fail
  (with_reducible refine H1.out.mono ?_); rintro e w1 ⟨rfl, rfl⟩
  go_wp2
  go_ret
  exact ⟨rfl, (Below.refl _ _).alloc (Nat.le_refl _) _⟩
/-- s without the prefix a; without the suffix l. -/
def preT (s a : ByteArray) : ByteArray := ⟨(Lib.trimPrefix s.data.toList a.data.toList).toArray⟩
def sufT (s l : ByteArray) : ByteArray := ⟨(Lib.trimSuffix s.data.toList l.data.toList).toArray⟩
/-- What is behind the first place of q. -/
def cutT (s q : ByteArray) : ByteArray := ⟨(Lib.cut s.data.toList q.data.toList).2.1.toArray⟩
theorem preT_size (s a : ByteArray) : (preT s a).size ≤ s.size := by
  rw [Lib.size_eq, Lib.size_eq]
  show (Lib.trimPrefix s.data.toList a.data.toList).length ≤ _
  unfold Lib.trimPrefix; split
  · simp
  · omega
theorem sufT_size (s a : ByteArray) : (sufT s a).size ≤ s.size := by
  rw [Lib.size_eq, Lib.size_eq]
  show (Lib.trimSuffix s.data.toList a.data.toList).length ≤ _
  unfold Lib.trimSuffix; split
  · simp
  · omega
theorem cutT_size (s a : ByteArray) : (cutT s a).size ≤ s.size := by
  rw [Lib.size_eq, Lib.size_eq]
  show (Lib.cut s.data.toList a.data.toList).2.1.length ≤ _
  unfold Lib.cut; split
  · simp
  · simp
theorem gB_eq (a : ByteArray) (m : List ByteArray) (l s : ByteArray) : gB a m l s = (Lib.hasPrefix s.data.toList a.data.toList && Lib.hasSuffix (preT s a).data.toList l.data.toList && gmid (m.map (·.data.toList)) (sufT (preT s a) l).data.toList) := rfl
theorem preC (s a : ByteArray) {b : Bool} (h : Lib.hasPrefix s.data.toList a.data.toList = b) (w : World) : Calls Tryd.prog 42 #[.string s, .string a] w fun e w' => e = .returned (.tuple #[.string (preT s a), .bool b]) ∧ w = w' := by
  have := strings_CutPrefix s a w
  rw [h] at this
  exact this.mono fun _ _ ⟨x, y⟩ => ⟨x, y.symm⟩
theorem sufC (s a : ByteArray) {b : Bool} (hs : s.size ≤ 1000) (h : Lib.hasSuffix s.data.toList a.data.toList = b) (w : World) : Calls Tryd.prog 43 #[.string s, .string a] w fun e w' => e = .returned (.tuple #[.string (sufT s a), .bool b]) ∧ w = w' := by
  have := strings_CutSuffix s a w (by omega)
  rw [h] at this
  exact this.mono fun _ _ ⟨x, y⟩ => ⟨x, y.symm⟩
/-- What the parts' cells hold behind Split. -/
theorem parts_cells (w : World) (a : ByteArray) (m : List ByteArray) (l : ByteArray) (T : TypeId) :
    (w.alloc (.cells ((a :: (m ++ [l])).map Value.string).toArray T)).cell? ⟨w.heap.size, 0, none⟩ = some (.string a) ∧
    (w.alloc (.cells ((a :: (m ++ [l])).map Value.string).toArray T)).cell? ⟨w.heap.size, m.length + 1, none⟩ = some (.string l) ∧
    ∀ j (h : j < m.length), (w.alloc (.cells ((a :: (m ++ [l])).map Value.string).toArray T)).cell? ⟨w.heap.size, 1 + j, none⟩ = some (.string m[j]) := by
  have e : ∀ o, (w.alloc (.cells ((a :: (m ++ [l])).map Value.string).toArray T)).cell? ⟨w.heap.size, o, none⟩ = ((a :: (m ++ [l])).map Value.string).toArray[o]? :=
    fun o => Whole.read (show Whole _ w.heap.size T _ from (MapKept.heap_alloc w (.cells ((a :: (m ++ [l])).map Value.string).toArray T)).1) o
  refine ⟨by rw [e]; rfl, ?_, fun j h => ?_⟩
  · rw [e, List.getElem?_toArray, List.getElem?_map, List.getElem?_cons_succ, List.getElem?_append_right (Nat.le_refl _), Nat.sub_self]; rfl
  · rw [e, List.getElem?_toArray, List.getElem?_map, Nat.add_comm 1 j, List.getElem?_cons_succ, List.getElem?_append_left h, List.getElem?_eq_getElem h]; rfl
set_option maxHeartbeats 4000000 in
theorem matches_parts (p s : ByteArray) (w : World) (hw : ML w) (hp : p.size ≤ 1000) (hs : s.size ≤ 1000) (k : Nat) (hk : Lib.countB p ast = k + 1) (hk0 : k ≤ 1000) : Calls Tryd.prog 29 #[.string p, .string s] w (LikAns p s w) := by
  obtain ⟨a, m, l, h1, h2, h3⟩ := gB_lik p s hk
  have H1 := split_any p w hw hp
  unfold LikAns
  rw [← h3]
  rw [hk, h1] at H1
  have hc := parts_cells w a m l 9
  have hML : ML (w.alloc (.cells ((a :: (m ++ [l])).map Value.string).toArray 9)) := hw.below ((Below.refl _ _).alloc (Nat.le_refl _) _)
  have hB : Below w.heap.size w (w.alloc (.cells ((a :: (m ++ [l])).map Value.string).toArray 9)) := (Below.refl _ _).alloc (Nat.le_refl _) _
  generalize w.alloc (.cells ((a :: (m ++ [l])).map Value.string).toArray 9) = wA at *
  replace H1 := Lib.hid H1
  obtain ⟨c0, cl, cm⟩ := hc
  rw [h2] at cl
  replace c0 := Lib.hid c0
  replace cl := Lib.hid cl
  replace cm := Lib.hid cm
  replace hML := Lib.hid hML
  replace hB := Lib.hid hB
  have hG := Lib.hid (gB_eq a m l s)
  replace h2 := Lib.hid h2
  clear hk h1 h3 hw
  have n1 : ((k + 1 + 1 : Nat) : Int) - 1 = k + 1 := by omega
  have n2 : ((k : Int) + 1 == 0) = false := by simp; omega
  have n3 : ((k : Int) + 1).toNat = k + 1 := by omega
  by_cases d1 : Lib.hasPrefix s.data.toList a.data.toList = true
  · by_cases d2 : Lib.hasSuffix (preT s a).data.toList l.data.toList = true
    · have P1 := Lib.hid (fun w => preC s a d1 w)
      have P2 := Lib.hid (fun w => sufC (preT s a) l (by have := preT_size s a; omega) d2 w)
      replace hG := hG.out
      rw [d1, d2] at hG
      replace hG := Lib.hid hG
      have hz : (sufT (preT s a) l).size ≤ 1000 := by have := preT_size s a; have := sufT_size (preT s a) l; omega
      generalize gB a m l s = G at *
      generalize sufT (preT s a) l = t0 at *
      generalize preT s a = t1 at *
      clear d1 d2
      go_enter Tryd.func29, Tryd.ntmps29
      go_wp2_with fail
      (with_reducible refine H1.out.mono ?_); rintro e w1 ⟨rfl, rfl⟩
      replace c0 := c0.out
      replace cl := cl.out
      go_wp2_with fail
      (with_reducible refine (P1.out _).mono ?_); rintro e w2 ⟨rfl, rfl⟩
      go_wp2_with fail
      (with_reducible refine (P2.out _).mono ?_); rintro e w2 ⟨rfl, rfl⟩
      go_wp2
      go_loopw [7, 52] (fun s7 s52 wr => ∃ (j q : Nat) (t : ByteArray), j ≤ k ∧ t.size ≤ 1000 ∧ s7 = .string t ∧ s52 = .int .i64 j ∧ wr = w1.drewN q ∧ Hid (gmid ((m.drop j).map (·.data.toList)) t.data.toList = G)) (fun _ s52 _ => k - (intOf s52).toNat)
      case atStart => exact ⟨0, 0, t0, by omega, hz, rfl, rfl, rfl, Lib.hid (by have := hG.out; simpa using this.symm)⟩
      case round =>
        obtain ⟨j, q, t, hj, ht, rfl, rfl, rfl, HG⟩ := hrel
        clear c0 cl
        by_cases hlt : j < k
        · have hm : j < m.length := by have := h2.out; omega
          have cj : (w1.drewN q).cell? ⟨w.heap.size, 1 + j, none⟩ = some (.string m[j]) := cm.out j hm
          have hg := HG.out
          rw [List.drop_eq_getElem_cons hm, List.map_cons, gmid] at hg
          obtain ⟨u, hu⟩ : ∃ u, m[j] = u := ⟨_, rfl⟩
          rw [hu] at cj hg
          clear hu
          have HC := Lib.hid (cut_any t u (w1.drewN q) (hML.out.drewN q) ht)
          have hsz := cutT_size t u
          by_cases d : (Lib.cut t.data.toList u.data.toList).2.2 = true
          · rw [d, Bool.true_and] at hg
            have HG' := Lib.hid (show gmid ((m.drop (j + 1)).map (·.data.toList)) (cutT t u).data.toList = G from hg)
            replace HC := HC.out
            rw [d] at HC
            replace HC := Lib.hid HC
            clear hg d HG hm
            have hz' : (cutT t u).size ≤ 1000 := by omega
            go_wp2_with fail
            (with_reducible refine HC.out.mono ?_); rintro e w2 ⟨rfl, n, rfl⟩
            go_wp2
            go_roundw
            case rel => exact ⟨j + 1, q + n, cutT t u, by omega, hz', rfl, by go_num, by simp [World.drewN], HG'⟩
            case measure => simp [intOf]; omega
          · have d : (Lib.cut t.data.toList u.data.toList).2.2 = false := by simpa using d
            rw [d, Bool.false_and] at hg
            have HG' := Lib.hid hg
            replace HC := HC.out
            rw [d] at HC
            replace HC := Lib.hid HC
            clear hg d HG hm
            go_wp2_with fail
            (with_reducible refine HC.out.mono ?_); rintro e w2 ⟨rfl, n, rfl⟩
            go_wp2
            go_ret
            exact ⟨ret_bool HG'.out, Below_drewN hB.out _⟩
        · have HR := Lib.hid (show true = G by
            have h := HG.out
            rw [List.drop_of_length_le (by have := h2.out; omega)] at h
            exact h)
          obtain rfl : k = j := by omega
          clear HG
          go_wp2
          go_ret
          exact ⟨ret_bool HR.out, Below_drewN hB.out q⟩
    · have d2 : Lib.hasSuffix (preT s a).data.toList l.data.toList = false := by simpa using d2
      have P1 := Lib.hid (fun w => preC s a d1 w)
      have P2 := Lib.hid (fun w => sufC (preT s a) l (by have := preT_size s a; omega) d2 w)
      replace hG := hG.out
      rw [d1, d2, Bool.and_false, Bool.false_and] at hG
      rw [hG]
      generalize sufT (preT s a) l = t0 at *
      generalize preT s a = t1 at *
      clear d1 d2 hG
      go_enter Tryd.func29, Tryd.ntmps29
      go_wp2_with fail
      (with_reducible refine H1.out.mono ?_); rintro e w1 ⟨rfl, rfl⟩
      replace c0 := c0.out
      replace cl := cl.out
      go_wp2_with fail
      (with_reducible refine (P1.out _).mono ?_); rintro e w2 ⟨rfl, rfl⟩
      go_wp2_with fail
      (with_reducible refine (P2.out _).mono ?_); rintro e w2 ⟨rfl, rfl⟩
      go_wp2
      go_ret
      exact ⟨rfl, hB.out⟩
  · have d1 : Lib.hasPrefix s.data.toList a.data.toList = false := by simpa using d1
    have P1 := Lib.hid (fun w => preC s a d1 w)
    have P2 := Lib.hid (fun w => sufC (preT s a) l (b := Lib.hasSuffix (preT s a).data.toList l.data.toList) (by have := preT_size s a; omega) rfl w)
    replace hG := hG.out
    rw [d1, Bool.false_and, Bool.false_and] at hG
    rw [hG]
    generalize Lib.hasSuffix (preT s a).data.toList l.data.toList = bb at *
    generalize sufT (preT s a) l = t0 at *
    generalize preT s a = t1 at *
    clear d1 hG
    go_enter Tryd.func29, Tryd.ntmps29
    go_wp2_with fail
    (with_reducible refine H1.out.mono ?_); rintro e w1 ⟨rfl, rfl⟩
    replace c0 := c0.out
    replace cl := cl.out
    go_wp2_with fail
    (with_reducible refine (P1.out _).mono ?_); rintro e w2 ⟨rfl, rfl⟩
    go_wp2_with fail
    (with_reducible refine (P2.out _).mono ?_); rintro e w2 ⟨rfl, rfl⟩
    go_wp2
    go_ret
    exact ⟨rfl, hB.out⟩
theorem matches_any (p s : ByteArray) (w : World) (hw : ML w) (hp : p.size ≤ 1000) (hs : s.size ≤ 1000) : Calls Tryd.prog 29 #[.string p, .string s] w (LikAns p s w) := by
  rcases Nat.eq_zero_or_pos (Lib.countB p ast) with h | h
  · exact matches_plain p s w hw hp h
  · have hle : Lib.countB p ast ≤ p.size := by rw [count_ast, Lib.size_eq]; exact List.count_le_length
    exact matches_parts p s w hw hp hs (Lib.countB p ast - 1) (by omega) (by omega)
/-- Whether the pattern matches the name: of runes. -/
def mtB (p s : ByteArray) : Bool := match pat p, nam s with
  | some x, some y => lik 42 (x.map foldN) y
  | _, _ => false
theorem fld_of {s : ByteArray} {l : List Nat} (h : pat s = some l) : fldB s = encs (l.map foldN) ∧ (∀ r ∈ l.map foldN, Scal r) ∧ s.size ≤ 24 ∧ (encs (l.map foldN)).length ≤ 96 := by
  obtain ⟨h2, _, _, h4, h5, h6, h7⟩ := pat_some h
  have h8 : ∀ r ∈ l.map foldN, Scal r := by
    intro r hr
    obtain ⟨q, hq, rfl⟩ := List.mem_map.1 hr
    exact scal_fold (h4 q hq)
  have hl : ∀ x : List Nat, (encs x).length ≤ 4 * x.length := by
    intro x
    induction x with
    | nil => simp [encs]
    | cons a x ih => rw [encs_cons, List.length_append, List.length_cons]; have := enc_len a; omega
  refine ⟨by unfold fldB; rw [h6], h8, h2.2, ?_⟩
  have := hl (l.map foldN)
  rw [List.length_map] at this
  omega
theorem mt_lik {p s : ByteArray} {l : List Nat} {m : List Nat} (hp : pat p = some l) (hs : nam s = some m) : lik 42 (fldB p) (fldB s) = mtB p s := by
  obtain ⟨e1, h1, _, _⟩ := fld_of hp
  have h2 := (nam_ne hs).1
  obtain ⟨_, e2, _⟩ := nam_size hs
  unfold mtB
  rw [hp, hs, e1, e2]
  show lik 42 (encs (l.map foldN)) (encs m) = lik 42 (l.map foldN) m
  rw [Bool.eq_iff_iff]
  exact lik_encs _ _ h1 h2
def MtAns (p s : ByteArray) (w : World) (e : Ending) (w' : World) : Prop := e = .returned (.bool (mtB p s)) ∧ Below w.heap.size w w'
theorem isPattern_is {s : ByteArray} {b : Bool} (h : (pat s).isSome = b) (w : World) : Calls Tryd.prog 28 #[.string s] w fun e w' => e = .returned (.bool b) ∧ Below w.heap.size w w' := by
  have := isPattern_any s w; unfold PatAns at this; rw [pat_iff, h] at this; exact this
set_option maxHeartbeats 2000000 in
theorem match_any (p s : ByteArray) (w : World) (hw : ML w) : Calls Tryd.prog 18 #[.string p, .string s] w (MtAns p s w) := by
  have hw := Lib.hid hw
  cases hp : pat p with
  | none =>
    have e : mtB p s = false := by unfold mtB; rw [hp]
    have H1 := Lib.hid (fun w => isPattern_is (s := p) (b := false) (by rw [hp]; rfl) w)
    unfold MtAns; rw [e]; clear e hp
    go_enter Tryd.func18, Tryd.ntmps18
    go_wp2_with fail
    (with_reducible refine (H1.out _).mono ?_); rintro e w1 ⟨rfl, hb⟩
    go_wp2
    go_ret
    exact ⟨rfl, hb⟩
  | some l =>
    have H1 := Lib.hid (fun w => isPattern_is (s := p) (b := true) (by rw [hp]; rfl) w)
    cases hs : nam s with
    | none =>
      have e : mtB p s = false := by unfold mtB; rw [hp, hs]
      have H2 := Lib.hid (fun w => valid_is (s := s) (b := false) (by rw [hs]; rfl) w)
      unfold MtAns; rw [e]; clear e hp hs
      go_enter Tryd.func18, Tryd.ntmps18
      go_wp2_with fail
      (with_reducible refine (H1.out _).mono ?_); rintro e w1 ⟨rfl, hb⟩
      have hb1 := Lib.hid hb
      clear hb
      go_wp2_with fail
      (with_reducible refine (H2.out _).mono ?_); rintro e w2 ⟨rfl, hb2⟩
      have HB := Lib.hid (hb1.out.trans (hb2.mono hb1.out.size))
      clear hb2 hb1
      go_wp2
      go_ret
      exact ⟨rfl, HB.out⟩
    | some m =>
      have H2 := Lib.hid (fun w => valid_is (s := s) (b := true) (by rw [hs]; rfl) w)
      obtain ⟨e1, _, z1, z2⟩ := fld_of hp
      obtain ⟨z3, e2, _⟩ := nam_size hs
      obtain ⟨l', _, hp', _⟩ := nam_some hs
      obtain ⟨e3, _, _, z4⟩ := fld_of hp'
      have H3 := Lib.hid (fun w => folded_any p w (by omega))
      have H4 := Lib.hid (fun w => folded_any s w (by omega))
      unfold FoldsAns at H3 H4
      have y1 : ByteArray.size ⟨(fldB p).toArray⟩ ≤ 1000 := by rw [Lib.size_eq]; show (fldB p).length ≤ 1000; rw [e1]; omega
      have y2 : ByteArray.size ⟨(fldB s).toArray⟩ ≤ 1000 := by rw [Lib.size_eq]; show (fldB s).length ≤ 1000; rw [e3]; omega
      have H5 := Lib.hid (fun w hw => matches_any ⟨(fldB p).toArray⟩ ⟨(fldB s).toArray⟩ w hw y1 y2)
      unfold LikAns at H5
      have hm := mt_lik hp hs
      have hm2 : lik 42 (ByteArray.mk (fldB p).toArray).data.toList (ByteArray.mk (fldB s).toArray).data.toList = mtB p s := hm
      rw [hm2] at H5
      unfold MtAns
      clear hp hs hp' e1 e2 e3 hm hm2 y1 y2
      generalize (⟨(fldB p).toArray⟩ : ByteArray) = u at *
      generalize (⟨(fldB s).toArray⟩ : ByteArray) = v at *
      generalize mtB p s = b at *
      go_enter Tryd.func18, Tryd.ntmps18
      go_wp2_with fail
      (with_reducible refine (H1.out _).mono ?_); rintro e w1 ⟨rfl, hb⟩
      have hb1 := Lib.hid hb
      clear hb
      go_wp2_with fail
      (with_reducible refine (H2.out _).mono ?_); rintro e w2 ⟨rfl, hb2⟩
      have HB2 := Lib.hid (hb1.out.trans (hb2.mono hb1.out.size))
      clear hb2 hb1
      go_wp2_with fail
      (with_reducible refine (H3.out _).mono ?_); rintro e w3 ⟨rfl, hb3⟩
      have HB3 := Lib.hid (HB2.out.trans (hb3.mono HB2.out.size))
      clear hb3 HB2
      go_wp2_with fail
      (with_reducible refine (H4.out _).mono ?_); rintro e w4 ⟨rfl, hb4⟩
      have HB4 := Lib.hid (HB3.out.trans (hb4.mono HB3.out.size))
      clear hb4 HB3
      go_wp2_with fail
      (with_reducible refine (H5.out _ (hw.out.below HB4.out)).mono ?_); rintro e w5 ⟨rfl, hb5⟩
      have HB5 := Lib.hid (HB4.out.trans (hb5.mono HB4.out.size))
      clear hb5 HB4
      go_wp2
      go_ret
      exact ⟨rfl, HB5.out⟩
end Go.Proofs.YthabmbjjpgcceaaDoor

