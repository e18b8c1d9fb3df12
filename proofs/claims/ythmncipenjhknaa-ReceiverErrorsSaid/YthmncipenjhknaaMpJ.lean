/-
  Maps keyed by int in memory, at keys from -1000000 to 1000000: a block that holds F : Int → Option Value; reading, storing, deleting. Any layer. No call is walked here. (MpMem: the same at keys from 0 to 31, with the number of entries and ranging.)
-/
import Derived.Test.YthmncipenjhknaaChg
import Derived.Test.YthmncipenjhknaaWhl
import Derived.Maps.RangeWalk
namespace Go.Proofs.Ythmncipenjhknaa
open Go.ChangeShapes Go.WideShapes Go.ChangeAt Go.RowKit Go.MapKept Go.ChangeMaps
open Go.Maps (Keyed)
set_option linter.unusedVariables false

def jset (F : Int → Option Value) (k : Int) (v : Option Value) : Int → Option Value := fun i => if i = k then v else F i
theorem jset_at (F : Int → Option Value) (k : Int) (v : Option Value) : jset F k v k = v := by simp [jset]
theorem jset_ne (F : Int → Option Value) {k i : Int} (v : Option Value) (h : i ≠ k) : jset F k v i = F i := by simp [jset, h]
/-- The entries hold F. -/
structure MapJE (es : Array MapEntry) (clock : Nat) (F : Int → Option Value) : Prop where
  st : Stamped es clock
  ks : ∀ x ∈ es.toList, ∃ k : Int, x.key = .int .i64 k ∧ -1000000 ≤ k ∧ k ≤ 1000000
  val : ∀ x ∈ es.toList, ∀ k, x.key = .int .i64 k → F k = some x.val
  dom : ∀ k, F k ≠ none → ∃ x ∈ es.toList, x.key = .int .i64 k
theorem intKeyJ {P : Program} {K : TypeId} (hk : P.underlying K = some (.int .i64)) {k : Int} (h : -1000000 ≤ k ∧ k ≤ 1000000) : keyOf P K (.int .i64 k) = some (.int .i64 k) :=
  Maps.keyOf_int_mk hk (by simp [Lit.wf, IntKind.min, IntKind.max, IntKind.signed, IntKind.bits]; omega)
section
variable {es : Array MapEntry} {clock : Nat} {F : Int → Option Value} {P : Program} {K T E : TypeId} {w : World} {b : Nat}
theorem MapJE.keys (h : MapJE es clock F) (hk : P.underlying K = some (.int .i64)) : ∀ e ∈ es.toList, ∃ l, keyOf P K e.key = some l := fun e he => by
  obtain ⟨k, h1, h2, h3⟩ := h.ks e he
  exact ⟨_, by rw [h1]; exact intKeyJ hk (by omega)⟩
theorem MapJE.none_of (h : MapJE es clock F) {k : Int} (hn : ∀ e ∈ es.toList, e.key ≠ .int .i64 k) : F k = none := by
  cases hF : F k with
  | none => rfl
  | some v => obtain ⟨x, hx, e⟩ := h.dom k (by rw [hF]; simp); exact absurd e (hn x hx)
theorem MapJE.empty (h : MapJE es clock F) : es.size = 0 ↔ ∀ k, F k = none := by
  constructor
  · intro h0 k
    refine h.none_of fun e he => ?_
    have : es = #[] := Array.eq_empty_of_size_eq_zero h0
    subst this; simp at he
  · intro hn
    rcases Nat.eq_zero_or_pos es.size with h0 | h0
    · exact h0
    · have hm : es[0] ∈ es.toList := by simp
      obtain ⟨k, k1, _⟩ := h.ks _ hm
      have := h.val _ hm k k1
      rw [hn k] at this; cases this
/-- Block b is a map that holds F. -/
def MapJ (w : World) (b : Nat) (F : Int → Option Value) : Prop := ∃ es clock, w.heap[b]? = some (.map es clock) ∧ MapJE es clock F
theorem MapJ.type (h : MapJ w b F) : ∃ es clock, w.heap[b]? = some (.map es clock) := by obtain ⟨es, clock, h1, _⟩ := h; exact ⟨es, clock, h1⟩
theorem MapJ.lt (h : MapJ w b F) : b < w.heap.size := by obtain ⟨es, clock, h1, _⟩ := h; exact (Array.getElem?_eq_some_iff.1 h1).1
theorem MapJ.keep {w' : World} (h : MapJ w b F) (hk : w'.heap[b]? = w.heap[b]?) : MapJ w' b F := by obtain ⟨es, clock, h1, h2⟩ := h; exact ⟨es, clock, hk.trans h1, h2⟩
theorem MapJ.made (w : World) : MapJ (w.alloc (.map #[] 0)) w.heap.size (fun _ => none) :=
  ⟨#[], 0, (MapKept.heap_alloc w _).1, ⟨stamped_empty 0, by simp, by simp, fun k h => absurd rfl h⟩⟩
theorem MapJ.inn (h : MapJ w b F) {k : Int} (hk : F k ≠ none) : -1000000 ≤ k ∧ k ≤ 1000000 := by
  obtain ⟨es, clock, _, h2⟩ := h
  obtain ⟨x, hx, e⟩ := h2.dom k hk
  obtain ⟨j, j1, j2⟩ := h2.ks x hx
  rw [e] at j1; simp at j1; omega
theorem MapJ.out (h : MapJ w b F) {k : Int} (hk : ¬ (-1000000 ≤ k ∧ k ≤ 1000000)) : F k = none := by
  cases hF : F k with
  | none => rfl
  | some v => exact absurd (h.inn (k := k) (by rw [hF]; simp)) hk
/-- Not a row. -/
theorem MapJ.apart (h : MapJ w b F) {R : Nat} {t : TypeId} {cs : Array Value} (hw : Whole w R t cs) : b ≠ R := by
  rintro rfl
  obtain ⟨es, clock, h1, _⟩ := h
  have a1 : w.heap[b]? = _ := hw
  rw [a1] at h1; cases h1
theorem MapJ.look (h : MapJ w b F) (hT : P.underlying T = some (.map K E)) (hK : P.underlying K = some (.int .i64)) {z : Value} (hz : (zeroValue E).run P w = .ok z w) {k : Int} (hk : -1000000 ≤ k ∧ k ≤ 1000000) (c : Bool) :
    (Instr.lookup T (.map (some b)) (.int .i64 k) c).run P w = .ok (if c then .tuple #[(F k).getD z, .bool (F k).isSome] else (F k).getD z) w := by
  obtain ⟨es, clock, hb, h2⟩ := h
  have KK := Maps.int_keyed hK
  have hkey := intKeyJ hK hk
  rcases KK.find w hkey es.toList (h2.keys hK) with ⟨h3, h4⟩ | ⟨j, e0, h3, h4, h5⟩
  · rw [h2.none_of h4]
    simp [Instr.lookup, run_underlying hT, MapKept.run_getObj_map hb, KK.check w _ hkey, h3, hz, Result.andThen]
  · rw [h2.val e0 (List.mem_of_getElem? h4) k h5]
    simp [Instr.lookup, run_underlying hT, MapKept.run_getObj_map hb, KK.check w _ hkey, h3, Result.andThen]
/-- The entry at place j holds v now. -/
theorem MapJE.put (h : MapJE es clock F) {k : Int} {j : Nat} {e0 : MapEntry} (h4 : es.toList[j]? = some e0) (h5 : e0.key = .int .i64 k) (v : Value) :
    MapJE (es.modify j (fun e' => { e' with key := .int .i64 k, val := v })) clock (jset F k (some v)) ∧ (es.modify j (fun e' => { e' with key := .int .i64 k, val := v })).toList.map (·.born) = es.toList.map (·.born) ∧
    (es.modify j (fun e' => { e' with key := .int .i64 k, val := v })).toList.map (·.key) = es.toList.map (·.key) := by
  have hj : es[j]? = some e0 := by simpa using h4
  have hjl : j < es.toList.length := (List.getElem?_eq_some_iff.1 h4).1
  have hm0 := List.mem_of_getElem? h4
  have hkeyf : ∀ e', es[j]? = some e' → ({ e' with key := .int .i64 k, val := v } : MapEntry).key = e'.key := fun e' he' => by rw [hj] at he'; cases he'; exact h5.symm
  have hlist : (es.modify j (fun e' => { e' with key := .int .i64 k, val := v })).toList = es.toList.set j { e0 with key := .int .i64 k, val := v } := by rw [Array.toList_modify, ChangeMaps.modify_eq_set _ _ _ _ h4]
  have hst := (stamped_iff es clock).1 h.st
  have who : ∀ x ∈ es.toList.set j { e0 with key := .int .i64 k, val := v }, x = { e0 with key := .int .i64 k, val := v } ∨ (x ∈ es.toList ∧ x.key ≠ .int .i64 k) := by
    intro x hx
    obtain ⟨i, hi, ex⟩ := List.getElem_of_mem hx
    rw [List.getElem_set] at ex
    split at ex
    · exact .inl ex.symm
    · rename_i hne
      have hi' : i < es.toList.length := by simpa using hi
      refine .inr ⟨ex ▸ List.getElem_mem hi', fun e1 => ?_⟩
      have hxm : x ∈ es.toList := ex ▸ List.getElem_mem hi'
      have : x = e0 := entry_eq_of_key hst.2.2 hxm hm0 (by rw [e1, h5])
      have h6 : es.toList[i] = es.toList[j] := by rw [ex, this]; exact (List.getElem?_eq_some_iff.1 h4).2.symm
      have h7 := hst.2.2
      rcases Nat.lt_trichotomy i j with h8 | h8 | h8
      · exact (List.pairwise_iff_getElem.1 h7 i j hi' hjl h8) (by rw [h6])
      · exact hne h8.symm
      · exact (List.pairwise_iff_getElem.1 h7 j i hjl hi' h8) (by rw [h6])
  refine ⟨⟨stamped_modify h.st _ _ (fun _ _ => rfl) (fun e' _ he' => hkeyf e' he'), ?_, ?_, ?_⟩, ?_, modify_keys _ _ hkeyf⟩
  · intro x hx
    rw [hlist] at hx
    rcases who x hx with rfl | ⟨h6, _⟩
    · obtain ⟨q, q1, q2⟩ := h.ks e0 hm0
      rw [h5] at q1; simp at q1; subst q1
      exact ⟨k, rfl, q2⟩
    · exact h.ks x h6
  · intro x hx q hq
    rw [hlist] at hx
    rcases who x hx with rfl | ⟨h6, h7⟩
    · simp at hq; subst hq; exact jset_at _ _ _
    · have : q ≠ k := by rintro rfl; exact h7 hq
      rw [jset_ne _ _ this]; exact h.val x h6 q hq
  · intro q hq
    by_cases e : q = k
    · subst e
      exact ⟨{ e0 with key := .int .i64 q, val := v }, by rw [hlist]; exact List.mem_iff_getElem.2 ⟨j, by simpa using hjl, by simp⟩, rfl⟩
    · rw [jset_ne _ _ e] at hq
      obtain ⟨x, hx, ex⟩ := h.dom q hq
      obtain ⟨i, hi, ei⟩ := List.getElem_of_mem hx
      have hij : i ≠ j := by
        rintro rfl
        have : e0 = x := by rw [← ei]; exact ((List.getElem?_eq_some_iff.1 h4).2).symm
        rw [this, ex] at h5; simp at h5; exact e h5
      exact ⟨x, by rw [hlist]; exact List.mem_iff_getElem.2 ⟨i, by simpa using hi, by rw [List.getElem_set_ne (Ne.symm hij)]; exact ei⟩, ex⟩
  · apply List.ext_getElem?
    intro i
    simp only [List.getElem?_map, Array.getElem?_toList, Array.getElem?_modify]
    by_cases hij : j = i
    · subst hij; rw [hj]; simp
    · simp [hij]
theorem MapJ.store (h : MapJ w b F) (hT : P.underlying T = some (.map K E)) (hK : P.underlying K = some (.int .i64)) {k : Int} (hk : -1000000 ≤ k ∧ k ≤ 1000000) (v : Value) :
    ∃ w', (Instr.mapUpdate T (.map (some b)) (.int .i64 k) v).run P w = .ok () w' ∧ MapJ w' b (jset F k (some v)) ∧ w.grownBy w' (some b) ∧ w'.heap.size = w.heap.size := by
  obtain ⟨es, clock, hb, h2⟩ := h
  have KK := Maps.int_keyed hK
  have hkey := intKeyJ hK (k := k) (by omega)
  have fin : ∀ es' clock', MapJE es' clock' (jset F k (some v)) → MapJ (setBlock w b (.map es' clock')) b (jset F k (some v)) ∧ w.grownBy (setBlock w b (.map es' clock')) (some b) ∧ (setBlock w b (.map es' clock')).heap.size = w.heap.size := fun es' clock' hE =>
    ⟨⟨es', clock', heap_setBlock_same hb _, hE⟩, ⟨rfl, rfl, rfl, by simp [setBlock], fun i _ hi => heap_setBlock_other hb _ (fun e => hi (by rw [e]))⟩, by simp [setBlock]⟩
  rcases KK.find w hkey es.toList (h2.keys hK) with ⟨h3, h4⟩ | ⟨j, e0, h3, h4, h5⟩
  · refine ⟨_, ?_, fin (es.push ⟨.int .i64 k, v, clock⟩) (clock + 1) ⟨stamped_push h2.st h4, ?_, ?_, ?_⟩⟩
    · simp [Instr.mapUpdate, run_underlying hT, MapKept.run_getObj_map hb, KK.check w false hkey, h3, MapKept.run_setObj_map _ hb, Result.andThen, setBlock]
    · intro x hx
      simp only [Array.toList_push, List.mem_append, List.mem_singleton] at hx
      rcases hx with hx | rfl
      · exact h2.ks x hx
      · exact ⟨k, rfl, hk⟩
    · intro x hx q hq
      simp only [Array.toList_push, List.mem_append, List.mem_singleton] at hx
      rcases hx with hx | rfl
      · have : q ≠ k := by rintro rfl; exact h4 x hx hq
        rw [jset_ne _ _ this]; exact h2.val x hx q hq
      · simp at hq; subst hq; exact jset_at _ _ _
    · intro q hq
      simp only [Array.toList_push, List.mem_append, List.mem_singleton]
      by_cases e : q = k
      · subst e; exact ⟨_, .inr rfl, rfl⟩
      · rw [jset_ne _ _ e] at hq
        obtain ⟨x, hx, ex⟩ := h2.dom q hq
        exact ⟨x, .inl hx, ex⟩
  · have hj : es[j]? = some e0 := by simpa using h4
    refine ⟨_, ?_, fin (es.modify j (fun e' => { e' with key := .int .i64 k, val := v })) clock (h2.put h4 h5 v).1⟩
    simp [Instr.mapUpdate, run_underlying hT, MapKept.run_getObj_map hb, KK.check w false hkey, h3, hj, h5, KK.stays w hkey, MapKept.run_setObj_map _ hb, Result.andThen, setBlock]
theorem MapJ.drop (h : MapJ w b F) (hT : P.underlying T = some (.map K E)) (hK : P.underlying K = some (.int .i64)) {k : Int} (hk : -1000000 ≤ k ∧ k ≤ 1000000) (ty : TypeId) :
    ∃ w', (Builtin.delete_ #[T, K] ty #[.map (some b), .int .i64 k]).run P w = .ok (.tuple #[]) w' ∧ MapJ w' b (jset F k none) ∧ w.grownBy w' (some b) ∧ w'.heap.size = w.heap.size := by
  obtain ⟨es, clock, hb, h2⟩ := h
  have KK := Maps.int_keyed hK
  have hkey := intKeyJ hK hk
  have fin : ∀ es', MapJE es' clock (jset F k none) → MapJ (setBlock w b (.map es' clock)) b (jset F k none) ∧ w.grownBy (setBlock w b (.map es' clock)) (some b) ∧ (setBlock w b (.map es' clock)).heap.size = w.heap.size := fun es' hE =>
    ⟨⟨es', clock, heap_setBlock_same hb _, hE⟩, ⟨rfl, rfl, rfl, by simp [setBlock], fun i _ hi => heap_setBlock_other hb _ (fun e => hi (by rw [e]))⟩, by simp [setBlock]⟩
  rcases KK.find w hkey es.toList (h2.keys hK) with ⟨h3, h4⟩ | ⟨j, e0, h3, h4, h5⟩
  · have e0 : jset F k none = F := by
      funext q
      by_cases e : q = k
      · subst e; rw [jset_at, h2.none_of h4]
      · exact jset_ne _ _ e
    refine ⟨_, ?_, fin es (by rw [e0]; exact h2)⟩
    simp [Builtin.delete_, run_underlying hT, MapKept.run_getObj_map hb, KK.check w _ hkey, h3, MapKept.run_setObj_map _ hb, Result.andThen, setBlock]
  · have hjl : j < es.toList.length := (List.getElem?_eq_some_iff.1 h4).1
    have hjs : j < es.size := by simpa using hjl
    have hst := (stamped_iff es clock).1 h2.st
    have hm0 := List.mem_of_getElem? h4
    have hsub : (es.eraseIdxIfInBounds j).toList = es.toList.eraseIdx j := by
      unfold Array.eraseIdxIfInBounds
      rw [dif_pos hjs]
      simp
    have who : ∀ x, x ∈ es.toList.eraseIdx j ↔ (x ∈ es.toList ∧ x.key ≠ .int .i64 k) := by
      intro x
      rw [List.mem_eraseIdx_iff_getElem?]
      constructor
      · rintro ⟨i, hne, hi⟩
        refine ⟨List.mem_of_getElem? hi, fun e1 => hne ?_⟩
        obtain ⟨hi1, hi2⟩ := List.getElem?_eq_some_iff.1 hi
        obtain ⟨hj1, hj2⟩ := List.getElem?_eq_some_iff.1 h4
        have h7 := hst.2.2
        rcases Nat.lt_trichotomy i j with h8 | h8 | h8
        · exact absurd (by rw [hi2, hj2, e1, h5]) (List.pairwise_iff_getElem.1 h7 i j hi1 hj1 h8)
        · exact h8
        · exact absurd (by rw [hi2, hj2, e1, h5]) (List.pairwise_iff_getElem.1 h7 j i hj1 hi1 h8)
      · rintro ⟨hx, hne⟩
        obtain ⟨i, hi⟩ := List.getElem?_of_mem hx
        refine ⟨i, fun e1 => hne ?_, hi⟩
        rw [e1, h4] at hi
        cases hi
        exact h5
    refine ⟨_, ?_, fin (es.eraseIdxIfInBounds j) ⟨stamped_erase h2.st j, ?_, ?_, ?_⟩⟩
    · simp [Builtin.delete_, run_underlying hT, MapKept.run_getObj_map hb, KK.check w _ hkey, h3, MapKept.run_setObj_map _ hb, Result.andThen, setBlock]
    · intro x hx
      rw [hsub] at hx
      exact h2.ks x ((who x).1 hx).1
    · intro x hx q hq
      rw [hsub] at hx
      have : q ≠ k := by rintro rfl; exact ((who x).1 hx).2 hq
      rw [jset_ne _ _ this]; exact h2.val x ((who x).1 hx).1 q hq
    · intro q hq
      have e : q ≠ k := by rintro rfl; rw [jset_at] at hq; exact hq rfl
      rw [jset_ne _ _ e] at hq
      obtain ⟨x, hx, ex⟩ := h2.dom q hq
      exact ⟨x, by rw [hsub]; exact (who x).2 ⟨hx, by rw [ex]; simpa using e⟩, ex⟩
end
end Go.Proofs.Ythmncipenjhknaa

