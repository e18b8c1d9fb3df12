/-
  Maps keyed by int in memory: a block that holds F : Int → Option Value at keys from 0 to 31; reading, storing, deleting, the number of entries, ranging with stores at keys that are there. No call is walked here.
-/
import Derived.Test.YtkfhjpgapmfiaaaChg
import Derived.Test.YtkfhjpgapmfiaaaTgPlain
import Derived.Maps.RangeWalk
namespace Go.Proofs.Ytkfhjpgapmfiaaa
open Go.ChangeShapes Go.WideShapes Go.ChangeAt Go.RowKit Go.MapKept Go.ChangeMaps
open Go.Maps (Keyed)
set_option linter.unusedVariables false

def iset (F : Int → Option Value) (k : Int) (v : Option Value) : Int → Option Value := fun i => if i = k then v else F i
theorem iset_at (F : Int → Option Value) (k : Int) (v : Option Value) : iset F k v k = v := by simp [iset]
theorem iset_ne (F : Int → Option Value) {k i : Int} (v : Option Value) (h : i ≠ k) : iset F k v i = F i := by simp [iset, h]
/-- The entries hold F. -/
structure MapE (es : Array MapEntry) (clock : Nat) (F : Int → Option Value) : Prop where
  st : Stamped es clock
  ks : ∀ x ∈ es.toList, ∃ k : Int, x.key = .int .i64 k ∧ 0 ≤ k ∧ k < 32
  val : ∀ x ∈ es.toList, ∀ k, x.key = .int .i64 k → F k = some x.val
  dom : ∀ k, F k ≠ none → ∃ x ∈ es.toList, x.key = .int .i64 k
theorem intKey {P : Program} {K : TypeId} (hk : P.underlying K = some (.int .i64)) {k : Int} (h : -1000000 ≤ k ∧ k ≤ 1000000) : keyOf P K (.int .i64 k) = some (.int .i64 k) :=
  Maps.keyOf_int_mk hk (by simp [Lit.wf, IntKind.min, IntKind.max, IntKind.signed, IntKind.bits]; omega)
section
variable {es : Array MapEntry} {clock : Nat} {F : Int → Option Value} {P : Program} {K T E : TypeId} {w : World} {b : Nat}
theorem MapE.keys (h : MapE es clock F) (hk : P.underlying K = some (.int .i64)) : ∀ e ∈ es.toList, ∃ l, keyOf P K e.key = some l := fun e he => by
  obtain ⟨k, h1, h2, h3⟩ := h.ks e he
  exact ⟨_, by rw [h1]; exact intKey hk (by omega)⟩
theorem MapE.few (h : MapE es clock F) : es.size ≤ 32 := by
  have h1 := nodup_few 32 (es.toList.map fun x => match x.key with | .int _ k => k.toNat | _ => 0) ?_ ?_
  · simpa using h1
  · have h2 := ((stamped_iff es clock).1 h.st).2.2
    rw [List.Nodup, List.pairwise_map]
    refine List.Pairwise.imp_of_mem ?_ h2
    intro a c ha hc hne e
    obtain ⟨k, k1, k2, k3⟩ := h.ks a ha
    obtain ⟨j, j1, j2, j3⟩ := h.ks c hc
    rw [k1, j1] at hne e
    simp only at e
    exact hne (by congr 1; omega)
  · intro x hx
    obtain ⟨a, ha, rfl⟩ := List.mem_map.1 hx
    obtain ⟨k, k1, k2, k3⟩ := h.ks a ha
    rw [k1]; simp only; omega
theorem MapE.none_of (h : MapE es clock F) {k : Int} (hn : ∀ e ∈ es.toList, e.key ≠ .int .i64 k) : F k = none := by
  cases hF : F k with
  | none => rfl
  | some v => obtain ⟨x, hx, e⟩ := h.dom k (by rw [hF]; simp); exact absurd e (hn x hx)
theorem MapE.empty (h : MapE es clock F) : es.size = 0 ↔ ∀ k, F k = none := by
  constructor
  · intro h0 k
    refine h.none_of fun e he => ?_
    have : es = #[] := Array.eq_empty_of_size_eq_zero h0
    subst this; simp at he
  · intro hn
    rcases Nat.eq_zero_or_pos es.size with h0 | h0
    · exact h0
    · have hm : es[0] ∈ es.toList := by simp
      obtain ⟨k, k1, _⟩ := h.ks _ hm
      have := h.val _ hm k k1
      rw [hn k] at this; cases this
/-- Block b is a map that holds F. -/
def MapI (w : World) (b : Nat) (F : Int → Option Value) : Prop := ∃ es clock, w.heap[b]? = some (.map es clock) ∧ MapE es clock F
theorem MapI.type (h : MapI w b F) : ∃ es clock, w.heap[b]? = some (.map es clock) := by obtain ⟨es, clock, h1, _⟩ := h; exact ⟨es, clock, h1⟩
theorem MapI.lt (h : MapI w b F) : b < w.heap.size := by obtain ⟨es, clock, h1, _⟩ := h; exact (Array.getElem?_eq_some_iff.1 h1).1
theorem MapI.keep {w' : World} (h : MapI w b F) (hk : w'.heap[b]? = w.heap[b]?) : MapI w' b F := by obtain ⟨es, clock, h1, h2⟩ := h; exact ⟨es, clock, hk.trans h1, h2⟩
theorem MapI.made (w : World) : MapI (w.alloc (.map #[] 0)) w.heap.size (fun _ => none) :=
  ⟨#[], 0, (MapKept.heap_alloc w _).1, ⟨stamped_empty 0, by simp, by simp, fun k h => absurd rfl h⟩⟩
theorem MapI.inn (h : MapI w b F) {k : Int} (hk : F k ≠ none) : 0 ≤ k ∧ k < 32 := by
  obtain ⟨es, clock, _, h2⟩ := h
  obtain ⟨x, hx, e⟩ := h2.dom k hk
  obtain ⟨j, j1, j2⟩ := h2.ks x hx
  rw [e] at j1; simp at j1; omega
theorem MapI.out (h : MapI w b F) {k : Int} (hk : ¬ (0 ≤ k ∧ k < 32)) : F k = none := by
  cases hF : F k with
  | none => rfl
  | some v => exact absurd (h.inn (k := k) (by rw [hF]; simp)) hk
/-- Not a row. -/
theorem MapI.apart (h : MapI w b F) {R : Nat} {t : TypeId} {cs : Array Value} (hw : Whole w R t cs) : b ≠ R := by
  rintro rfl
  obtain ⟨es, clock, h1, _⟩ := h
  have a1 : w.heap[b]? = _ := hw
  rw [a1] at h1; cases h1
theorem MapI.look (h : MapI w b F) (hT : P.underlying T = some (.map K E)) (hK : P.underlying K = some (.int .i64)) {z : Value} (hz : (zeroValue E).run P w = .ok z w) {k : Int} (hk : -1000000 ≤ k ∧ k ≤ 1000000) (c : Bool) :
    (Instr.lookup T (.map (some b)) (.int .i64 k) c).run P w = .ok (if c then .tuple #[(F k).getD z, .bool (F k).isSome] else (F k).getD z) w := by
  obtain ⟨es, clock, hb, h2⟩ := h
  have KK := Maps.int_keyed hK
  have hkey := intKey hK hk
  rcases KK.find w hkey es.toList (h2.keys hK) with ⟨h3, h4⟩ | ⟨j, e0, h3, h4, h5⟩
  · rw [h2.none_of h4]
    simp [Instr.lookup, run_underlying hT, MapKept.run_getObj_map hb, KK.check w _ hkey, h3, hz, Result.andThen]
  · rw [h2.val e0 (List.mem_of_getElem? h4) k h5]
    simp [Instr.lookup, run_underlying hT, MapKept.run_getObj_map hb, KK.check w _ hkey, h3, Result.andThen]
theorem MapI.len (h : MapI w b F) (hT : P.underlying T = some (.map K E)) (ty : TypeId) : ∃ n : Nat, (Builtin.len_ #[T] ty #[.map (some b)]).run P w = .ok (.int .i64 n) w ∧ n ≤ 32 ∧ (n = 0 ↔ ∀ k, F k = none) := by
  obtain ⟨es, clock, hb, h2⟩ := h
  refine ⟨es.size, ?_, h2.few, h2.empty⟩
  simp [Builtin.len_, run_underlying hT, MapKept.run_getObj_map hb, goInt, Result.andThen]
/-- The entry at place j holds v now. -/
theorem MapE.put (h : MapE es clock F) {k : Int} {j : Nat} {e0 : MapEntry} (h4 : es.toList[j]? = some e0) (h5 : e0.key = .int .i64 k) (v : Value) :
    MapE (es.modify j (fun e' => { e' with key := .int .i64 k, val := v })) clock (iset F k (some v)) ∧ (es.modify j (fun e' => { e' with key := .int .i64 k, val := v })).toList.map (·.born) = es.toList.map (·.born) ∧
    (es.modify j (fun e' => { e' with key := .int .i64 k, val := v })).toList.map (·.key) = es.toList.map (·.key) := by
  have hj : es[j]? = some e0 := by simpa using h4
  have hjl : j < es.toList.length := (List.getElem?_eq_some_iff.1 h4).1
  have hm0 := List.mem_of_getElem? h4
  have hkeyf : ∀ e', es[j]? = some e' → ({ e' with key := .int .i64 k, val := v } : MapEntry).key = e'.key := fun e' he' => by rw [hj] at he'; cases he'; exact h5.symm
  have hlist : (es.modify j (fun e' => { e' with key := .int .i64 k, val := v })).toList = es.toList.set j { e0 with key := .int .i64 k, val := v } := by rw [Array.toList_modify, ChangeMaps.modify_eq_set _ _ _ _ h4]
  have hst := (stamped_iff es clock).1 h.st
  have who : ∀ x ∈ es.toList.set j { e0 with key := .int .i64 k, val := v }, x = { e0 with key := .int .i64 k, val := v } ∨ (x ∈ es.toList ∧ x.key ≠ .int .i64 k) := by
    intro x hx
    obtain ⟨i, hi, ex⟩ := List.getElem_of_mem hx
    rw [List.getElem_set] at ex
    split at ex
    · exact .inl ex.symm
    · rename_i hne
      have hi' : i < es.toList.length := by simpa using hi
      refine .inr ⟨ex ▸ List.getElem_mem hi', fun e1 => ?_⟩
      have hxm : x ∈ es.toList := ex ▸ List.getElem_mem hi'
      have : x = e0 := entry_eq_of_key hst.2.2 hxm hm0 (by rw [e1, h5])
      have h6 : es.toList[i] = es.toList[j] := by rw [ex, this]; exact (List.getElem?_eq_some_iff.1 h4).2.symm
      have h7 := hst.2.2
      rcases Nat.lt_trichotomy i j with h8 | h8 | h8
      · exact (List.pairwise_iff_getElem.1 h7 i j hi' hjl h8) (by rw [h6])
      · exact hne h8.symm
      · exact (List.pairwise_iff_getElem.1 h7 j i hjl hi' h8) (by rw [h6])
  refine ⟨⟨stamped_modify h.st _ _ (fun _ _ => rfl) (fun e' _ he' => hkeyf e' he'), ?_, ?_, ?_⟩, ?_, modify_keys _ _ hkeyf⟩
  · intro x hx
    rw [hlist] at hx
    rcases who x hx with rfl | ⟨h6, _⟩
    · obtain ⟨q, q1, q2⟩ := h.ks e0 hm0
      rw [h5] at q1; simp at q1; subst q1
      exact ⟨k, rfl, q2⟩
    · exact h.ks x h6
  · intro x hx q hq
    rw [hlist] at hx
    rcases who x hx with rfl | ⟨h6, h7⟩
    · simp at hq; subst hq; exact iset_at _ _ _
    · have : q ≠ k := by rintro rfl; exact h7 hq
      rw [iset_ne _ _ this]; exact h.val x h6 q hq
  · intro q hq
    by_cases e : q = k
    · subst e
      exact ⟨{ e0 with key := .int .i64 q, val := v }, by rw [hlist]; exact List.mem_iff_getElem.2 ⟨j, by simpa using hjl, by simp⟩, rfl⟩
    · rw [iset_ne _ _ e] at hq
      obtain ⟨x, hx, ex⟩ := h.dom q hq
      obtain ⟨i, hi, ei⟩ := List.getElem_of_mem hx
      have hij : i ≠ j := by
        rintro rfl
        have : e0 = x := by rw [← ei]; exact ((List.getElem?_eq_some_iff.1 h4).2).symm
        rw [this, ex] at h5; simp at h5; exact e h5
      exact ⟨x, by rw [hlist]; exact List.mem_iff_getElem.2 ⟨i, by simpa using hi, by rw [List.getElem_set_ne (Ne.symm hij)]; exact ei⟩, ex⟩
  · apply List.ext_getElem?
    intro i
    simp only [List.getElem?_map, Array.getElem?_toList, Array.getElem?_modify]
    by_cases hij : j = i
    · subst hij; rw [hj]; simp
    · simp [hij]
theorem MapI.store (h : MapI w b F) (hT : P.underlying T = some (.map K E)) (hK : P.underlying K = some (.int .i64)) {k : Int} (hk : 0 ≤ k ∧ k < 32) (v : Value) :
    ∃ w', (Instr.mapUpdate T (.map (some b)) (.int .i64 k) v).run P w = .ok () w' ∧ MapI w' b (iset F k (some v)) ∧ w.grownBy w' (some b) ∧ w'.heap.size = w.heap.size := by
  obtain ⟨es, clock, hb, h2⟩ := h
  have KK := Maps.int_keyed hK
  have hkey := intKey hK (k := k) (by omega)
  have fin : ∀ es' clock', MapE es' clock' (iset F k (some v)) → MapI (setBlock w b (.map es' clock')) b (iset F k (some v)) ∧ w.grownBy (setBlock w b (.map es' clock')) (some b) ∧ (setBlock w b (.map es' clock')).heap.size = w.heap.size := fun es' clock' hE =>
    ⟨⟨es', clock', heap_setBlock_same hb _, hE⟩, ⟨rfl, rfl, rfl, by simp [setBlock], fun i _ hi => heap_setBlock_other hb _ (fun e => hi (by rw [e]))⟩, by simp [setBlock]⟩
  rcases KK.find w hkey es.toList (h2.keys hK) with ⟨h3, h4⟩ | ⟨j, e0, h3, h4, h5⟩
  · refine ⟨_, ?_, fin (es.push ⟨.int .i64 k, v, clock⟩) (clock + 1) ⟨stamped_push h2.st h4, ?_, ?_, ?_⟩⟩
    · simp [Instr.mapUpdate, run_underlying hT, MapKept.run_getObj_map hb, KK.check w false hkey, h3, MapKept.run_setObj_map _ hb, Result.andThen, setBlock]
    · intro x hx
      simp only [Array.toList_push, List.mem_append, List.mem_singleton] at hx
      rcases hx with hx | rfl
      · exact h2.ks x hx
      · exact ⟨k, rfl, hk⟩
    · intro x hx q hq
      simp only [Array.toList_push, List.mem_append, List.mem_singleton] at hx
      rcases hx with hx | rfl
      · have : q ≠ k := by rintro rfl; exact h4 x hx hq
        rw [iset_ne _ _ this]; exact h2.val x hx q hq
      · simp at hq; subst hq; exact iset_at _ _ _
    · intro q hq
      simp only [Array.toList_push, List.mem_append, List.mem_singleton]
      by_cases e : q = k
      · subst e; exact ⟨_, .inr rfl, rfl⟩
      · rw [iset_ne _ _ e] at hq
        obtain ⟨x, hx, ex⟩ := h2.dom q hq
        exact ⟨x, .inl hx, ex⟩
  · have hj : es[j]? = some e0 := by simpa using h4
    refine ⟨_, ?_, fin (es.modify j (fun e' => { e' with key := .int .i64 k, val := v })) clock (h2.put h4 h5 v).1⟩
    simp [Instr.mapUpdate, run_underlying hT, MapKept.run_getObj_map hb, KK.check w false hkey, h3, hj, h5, KK.stays w hkey, MapKept.run_setObj_map _ hb, Result.andThen, setBlock]
theorem MapI.drop (h : MapI w b F) (hT : P.underlying T = some (.map K E)) (hK : P.underlying K = some (.int .i64)) {k : Int} (hk : -1000000 ≤ k ∧ k ≤ 1000000) (ty : TypeId) :
    ∃ w', (Builtin.delete_ #[T, K] ty #[.map (some b), .int .i64 k]).run P w = .ok (.tuple #[]) w' ∧ MapI w' b (iset F k none) ∧ w.grownBy w' (some b) ∧ w'.heap.size = w.heap.size := by
  obtain ⟨es, clock, hb, h2⟩ := h
  have KK := Maps.int_keyed hK
  have hkey := intKey hK hk
  have fin : ∀ es', MapE es' clock (iset F k none) → MapI (setBlock w b (.map es' clock)) b (iset F k none) ∧ w.grownBy (setBlock w b (.map es' clock)) (some b) ∧ (setBlock w b (.map es' clock)).heap.size = w.heap.size := fun es' hE =>
    ⟨⟨es', clock, heap_setBlock_same hb _, hE⟩, ⟨rfl, rfl, rfl, by simp [setBlock], fun i _ hi => heap_setBlock_other hb _ (fun e => hi (by rw [e]))⟩, by simp [setBlock]⟩
  rcases KK.find w hkey es.toList (h2.keys hK) with ⟨h3, h4⟩ | ⟨j, e0, h3, h4, h5⟩
  · have e0 : iset F k none = F := by
      funext q
      by_cases e : q = k
      · subst e; rw [iset_at, h2.none_of h4]
      · exact iset_ne _ _ e
    refine ⟨_, ?_, fin es (by rw [e0]; exact h2)⟩
    simp [Builtin.delete_, run_underlying hT, MapKept.run_getObj_map hb, KK.check w _ hkey, h3, MapKept.run_setObj_map _ hb, Result.andThen, setBlock]
  · have hjl : j < es.toList.length := (List.getElem?_eq_some_iff.1 h4).1
    have hjs : j < es.size := by simpa using hjl
    have hst := (stamped_iff es clock).1 h2.st
    have hm0 := List.mem_of_getElem? h4
    have hsub : (es.eraseIdxIfInBounds j).toList = es.toList.eraseIdx j := by
      unfold Array.eraseIdxIfInBounds
      rw [dif_pos hjs]
      simp
    have who : ∀ x, x ∈ es.toList.eraseIdx j ↔ (x ∈ es.toList ∧ x.key ≠ .int .i64 k) := by
      intro x
      rw [List.mem_eraseIdx_iff_getElem?]
      constructor
      · rintro ⟨i, hne, hi⟩
        refine ⟨List.mem_of_getElem? hi, fun e1 => hne ?_⟩
        obtain ⟨hi1, hi2⟩ := List.getElem?_eq_some_iff.1 hi
        obtain ⟨hj1, hj2⟩ := List.getElem?_eq_some_iff.1 h4
        have h7 := hst.2.2
        rcases Nat.lt_trichotomy i j with h8 | h8 | h8
        · exact absurd (by rw [hi2, hj2, e1, h5]) (List.pairwise_iff_getElem.1 h7 i j hi1 hj1 h8)
        · exact h8
        · exact absurd (by rw [hi2, hj2, e1, h5]) (List.pairwise_iff_getElem.1 h7 j i hj1 hi1 h8)
      · rintro ⟨hx, hne⟩
        obtain ⟨i, hi⟩ := List.getElem?_of_mem hx
        refine ⟨i, fun e1 => hne ?_, hi⟩
        rw [e1, h4] at hi
        cases hi
        exact h5
    refine ⟨_, ?_, fin (es.eraseIdxIfInBounds j) ⟨stamped_erase h2.st j, ?_, ?_, ?_⟩⟩
    · simp [Builtin.delete_, run_underlying hT, MapKept.run_getObj_map hb, KK.check w _ hkey, h3, MapKept.run_setObj_map _ hb, Result.andThen, setBlock]
    · intro x hx
      rw [hsub] at hx
      exact h2.ks x ((who x).1 hx).1
    · intro x hx q hq
      rw [hsub] at hx
      have : q ≠ k := by rintro rfl; exact ((who x).1 hx).2 hq
      rw [iset_ne _ _ this]; exact h2.val x ((who x).1 hx).1 q hq
    · intro q hq
      have e : q ≠ k := by rintro rfl; rw [iset_at] at hq; exact hq rfl
      rw [iset_ne _ _ e] at hq
      obtain ⟨x, hx, ex⟩ := h2.dom q hq
      exact ⟨x, by rw [hsub]; exact (who x).2 ⟨hx, by rw [ex]; simpa using e⟩, ex⟩
/-! ### ranging -/
/-- Block b is a map that holds F, block r an iterator over it; left k: the entry at k is still to come; cnt: how many are. -/
def MapR (w : World) (b r : Nat) (F : Int → Option Value) (left : Int → Bool) (cnt : Nat) : Prop :=
  ∃ es clock since seen c0, w.heap[b]? = some (.map es clock) ∧ MapE es clock F ∧ w.heap[r]? = some (.mapIter (some b) since seen c0) ∧ (∀ x ∈ es.toList, x.born < since) ∧ (Go.leftOf es seen).size = cnt ∧
    (∀ x ∈ es.toList, ∀ k, x.key = .int .i64 k → left k = !seen.contains x.born) ∧ (∀ k, left k = true → F k ≠ none) ∧ since ≤ c0 ∧ since ≤ clock
variable {r cnt : Nat} {left : Int → Bool}
theorem MapR.map (h : MapR w b r F left cnt) : MapI w b F := by obtain ⟨es, clock, _, _, _, h1, h2, _⟩ := h; exact ⟨es, clock, h1, h2⟩
theorem MapR.ne (h : MapR w b r F left cnt) : r ≠ b := by
  obtain ⟨es, clock, since, seen, c0, h1, _, h3, _⟩ := h
  rintro rfl
  rw [h1] at h3; cases h3
theorem MapR.lt (h : MapR w b r F left cnt) : r < w.heap.size := by obtain ⟨es, clock, since, seen, c0, h1, _, h3, _⟩ := h; exact (Array.getElem?_eq_some_iff.1 h3).1
theorem MapR.keep {w' : World} (h : MapR w b r F left cnt) (h1 : w'.heap[b]? = w.heap[b]?) (h2 : w'.heap[r]? = w.heap[r]?) : MapR w' b r F left cnt := by
  obtain ⟨es, clock, since, seen, c0, k1, k2, k3, k4⟩ := h
  exact ⟨es, clock, since, seen, c0, h1.trans k1, k2, h2.trans k3, k4⟩
theorem MapI.range (h : MapI w b F) (hT : P.underlying T = some (.map K E)) :
    ∃ w' cnt, (Instr.range T (.map (some b))).run P w = .ok (.pointer (some ⟨w.heap.size, 0, none⟩)) w' ∧ MapR w' b w.heap.size F (fun k => (F k).isSome) cnt ∧ w.grownBy w' none ∧ w'.heap.size = w.heap.size + 1 := by
  have hlt := h.lt
  obtain ⟨es, clock, hb, h2⟩ := h
  refine ⟨_, _, run_range_map w T K E b es clock hT hb, ⟨es, clock, clock, #[], clock, ((MapKept.heap_alloc w _).2 b hlt).trans hb, h2, (MapKept.heap_alloc w _).1, h2.st.1, rfl, ?_, ?_, Nat.le_refl _, Nat.le_refl _⟩, World.grownBy_alloc w _ none, by simp⟩
  · intro x hx k hk
    simp [h2.val x hx k hk]
  · intro k hk e
    simp [e] at hk
/-- The step: nothing is left, or some entry comes. -/
theorem MapR.next (h : MapR w b r F left cnt) (ty : TypeId) :
    (cnt = 0 ∧ (∀ k, left k = false) ∧ (Instr.next (.pointer (some ⟨r, 0, none⟩)) false ty).run P w = .ok (.tuple #[.bool false]) w) ∨
    ∃ (k : Int) (v : Value) (w' : World) (cnt' : Nat), F k = some v ∧ left k = true ∧ (Instr.next (.pointer (some ⟨r, 0, none⟩)) false ty).run P w = .ok (.tuple #[.bool true, .int .i64 k, v]) w' ∧
      MapR w' b r F (fun i => left i && decide (i ≠ k)) cnt' ∧ cnt' < cnt ∧ w.grownBy w' (some r) ∧ w'.heap.size = w.heap.size ∧ (Instr.entry (.pointer (some ⟨r, 0, none⟩))).run P w' = .ok (.tuple #[.int .i64 k, v]) w' := by
  have hne := h.ne
  obtain ⟨es, clock, since, seen, c0, hb, h2, hr, hold, rfl, hl1, hl2, hsc, hsk⟩ := h
  have hst := (stamped_iff es clock).1 h2.st
  rcases run_next_at (P := P) w ty r b since c0 seen es clock hr hb hold hsc with ⟨h0, hrun⟩ | ⟨e, he, w1, hal, hrun⟩
  · refine .inl ⟨h0, fun k => ?_, hrun⟩
    cases hk : left k
    · rfl
    · obtain ⟨x, hx, ex⟩ := h2.dom k (hl2 k hk)
      rw [hl1 x hx k ex, all_seen es seen h0 x hx] at hk
      cases hk
  · obtain ⟨hem, hes⟩ := mem_left he
    obtain ⟨k, hk, hk2⟩ := h2.ks e hem
    have hr1 : w1.heap[r]? = some (.mapIter (some b) since seen c0) := by rcases hal with rfl | rfl <;> exact hr
    have hb1 : w1.heap[b]? = some (.map es clock) := by rcases hal with rfl | rfl <;> exact hb
    have hset := heap_set (o' := .mapIter (some b) since (seen.push e.born) clock) hr1
    have hb' : (setBlock w1 r (.mapIter (some b) since (seen.push e.born) clock)).heap[b]? = some (.map es clock) := (hset.2 b (fun e1 => hne e1.symm)).trans hb1
    rw [hk] at hrun
    refine .inr ⟨k, e.val, _, _, h2.val e hem k hk, by rw [hl1 e hem k hk, hes]; rfl, hrun,
      ⟨es, clock, since, seen.push e.born, clock, hb', h2, hset.1, hold, rfl, fun x hx q hq => ?_, fun q hq => hl2 q (by simp at hq; exact hq.1), hsk, hsk⟩, left_shrinks es seen e he, ?_, ?_, ?_⟩
    · show (left q && decide (q ≠ k)) = _
      rw [hl1 x hx q hq, contains_push]
      by_cases e1 : q = k
      · subst e1
        have : x = e := entry_eq_of_key hst.2.2 hx hem (by rw [hq, hk])
        subst this
        simp
      · have : x.born ≠ e.born := fun e2 => by
          have := born_inj hst.2.1 hx hem e2
          subst this
          rw [hq] at hk; simp at hk; exact e1 hk
        simp [e1, this]
    · rcases hal with rfl | rfl <;> exact ⟨rfl, rfl, rfl, by simp [setBlock], fun i _ hi => hset.2 i (fun e1 => hi (by rw [e1]))⟩
    · rcases hal with rfl | rfl <;> simp [setBlock]
    · have := run_entry_at (P := P) _ r b since seen es clock e hset.1 hb' hem hst.2.1
      rw [hk] at this
      exact this
/-- A store in the round, at a key that is there. -/
theorem MapR.store (h : MapR w b r F left cnt) (hT : P.underlying T = some (.map K E)) (hK : P.underlying K = some (.int .i64)) {k : Int} (hk : F k ≠ none) (v : Value) :
    ∃ w', (Instr.mapUpdate T (.map (some b)) (.int .i64 k) v).run P w = .ok () w' ∧ MapR w' b r (iset F k (some v)) left cnt ∧ w.grownBy w' (some b) ∧ w'.heap.size = w.heap.size := by
  have hne := h.ne
  have hin := h.map.inn hk
  obtain ⟨es, clock, since, seen, c0, hb, h2, hr, hold, rfl, hl1, hl2, hsc, hsk⟩ := h
  have KK := Maps.int_keyed hK
  have hkey := intKey hK (k := k) (by omega)
  have hst := (stamped_iff es clock).1 h2.st
  rcases KK.find w hkey es.toList (h2.keys hK) with ⟨h3, h4⟩ | ⟨j, e0, h3, h4, h5⟩
  · exact absurd (h2.none_of h4) hk
  · have hj : es[j]? = some e0 := by simpa using h4
    obtain ⟨p1, p2, p3⟩ := h2.put h4 h5 v
    have hlen : (es.modify j (fun e' => { e' with key := .int .i64 k, val := v })).toList.length = es.toList.length := by simp
    -- an entry of the new ones has an old one with its key and its stamp
    have old : ∀ x ∈ (es.modify j (fun e' => { e' with key := .int .i64 k, val := v })).toList, ∃ y ∈ es.toList, y.key = x.key ∧ y.born = x.born := fun x hx => by
      obtain ⟨i, hi, rfl⟩ := List.getElem_of_mem hx
      have hi' : i < es.toList.length := by omega
      refine ⟨es.toList[i], List.getElem_mem hi', ?_, ?_⟩
      · have := congrArg (fun l => l[i]?) p3
        simp only [List.getElem?_map, List.getElem?_eq_getElem hi, List.getElem?_eq_getElem hi', Option.map_some, Option.some.injEq] at this
        exact this.symm
      · have := congrArg (fun l => l[i]?) p2
        simp only [List.getElem?_map, List.getElem?_eq_getElem hi, List.getElem?_eq_getElem hi', Option.map_some, Option.some.injEq] at this
        exact this.symm
    refine ⟨_, ?_, ⟨es.modify j (fun e' => { e' with key := .int .i64 k, val := v }), clock, since, seen, c0, heap_setBlock_same hb _, p1, (heap_setBlock_other hb _ hne).trans hr, fun x hx => ?_, ?_, fun x hx q hq => ?_, fun q hq => ?_, hsc, hsk⟩, ⟨rfl, rfl, rfl, by simp [setBlock], fun i _ hi => heap_setBlock_other hb _ (fun e => hi (by rw [e]))⟩, by simp [setBlock]⟩
    · simp [Instr.mapUpdate, run_underlying hT, MapKept.run_getObj_map hb, KK.check w false hkey, h3, hj, h5, KK.stays w hkey, MapKept.run_setObj_map _ hb, Result.andThen, setBlock]
    · obtain ⟨y, hy, _, e⟩ := old x hx
      rw [← e]; exact hold y hy
    · have cnt_of : ∀ a : Array MapEntry, (Go.leftOf a seen).size = ((a.toList.map (·.born)).filter fun n => !seen.contains n).length := fun a => by
        unfold Go.leftOf
        rw [List.filter_map, List.length_map, ← Array.length_toList, Array.toList_filter]; rfl
      rw [cnt_of, cnt_of, p2]
    · obtain ⟨y, hy, e1, e2⟩ := old x hx
      rw [← e2]; exact hl1 y hy q (by rw [e1]; exact hq)
    · by_cases e : q = k
      · subst e; rw [iset_at]; simp
      · rw [iset_ne _ _ e]; exact hl2 q hq
end
end Go.Proofs.Ytkfhjpgapmfiaaa

