/-
  Layer 4: contract of the heap's Entries, over the laid contracts of slices.Clone and slices.SortFunc. Every heap.
-/
import Derived.Test.YtlnbjmmbjhglnaaHpApi3
import Derived.Test.YtlnbjmmbjhglnaaHpShelf
namespace Go.Proofs.Ytlnbjmmbjhglnaa
open Go.ChangeShapes Go.WideShapes Go.ChangeAt Go.RowKit Go.Lib Go.Sort
set_option linter.unusedVariables false

def encE (x : Int × Int) : List Value := [.int .i64 x.1, .int .i64 x.2]
theorem ltOf_cf (x y : Int × Int) : ltOf cf2 x y = decide (lt2 x y) := decide_eq_decide.2 cf2_lt
theorem swo_cf : SWO (ltOf cf2) where
  irrefl x := by rw [ltOf_cf]; exact decide_eq_false (lt2_irrefl x)
  trans x y z h1 h2 := by rw [ltOf_cf] at *; exact decide_eq_true (lt2_trans (of_decide_eq_true h1) (of_decide_eq_true h2))
  ntrans x y z h1 h2 := by
    rw [ltOf_cf] at *
    exact decide_eq_false (not_lt2 (le2_trans (le2_of_not (of_decide_eq_false h2)) (le2_of_not (of_decide_eq_false h1))))
theorem tot_cf (x y : Int × Int) (h1 : ltOf cf2 x y = false) (h2 : ltOf cf2 y x = false) : x = y := by
  rw [ltOf_cf] at *
  rcases lt2_tri x y with h | h | h
  · exact absurd h (of_decide_eq_false h1)
  · exact h
  · exact absurd h (of_decide_eq_false h2)
def leB (x y : Int × Int) : Bool := !(ltOf cf2) y x
theorem leB_iff (x y : Int × Int) : leB x y = true ↔ le2 x y := by
  unfold leB; rw [ltOf_cf]
  by_cases h : lt2 y x
  · rw [decide_eq_true h]; simp; intro h2; exact not_lt2 h2 h
  · rw [decide_eq_false h]; simp; exact le2_of_not h
/-- The sorted entries. -/
def srt (E : Nat → Int × Int) (n : Nat) : List (Int × Int) := ((List.range n).map E).mergeSort leB
theorem srt_len (E : Nat → Int × Int) (n : Nat) : (srt E n).length = n := by
  exact (List.mergeSort_perm ((List.range n).map E) leB).length_eq.trans (by simp)
def atS (E : Nat → Int × Int) (n : Nat) (j : Nat) : Int × Int := (srt E n).toArray[j]!
theorem atS_get (E : Nat → Int × Int) (n j : Nat) (h : j < (srt E n).length) : atS E n j = (srt E n)[j] := by
  unfold atS; simp [h]
theorem srt_cont {E : Nat → Int × Int} {n : Nat} {M : Int → Option Int} (h : Cont E n M) : Cont (atS E n) n M := by
  intro id k
  rw [h id k]
  have hp := List.mergeSort_perm ((List.range n).map E) leB
  have hl := srt_len E n
  constructor
  · rintro ⟨j, hj, e⟩
    have hm : (id, k) ∈ srt E n := hp.mem_iff.2 (List.mem_map.2 ⟨j, List.mem_range.2 hj, e⟩)
    obtain ⟨i, hi, e2⟩ := List.mem_iff_getElem.1 hm
    exact ⟨i, by omega, by rw [atS_get E n i hi, e2]⟩
  · rintro ⟨j, hj, e⟩
    rw [atS_get E n j (by omega)] at e
    have hm : (id, k) ∈ (List.range n).map E := hp.mem_iff.1 (by rw [← e]; exact List.getElem_mem _)
    obtain ⟨i, hi, e2⟩ := List.mem_map.1 hm
    exact ⟨i, List.mem_range.1 hi, e2⟩
theorem srt_asc {E : Nat → Int × Int} {n : Nat} (h : Dist E n) : Asc (atS E n) n := by
  have hl := srt_len E n
  have hp := List.mergeSort_perm ((List.range n).map E) leB
  have hs : List.Pairwise (fun a b => leB a b = true) (srt E n) := by
    unfold srt
    refine List.pairwise_mergeSort ?_ ?_ _
    · intro a b c h1 h2
      exact (leB_iff a c).2 (le2_trans ((leB_iff a b).1 h1) ((leB_iff b c).1 h2))
    · intro a b
      rcases lt2_tri a b with h | h | h
      · rw [(leB_iff a b).2 (le2_of_lt h), Bool.true_or]
      · rw [h, (leB_iff b b).2 (le2_refl b), Bool.true_or]
      · rw [(leB_iff b a).2 (le2_of_lt h), Bool.or_true]
  have hn : (srt E n).Nodup := by
    refine hp.nodup_iff.2 ?_
    refine List.pairwise_iff_getElem.2 (fun i j hi hj hij e => ?_)
    simp only [List.getElem_map, List.getElem_range] at e
    simp only [List.length_map, List.length_range] at hi hj
    have := h i j hi hj (by rw [e]); omega
  intro a b hab hb
  rw [atS_get E n a (by omega), atS_get E n b (by omega)]
  have ha' : a < (srt E n).length := by omega
  have hb' : b < (srt E n).length := by omega
  have h0 : leB (srt E n)[a] (srt E n)[b] = true := (List.pairwise_iff_getElem.1 hs) a b ha' hb' hab
  have h1 := (leB_iff (srt E n)[a] (srt E n)[b]).1 h0
  have h2 : (srt E n)[a] ≠ (srt E n)[b] := (List.pairwise_iff_getElem.1 hn) a b ha' hb' hab
  rcases lt2_tri (srt E n)[a] (srt E n)[b] with h | h | h
  · exact h
  · exact absurd h h2
  · exact absurd h (not_lt2 h1)

/-- What Entries answers. -/
def ListAns (M : Int → Option Int) (n : Nat) (w : World) (e : Ending) (w' : World) : Prop :=
  ∃ (A : Option Addr) (c : Nat) (F : Nat → Int × Int), e = .returned (.slice A n c) ∧ Prs w' w.heap.size w'.heap.size A n (fun j => (F j).1) (fun j => (F j).2) ∧ Asc F n ∧ Cont F n M ∧ Below w.heap.size w w'
theorem flatK_at (d : Array (Int × Int)) (t : Nat) (h : t < d.size * 2) : (flatK encE 2 d)[t]! = prE (fun j => d[j]!) t := by
  rw [get_flatK encE 2 d t h]
  unfold prE encE
  rcases (by omega : t % 2 = 0 ∨ t % 2 = 1) with e | e
  · rw [e, if_pos rfl]; rfl
  · rw [e, if_neg (by decide)]; rfl
theorem sortWorld_block (w : World) (blk : Nat) (m : Nat) (dk : Array (Int × Int)) (os : Array Obj) (k : Nat) (hk : k < w.heap.size) (hn : k ≠ blk) : (sortWorldK encE 2 w blk 0 m dk os).heap[k]? = w.heap[k]? := by
  show ((w.heap.modify blk _) ++ os)[k]? = _
  rw [Array.getElem?_append_left (by simpa using hk), Array.getElem?_modify, if_neg (fun e => hn e.symm)]
theorem sortWorld_below {w0 w : World} {blk : Nat} (hb : Below w0.heap.size w0 w) (h0 : w0.heap.size ≤ blk) (hB : blk < w.heap.size) (m : Nat) (dk : Array (Int × Int)) (os : Array Obj) : Below w0.heap.size w0 (sortWorldK encE 2 w blk 0 m dk os) :=
  hb.trans ⟨rfl, rfl, rfl, by simp [sortWorldK, grow, putRowK, putRow, mapBlock], fun k hk => sortWorld_block w blk m dk os k (by have := hb.size; omega) (by omega)⟩
theorem holds_ent {w : World} {C g c n : Nat} {E : Nat → Int × Int} (h : Ents w C (.slice (some ⟨g, 0, none⟩) n c) n E) : HoldsK encE 2 w g 0 ((List.range n).map E).toArray := by
  intro t ht
  have ht' : t < n * 2 := by simpa using ht
  refine ⟨?_, World.ownsRow.frozenAt h _⟩
  rw [Nat.zero_add, World.ownsRow.cellAt h t ht', flatE_at E n t ht', flatK_at _ t (by simpa using ht')]
  have : ((List.range n).map E).toArray[t / 2]! = E (t / 2) := by simp [show t / 2 < n by omega]
  show some (prE E t) = some (prE (fun j => ((List.range n).map E).toArray[j]!) t)
  unfold prE
  simp only [this]
theorem cmp_lays (blk off size : Nat) (w : World) : CmpLays Try.prog 33 #[] encE 2 cf2 blk off size w := fun m os dk hs x y => cmp_try x.1 x.2 y.1 y.2 _
theorem enter_cmp : ∀ args w, (callFunc 33 args).run Try.prog w = .ok (.enter 33 args) w := enters_of Try.func33 (by kernel_rfl) rfl
theorem encE_one : ∀ x : Int × Int, ∀ v ∈ encE x, v.oneCell' = true := fun x v hv => by simp [encE] at hv; rcases hv with rfl | rfl <;> rfl
theorem sort_ents {w0 w : World} {g c n : Nat} {E : Nat → Int × Int} (h : Ents w w0.heap.size (.slice (some ⟨g, 0, none⟩) n c) n E) (hg : w0.heap.size ≤ g) (hgl : g < w.heap.size) (hn : n ≤ 4096) (hb : Below w0.heap.size w0 w) :
    Calls Try.prog 32 #[.slice (some ⟨g, 0, none⟩) n c, .func (.func 33) #[] #[]] w fun e w' => e = .returned (.tuple #[]) ∧ Prs w' w0.heap.size w'.heap.size (some ⟨g, 0, none⟩) n (fun j => (atS E n j).1) (fun j => (atS E n j).2) ∧ Below w0.heap.size w0 w' := by
  rcases Nat.eq_zero_or_pos n with rfl | h0
  · refine (AnyF.slices_SortFunc_none { sortF with } (some ⟨g, 0, none⟩) c (.func (.func 33) #[] #[]) w).mono ?_
    rintro e w' ⟨rfl, rfl⟩
    exact ⟨rfl, Cells.nil, hb⟩
  · have hH := holds_ent h
    have hsz : ((List.range n).map E).toArray.size = n := by simp
    have hcon := AnyQ.slices_SortFunc_total sortF 2 Try.isAgg40 Try.sizeOf40 encE (fun _ => rfl) encE_one cf2 swo_cf 33 #[] g 0 c ((List.range n).map E).toArray w enter_cmp (cmp_lays _ _ _ _) hH hgl (by rw [hsz]; omega) tot_cf
    rw [hsz] at hcon
    refine Calls.mono hcon ?_
    rintro e w' ⟨rfl, m, os, rfl⟩
    have hd : (((List.range n).map E).toArray.toList.mergeSort fun x y => !(ltOf cf2) y x).toArray = (srt E n).toArray := rfl
    rw [hd]
    have hs2 : (srt E n).toArray.size = n := by simpa using srt_len E n
    have hH2 := holdsK_sortWorldK encE 2 w g 0 m _ (srt E n).toArray os hgl hH (by rw [hs2, hsz])
    refine ⟨rfl, fun j hj => ⟨g, 0, rfl, hg, lt_sortWorldK encE 2 w g 0 m _ os hgl, ?_⟩, sortWorld_below hb hg hgl m _ os⟩
    have h2 := (hH2 j (by rw [size_flatK, hs2]; exact hj)).1
    rw [h2]
    show some (id _) = _
    rw [flatK_at _ j (by rw [hs2]; exact hj)]
    rfl
theorem clone_ents {w : World} {C g c n : Nat} {E : Nat → Int × Int} (h : Ents w C (.slice (some ⟨g, 0, none⟩) n c) n E) (hn : n ≤ 4096) :
    Calls Try.prog 31 #[.slice (some ⟨g, 0, none⟩) n c] w fun e w' => ∃ g' c', e = .returned (.slice (some ⟨g', 0, none⟩) n c') ∧ w.heap.size ≤ g' ∧ g' < w'.heap.size ∧ Ents w' w.heap.size (.slice (some ⟨g', 0, none⟩) n c') n E ∧ Below w.heap.size w w' := by
  obtain ⟨i0, hii, hz0, hz1, hz2⟩ := info_parts info_ent
  have hcon := AnyE.slices_Clone cloneF i0 _ 2 16 hii hz0 hz1 hz2 rfl (by decide) Try.sizeOf40 g 0 n c (flatE E n) w (flatE_len _ _) (by unfold maxLen; omega) (by omega)
    (fun j u hj => by
      have hjl : j < n * 2 := by
        rcases Nat.lt_or_ge j (n * 2) with h' | h'
        · exact h'
        · rw [List.getElem?_eq_none (by rw [flatE_len]; exact h')] at hj; cases hj
      rw [Nat.zero_add, World.ownsRow.cellAt h j hjl]; exact hj)
    (fun u hu => by
      obtain ⟨j, hj, e⟩ := List.mem_iff_getElem?.1 hu |>.imp fun j e => (⟨(by
        rcases Nat.lt_or_ge j (n * 2) with h' | h'
        · exact h'
        · rw [List.getElem?_eq_none (by rw [flatE_len]; exact h')] at e; exact absurd e (by simp)), e⟩ : j < n * 2 ∧ _)
      rw [flatE_at E n j hj] at e; cases e; rfl)
  refine Calls.mono hcon ?_
  rintro e w' ⟨v', rfl, hown, hne, hb⟩
  rcases hown.2 with ⟨hv, _⟩ | ⟨g', c', cur, rfl, h1, h2, _⟩
  · exact absurd hv hne
  · exact ⟨g', c', rfl, h1, lt_of_block h2, hown, hb⟩
set_option maxRecDepth 100000 in
set_option maxHeartbeats 2000000 in
theorem entries_any {C H cap n : Nat} {S : Nat → Prop} {M : Int → Option Int} {w : World} (h : HeapO C H S cap n M w) :
    Calls Try.prog 14 #[.pointer (some ⟨H, 0, none⟩)] w (ListAns M n w) := by
  obtain ⟨PB, v, E, P, h1, h2, h3, h4, h5, h6⟩ := h
  obtain ⟨_, c1, _, _⟩ := h1.cells
  have hn4 : n ≤ 4096 := by have := h1.len; omega
  have hasc := srt_asc h2.dist
  have hcont := srt_cont h3
  have he := h1.ents
  rcases he.2 with ⟨rfl, rfl⟩ | ⟨g, c, cur, rfl, _⟩
  · have HC := Lib.hid (show Calls Try.prog 31 _ _ _ from AnyE.slices_Clone_nil cloneF 0 0 w)
    have HS := Lib.hid (show Calls Try.prog 32 _ _ _ from AnyF.slices_SortFunc_none { sortF with } none 0 (.func (.func 33) #[] #[]) w)
    have HF := Lib.hid (show ListAns M 0 w (.returned (.slice none 0 0)) w from ⟨none, 0, _, rfl, Cells.nil, hasc, hcont, Below.refl _ _⟩)
    clear h1 h2 h3 h4 h5 h6 hasc hcont he
    go_enter Try.func14, Try.ntmps14
    go_wp2_with fail
    (with_reducible refine HC.out.mono ?_)
    rintro e w1 ⟨rfl, rfl⟩
    go_wp2_with fail
    (with_reducible refine HS.out.mono ?_)
    rintro e w1 ⟨rfl, rfl⟩
    go_wp2
    go_ret
    exact HF.out
  · have HC := Lib.hid (clone_ents he hn4)
    have HF := Lib.hid (fun (A : Option Addr) (c : Nat) (w' : World) (hp : Prs w' w.heap.size w'.heap.size A n (fun j => (atS E n j).1) (fun j => (atS E n j).2)) (hb : Below w.heap.size w w') => (show ListAns M n w (.returned (.slice A n c)) w' from ⟨A, c, atS E n, rfl, hp, hasc, hcont, hb⟩))
    clear h1 h2 h3 h4 h5 h6 hasc hcont he
    go_enter Try.func14, Try.ntmps14
    go_wp2_with fail
    (with_reducible refine HC.out.mono ?_)
    rintro e w1 ⟨g1, c1, rfl, hg1, hgl, he1, hb1⟩
    have HS := Lib.hid (sort_ents he1 hg1 hgl hn4 hb1)
    clear hg1 hgl he1 hb1
    go_wp2_with fail
    (with_reducible refine HS.out.mono ?_)
    rintro e w2 ⟨rfl, hp2, hb2⟩
    have HF2 := Lib.hid (HF.out _ c1 _ hp2 hb2)
    clear hp2 hb2
    go_wp2
    go_ret
    exact HF2.out
end Go.Proofs.Ytlnbjmmbjhglnaa
