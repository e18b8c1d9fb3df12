/-
  Layer 9: contract of the reference's words.
-/
import Derived.Test.YtfkbohfelacaoaaDoorRuNum
import Derived.Test.YtfkbohfelacaoaaDoorLbRef2
import Derived.Test.YtfkbohfelacaoaaDoorRuMem
namespace Go.Proofs.YtfkbohfelacaoaaDoor
open Go.ChangeShapes Go.WideShapes Go.ChangeAt Go.RowKit
set_option linter.unusedVariables false

/-- Words as cells. -/
def sc1 (x : List UInt8) : Value := .string ⟨x.toArray⟩
def scs (l : List (List UInt8)) : List Value := l.map sc1
theorem scs_app (l m : List (List UInt8)) : scs (l ++ m) = scs l ++ scs m := by unfold scs; rw [List.map_append]
theorem scs_len (l : List (List UInt8)) : (scs l).length = l.length := by unfold scs; rw [List.length_map]
theorem scInfo : (Tryd.prog.info? 9).map (fun i => (i.zero, i.size, i.bytes)) = some (some (.string ⟨#[]⟩), 1, 16) := by kernel_rfl
def WdAns (l : List UInt8) (w : World) (e : Ending) (w' : World) : Prop := ∃ v, e = .returned v ∧ w'.ownsRow w.heap.size 9 1 v (wsp 32 l).length (scs (wsp 32 l)) ∧ Below w.heap.size w w'
/-- In the loop: the words so far, the last one apart. -/
structure SB (W0 wr : World) (l : List UInt8) (k g c : Nat) (ws : List (List UInt8)) (x : List UInt8) : Prop where
  row : wr.ownsRow W0.heap.size 9 1 (.slice (some ⟨g, 0, none⟩) (ws.length + 1) c) (ws.length + 1) (scs (ws ++ [x]))
  below : Below W0.heap.size W0 wr
  is : wsp 32 (l.take k) = ws ++ [x]
theorem SB.last {W0 wr : World} {l : List UInt8} {k g c : Nat} {ws : List (List UInt8)} {x : List UInt8} (h : SB W0 wr l k g c ws x) : wr.cell? ⟨g, ws.length, none⟩ = some (.string ⟨x.toArray⟩) ∧ wr.frozen? ⟨g, ws.length, none⟩ = false := by
  refine ⟨?_, h.row.frozenAt _⟩
  rw [h.row.cellAt _ (by omega), scs_app, List.getElem?_append_right (by rw [scs_len]; exact Nat.le_refl _), scs_len, Nat.sub_self]
  rfl
theorem SB.store {W0 wr : World} {l : List UInt8} {k g c : Nat} {ws : List (List UInt8)} {x y : List UInt8} (h : SB W0 wr l k g c ws x) (hy : wsp 32 (l.take (k + 1)) = ws ++ [y]) : SB W0 (wr.setCell ⟨g, ws.length, none⟩ (.string ⟨y.toArray⟩)).drew l (k + 1) g c ws y := by
  obtain ⟨h1, h2⟩ := h.row.stored ws.length (.string ⟨y.toArray⟩)
  obtain ⟨g', c', e, hb, _⟩ := own_form h.row (by omega)
  simp only [Value.slice.injEq, Option.some.injEq, Addr.mk.injEq, and_true, true_and] at e
  obtain ⟨rfl, rfl⟩ := e
  refine ⟨?_, (h.below.setCell (p := ⟨g, ws.length, none⟩) hb _).drew, hy⟩
  have e2 : (scs (ws ++ [x])).set ws.length (.string ⟨y.toArray⟩) = scs (ws ++ [y]) := by
    rw [scs_app, scs_app, List.set_append_right _ _ (by rw [scs_len]; exact Nat.le_refl _), scs_len, Nat.sub_self]; rfl
  rw [e2] at h1
  exact h1
theorem own_caps {w : World} {base : Nat} {e : TypeId} {size : Nat} {v : Value} {n : Nat} {xs : List Value} (h : w.ownsRow base e size v n xs) (hn : 0 < n) :
    ∃ g cap, v = .slice (some ⟨g, 0, none⟩) n cap ∧ n ≤ cap ∧ cap ≤ 9223372036854775807 := by
  rcases h.2 with ⟨_, h0⟩ | ⟨g, cap, cur, hv, hb, hg, h1, h2, _⟩
  · omega
  · exact ⟨g, cap, hv, h1, by unfold maxLen at h2; omega⟩
theorem SB.grow {W0 wr w4 : World} {l : List UInt8} {k g c : Nat} {ws : List (List UInt8)} {x : List UInt8} {v : Value} {o : Obj} (h : SB W0 wr l k g c ws x) (hk : wsp 32 (l.take (k + 1)) = wsp 32 (l.take k) ++ [[]]) (ho : w4.ownsRow W0.heap.size 9 1 v (ws.length + 1 + 1) (scs (ws ++ [x]) ++ [.string ⟨#[]⟩])) (hg : (wr.alloc o).grownBy w4 (some g)) (hgb : W0.heap.size ≤ g) :
    ∃ g' c', v = .slice (some ⟨g', 0, none⟩) (ws.length + 1 + 1) c' ∧ ws.length + 1 + 1 ≤ c' ∧ c' ≤ 9223372036854775807 ∧ SB W0 w4 l (k + 1) g' c' (ws ++ [x]) [] := by
  obtain ⟨g', c', e, h1, h2⟩ := own_caps ho (by omega)
  subst e
  refine ⟨g', c', rfl, h1, h2, ?_, (h.below.alloc h.below.size o).grown hg (by have := h.below.size; simp; omega) (fun k hk => by cases hk; exact hgb), by rw [hk, h.is]⟩
  rw [List.length_append, scs_app]
  exact ho
theorem SB.gb {W0 wr : World} {l : List UInt8} {k g c : Nat} {ws : List (List UInt8)} {x : List UInt8} (h : SB W0 wr l k g c ws x) : W0.heap.size ≤ g := by
  obtain ⟨g', c', e, hb, _⟩ := own_form h.row (by omega)
  simp only [Value.slice.injEq, Option.some.injEq, Addr.mk.injEq, and_true, true_and] at e
  omega
theorem SB.start (W0 : World) (l : List UInt8) : SB W0 (W0.alloc (.cells #[.string ⟨#[]⟩] 9)) l 0 W0.heap.size 1 [] [] :=
  ⟨World.ownsRow_lit W0 #[.string ⟨#[]⟩] 1 (Nat.le_refl _) (by unfold maxLen; omega) rfl, (Below.refl _ _).alloc (Nat.le_refl _) _, rfl⟩
theorem wsp_space {l : List UInt8} {k : Nat} (hk : k < l.length) (h : nb l k = 32) : wsp 32 (l.take (k + 1)) = wsp 32 (l.take k) ++ [[]] := by
  rw [List.take_succ_eq_append_getElem hk]
  have : l[k] = 32 := UInt8.toNat_inj.1 (by rw [← nb_at hk, h]; rfl)
  rw [this, wsp_snoc_new]
theorem wsp_byte {l : List UInt8} {k : Nat} {ws : List (List UInt8)} {x : List UInt8} (hk : k < l.length) (h : ¬ nb l k = 32) (e : wsp 32 (l.take k) = ws ++ [x]) : wsp 32 (l.take (k + 1)) = ws ++ [x ++ [l[k]]] := by
  rw [List.take_succ_eq_append_getElem hk]
  obtain ⟨ws', x', h1, h2⟩ := wsp_snoc_grow (c := 32) (b := l[k]) (fun k' => h (by rw [nb_at hk, k']; rfl)) (l.take k)
  rw [e] at h1
  obtain ⟨q1, q2⟩ := List.append_inj' h1 rfl
  cases q2
  rw [h2, q1]
theorem ext_one (s : ByteArray) (k : Nat) (h : k < s.size) (x : List UInt8) : (⟨x.toArray⟩ : ByteArray) ++ s.extract k (k + 1) = ⟨(x ++ [s.data.toList[k]'(by simpa using h)]).toArray⟩ := by
  apply ByteArray.ext; apply Array.toList_inj.1
  have h' : k < s.data.toList.length := by simpa using h
  have e : (s.extract k (k + 1)).data.toList = [s.data.toList[k]] := by
    have e0 : (s.extract k (k + 1)).data.toList = (s.data.toList.drop k).take (k + 1 - k) := by simp
    rw [e0, show k + 1 - k = 1 by omega, List.drop_eq_getElem_cons h']; rfl
  have e2 : ((⟨x.toArray⟩ : ByteArray) ++ s.extract k (k + 1)).data.toList = x ++ (s.extract k (k + 1)).data.toList := by simp
  rw [e2, e]
set_option maxHeartbeats 2000000 in
theorem words_is (s : ByteArray) (l : List UInt8) (hl : l = s.data.toList) (hs : s.size ≤ 1000000) (w : World) : Calls Tryd.prog 52 #[.string s] w (WdAns l w) := by
  obtain ⟨i0, hii, hz0, hz1, hz2⟩ := info_parts scInfo
  have H0 := Lib.hid (SB.start w l)
  have hll : l.length = s.size := by rw [hl, len_size]
  have hI := Lib.hid (fun k (hk : k < s.size) => show ((s[k]'hk).toNat : Int) = (nb l k : Nat) by rw [hl]; exact nb_idx s k hk)
  have hX := Lib.hid (fun k (hk : k < s.size) x => show (⟨x.toArray⟩ : ByteArray) ++ s.extract k (k + 1) = ⟨(x ++ [l[k]'(by omega)]).toArray⟩ by subst hl; exact ext_one s k hk x)
  clear hl
  go_enter Tryd.func52, Tryd.ntmps52
  go_wp2
  go_loopw [3, 4] (fun s3 s4 wr => ∃ (k g c : Nat) (ws : List (List UInt8)) (x : List UInt8), k ≤ s.size ∧ ws.length ≤ k ∧ x.length ≤ k ∧ s4 = .int .i64 k ∧ s3 = .slice (some ⟨g, 0, none⟩) (ws.length + 1) c ∧ ws.length + 1 ≤ c ∧ c ≤ 9223372036854775807 ∧ Hid (SB w wr l k g c ws x)) (fun _ s4 _ => s.size - (intOf s4).toNat)
  case atStart => exact ⟨0, _, 1, [], [], Nat.zero_le _, Nat.le_refl _, Nat.le_refl _, rfl, rfl, Nat.le_refl _, by decide, H0⟩
  case round =>
    obtain ⟨k, g, c, ws, x, hk, hws, hx, rfl, rfl, hc1, hc2, HB⟩ := hrel
    clear H0
    by_cases hlt : k < s.size
    · have hv := hI.out k hlt
      have hvl := nb_lt l k
      have hsz := HB.out.below.size
      have hgb := HB.out.gb
      by_cases hsp : nb l k = 32
      · have HG := Lib.hid (fun v w4 o ho hg => HB.out.grow (v := v) (w4 := w4) (o := o) (wsp_space (by omega) hsp) ho hg hgb)
        have hrow := HB.out.row
        rw [hsp] at hv
        clear hsp hvl hX hI HB
        go_wp2_with (at_builtin; refine wpList_append_own _ rfl (.tmp 16) (.tmp 17) 32 rfl w.heap.size 9 i0 (.string ⟨#[]⟩) 1 16 Tryd.underlying32 hii hz0 hz1 hz2 rfl (by decide) _ (ws.length + 1) (scs (ws ++ [x])) rfl (hrow.alloc _) ⟨wr.heap.size, 0, none⟩ 1 1 [.string ⟨#[]⟩] rfl rfl (rcCell _ _ _) (fun u hu => by simp only [List.mem_singleton] at hu; subst hu; rfl) (by unfold maxLen; omega) (by omega) (by simp; omega) ?_; intro v4 w4 hown4 hg4 _)
        obtain ⟨g', c', rfl, b1, b2, hB⟩ := HG.out _ _ _ hown4 hg4
        have HB' := Lib.hid hB
        clear hB hown4 hg4 HG hrow
        go_wp2
        go_roundw
        case rel => exact ⟨k + 1, g', c', ws ++ [x], [], by omega, by simp; omega, by simp, by go_num, by simp, by simp; omega, b2, HB'⟩
        case measure => simp [intOf]; omega
      · have hW2 := Lib.hid (wsp_byte (by omega) hsp HB.out.is)
        have HS := Lib.hid (HB.out.store hW2.out)
        obtain ⟨hc, hf⟩ := HB.out.last
        have hcat := hX.out k hlt x
        have HS2 := HS.out
        rw [← hcat] at HS2
        have HS3 := Lib.hid HS2
        have hd : (((nb l k : Nat) : Int) == 32) = false := by rw [beq_eq_false_iff_ne]; omega
        have hm : ((ws.length + 1 : Nat) : Int) - 1 = ws.length := by omega
        have hsx : (⟨x.toArray⟩ : ByteArray).size = x.length := by rw [Lib.size_eq]
        have hsy : (s.extract k (k + 1)).size ≤ 1 := by simp; omega
        have hsx2 : (⟨x.toArray⟩ : ByteArray).size ≤ 1000000 := by omega
        clear hsp hW2 HB HS HS2 hI hX hcat
        generalize nb l k = z at *
        go_wp2_with fail
        go_region
        go_wp2
        go_roundw
        case rel => exact ⟨k + 1, g, c, ws, _, by omega, by omega, by simp; omega, by go_num, rfl, hc1, hc2, HS3⟩
        case measure => simp [intOf]; omega
    · obtain rfl : k = s.size := by omega
      have HF := Lib.hid (show WdAns l w (.returned (.slice (some ⟨g, 0, none⟩) (ws.length + 1) c)) wr from ⟨_, rfl, by
        have e := HB.out.is
        rw [List.take_of_length_le (by omega)] at e
        rw [e]
        have := HB.out.row
        rw [show (ws ++ [x]).length = ws.length + 1 by simp]
        exact this, HB.out.below⟩)
      clear HB hI hX
      go_wp2
      go_ret
      exact HF.out
theorem words_any (s : ByteArray) (hs : s.size ≤ 1000000) (w : World) : Calls Tryd.prog 52 #[.string s] w (WdAns s.data.toList w) := words_is s _ rfl hs w
end Go.Proofs.YtfkbohfelacaoaaDoor

