/-
  Layer 9: contract of cut.
-/
import Derived.Test.YtfkbohfelacaoaaDoorRuPort
import Derived.Test.YtfkbohfelacaoaaDoorRuInc
namespace Go.Proofs.YtfkbohfelacaoaaDoor
open Go.ChangeShapes Go.WideShapes Go.ChangeAt Go.RowKit
set_option linter.unusedVariables false

/-- Four values stored. -/
def put4 (w : World) (H : Nat) (u0 u1 u2 u3 : Value) : World := (((w.setCell ⟨H, 0, none⟩ u0).setCell ⟨H, 1, none⟩ u1).setCell ⟨H, 2, none⟩ u2).setCell ⟨H, 3, none⟩ u3
theorem Whole.put4 {w : World} {H : Nat} {t : TypeId} {c0 c1 c2 c3 u0 u1 u2 u3 : Value} (h : Whole w H t #[c0, c1, c2, c3]) : Whole (put4 w H u0 u1 u2 u3) H t #[u0, u1, u2, u3] := (((h.put 0 u0).put 1 u1).put 2 u2).put 3 u3
theorem put4_below {w : World} {H C : Nat} {u0 u1 u2 u3 : Value} (h : C ≤ H) : Below C w (put4 w H u0 u1 u2 u3) :=
  (((((Below.refl C w).setCell (p := ⟨H, 0, none⟩) h u0).setCell (p := ⟨H, 1, none⟩) h u1).setCell (p := ⟨H, 2, none⟩) h u2).setCell (p := ⟨H, 3, none⟩) h u3)
/-- What cut answers. -/
def CutAns (l : List UInt8) (w : World) (e : Ending) (w' : World) : Prop :=
  ∃ (u0 u1 u2 u3 : ByteArray) (b : Bool), e = .returned (.tuple #[.agg #[.string u0, .string u1, .string u2, .string u3], .bool b]) ∧ Below w.heap.size w w' ∧ ((b = false ∧ four l = none) ∨ (b = true ∧ four l = some (u0.data.toList, u1.data.toList, u2.data.toList, u3.data.toList)))
def CS (l : List UInt8) (k : Nat) (r : List UInt8) (us : List (List UInt8)) : Prop := us.length = k ∧ cutK 3 l = (cutK (3 - k) r).map (us ++ ·)
theorem CS.start (l : List UInt8) : CS l 0 l [] := ⟨rfl, by show _ = (cutK 3 l).map _; cases cutK 3 l <;> rfl⟩
theorem CS.none_ {l r : List UInt8} {k : Nat} {us : List (List UInt8)} (h : CS l k r us) (hk : cutK (3 - k) r = none) : four l = none := by
  unfold four; rw [h.2, hk]; rfl
theorem CS.done {l r : List UInt8} {a b c : List UInt8} (h : CS l 3 r [a, b, c]) (hr : ¬ (r = [] ∨ 32 ∈ r)) : four l = some (a, b, c, r) := by
  have h2 := h.2
  rw [show cutK (3 - 3) r = some [r] from by show (if _ then none else _) = _; rw [if_neg hr]] at h2
  unfold four; rw [h2]; rfl
theorem CS.bad {l r : List UInt8} {us : List (List UInt8)} (h : CS l 3 r us) (hr : r = [] ∨ 32 ∈ r) : four l = none :=
  h.none_ (by show (if _ then none else _) = _; rw [if_pos hr])
theorem CS.no {l r : List UInt8} {k : Nat} {us : List (List UInt8)} (h : CS l k r us) (hk : k < 3) (hr : cutB 32 r = none ∨ ∃ y, cutB 32 r = some ([], y)) : four l = none := by
  refine h.none_ ?_
  obtain ⟨j, hj⟩ : ∃ j, 3 - k = j + 1 := ⟨2 - k, by omega⟩
  rw [hj, cutK]
  rcases hr with e | ⟨y, e⟩ <;> rw [e]
  rfl
theorem CS.next {l r x y : List UInt8} {k : Nat} {us : List (List UInt8)} (h : CS l k r us) (hk : k < 3) (hr : cutB 32 r = some (x, y)) (hx : x ≠ []) : CS l (k + 1) y (us ++ [x]) := by
  refine ⟨by rw [List.length_append, h.1]; rfl, ?_⟩
  obtain ⟨j, hj⟩ : ∃ j, 3 - k = j + 1 := ⟨2 - k, by omega⟩
  have h2 := h.2
  have e : cutK (j + 1) r = (cutK j y).map (x :: ·) := by rw [cutK, hr]; exact if_neg hx
  rw [hj, e] at h2
  rw [h2, show 3 - (k + 1) = j by omega]
  cases cutK j y with
  | none => rfl
  | some ws => show some (us ++ x :: ws) = some (us ++ [x] ++ ws); rw [List.append_assoc]; rfl
set_option maxHeartbeats 4000000 in
theorem cut_is (s : ByteArray) (l : List UInt8) (hl : l = s.data.toList) (hs : s.size ≤ 2000000) (w : World) : Calls Tryd.prog 38 #[.string s] w (CutAns l w) := by
  have H0 := Lib.hid (show CS l 0 s.data.toList [] from hl ▸ CS.start l)
  have HI := Lib.hid (fun (r : ByteArray) w => strings_IndexByte r 32 w)
  simp only [show ((32 : Int).toNat.toUInt8) = 32 from rfl] at HI
  have HE := Lib.hid (show ∀ u0 u1 u2 u3 b w', Below w.heap.size w w' → ((b = false ∧ four l = none) ∨ (b = true ∧ four l = some (u0.data.toList, u1.data.toList, u2.data.toList, u3.data.toList))) → CutAns l w (.returned (.tuple #[.agg #[.string u0, .string u1, .string u2, .string u3], .bool b])) w' from fun u0 u1 u2 u3 b w' hb h => ⟨u0, u1, u2, u3, b, rfl, hb, h⟩)
  clear hl
  go_enter Tryd.func38, Tryd.ntmps38
  go_wp2
  go_loopw [0, 7] (fun s0 s7 wr => ∃ (k : Nat) (r u0 u1 u2 u3 : ByteArray), k ≤ 3 ∧ r.size ≤ 2000000 ∧ s0 = .string r ∧ s7 = .int .i64 k ∧ Hid (Whole wr (w.heap.size + 1) 62 #[.string u0, .string u1, .string u2, .string u3]) ∧ Hid (∃ c0 c1 c2 c3, Whole wr w.heap.size 62 #[c0, c1, c2, c3]) ∧ Hid (Below w.heap.size w wr) ∧ Hid (CS l k r.data.toList ([u0.data.toList, u1.data.toList, u2.data.toList].take k))) (fun _ s7 _ => 3 - (intOf s7).toNat)
  case atStart => exact ⟨0, s, _, _, _, _, by omega, hs, rfl, rfl, Lib.hid (box2 w _ _ _ _).2, Lib.hid ⟨_, _, _, _, (box2 w _ _ _ _).1⟩, Lib.hid (box2_below w _ _), H0⟩
  case round =>
    obtain ⟨k, r, u0, u1, u2, u3, hk, hr, rfl, rfl, HW, HV, HB, HC⟩ := hrel
    obtain ⟨c0, c1, c2, c3, hv⟩ := HV.out
    have hw := HW.out
    have HI' := Lib.hid (HI.out r)
    clear H0 HI HV hs
    obtain ⟨d0, d1, d2, d3⟩ : wr.cell? ⟨w.heap.size + 1, 0, none⟩ = some (.string u0) ∧ wr.cell? ⟨w.heap.size + 1, 1, none⟩ = some (.string u1) ∧ wr.cell? ⟨w.heap.size + 1, 2, none⟩ = some (.string u2) ∧ wr.cell? ⟨w.heap.size + 1, 3, none⟩ = some (.string u3) := ⟨hw.read 0, hw.read 1, hw.read 2, hw.read 3⟩
    obtain ⟨f0, f1, f2, f3⟩ : wr.cell? ⟨w.heap.size, 0, none⟩ = some c0 ∧ wr.cell? ⟨w.heap.size, 1, none⟩ = some c1 ∧ wr.cell? ⟨w.heap.size, 2, none⟩ = some c2 ∧ wr.cell? ⟨w.heap.size, 3, none⟩ = some c3 := ⟨hv.read 0, hv.read 1, hv.read 2, hv.read 3⟩
    have z0 := hv.free 0
    have z1 := hv.free 1
    have z2 := hv.free 2
    have z3 := hv.free 3
    have y0 := hw.free 0
    have y1 := hw.free 1
    have y2 := hw.free 2
    have y3 := hw.free 3
    have HV := Lib.hid hv
    clear hv hw
    rcases (by omega : k < 3 ∨ k = 3) with hk3 | rfl
    · have HP := Lib.hid (HV.out.put4 (u0 := .string u0) (u1 := .string u1) (u2 := .string u2) (u3 := .string u3))
      have HBB := Lib.hid (HB.out.trans (put4_below (u0 := .string u0) (u1 := .string u1) (u2 := .string u2) (u3 := .string u3) (w := wr) (Nat.le_refl w.heap.size)))
      unfold put4 at HP HBB
      have hk3' : (k : Int) < 3 := by omega
      have fin : Hid (∀ (h : four l = none), True) := Lib.hid fun _ => trivial
      rcases idx_cut r.data.toList 32 with ⟨h1, h2, h3⟩ | ⟨o, h1, h2, h3, h4⟩
      · have hn := Lib.hid (HC.out.no hk3 (.inl h2))
        rw [h1] at HI'
        clear h1 h2 h3 hk
        go_wp2_with fail
        (with_reducible refine (HI'.out _).mono ?_); rintro e w1 ⟨rfl, rfl⟩
        go_wp2
        have hp := HP.out
        have p0 := hp.read 0
        have p1 := hp.read 1
        have p2 := hp.read 2
        have p3 := hp.read 3
        simp only [List.getElem?_toArray, List.getElem?_cons_zero, List.getElem?_cons_succ] at p0 p1 p2 p3
        exact bodyPost_ret (v := .tuple #[.agg #[.string u0, .string u1, .string u2, .string u3], .bool false]) (by simp [results, Tryd.results38, go_sem, p0, p1, p2, p3]) rfl (HE.out u0 u1 u2 u3 false _ HBB.out (.inl ⟨rfl, hn.out⟩))
      · rcases (by omega : o < 1 ∨ 1 ≤ o) with ho | ho
        · obtain rfl : o = 0 := by omega
          have hn := Lib.hid (HC.out.no hk3 (.inr ⟨_, h3⟩))
          rw [h1] at HI'
          simp only [Int.natCast_zero] at HI'
          clear h1 h2 h3 h4 hk
          go_wp2_with fail
          (with_reducible refine (HI'.out _).mono ?_); rintro e w1 ⟨rfl, rfl⟩
          go_wp2
          have hp := HP.out
          have p0 := hp.read 0
          have p1 := hp.read 1
          have p2 := hp.read 2
          have p3 := hp.read 3
          simp only [List.getElem?_toArray, List.getElem?_cons_zero, List.getElem?_cons_succ] at p0 p1 p2 p3
          exact bodyPost_ret (v := .tuple #[.agg #[.string u0, .string u1, .string u2, .string u3], .bool false]) (by simp [results, Tryd.results38, go_sem, p0, p1, p2, p3]) rfl (HE.out u0 u1 u2 u3 false _ HBB.out (.inl ⟨rfl, hn.out⟩))
        · have hx : r.data.toList.take o ≠ [] := by
            intro e; have h0 : (r.data.toList.take o).length = 0 := by rw [e]; rfl
            rw [List.length_take] at h0; omega
          have HN := Lib.hid (HC.out.next hk3 h3 hx)
          have hl := len_size r
          have ho1 : o + 1 ≤ r.size := by omega
          rw [h1] at HI'
          have ho' : (1 : Int) ≤ o := by omega
          have hrs : (r.extract (o + 1) r.size).size ≤ 2000000 := by simp; omega
          rw [← take_str, ← drop_from] at HN
          clear h1 h2 h3 h4 hk hx HP HBB hl
          rcases (by omega : k = 0 ∨ k = 1 ∨ k = 2) with rfl | rfl | rfl
          · have HW2 := Lib.hid (HW.out.put 0 (.string (r.extract 0 o)))
            go_wp2_with fail
            (with_reducible refine (HI'.out _).mono ?_); rintro e w1 ⟨rfl, rfl⟩
            go_wp2_with fail
            go_region
            go_wp2
            go_roundw
            case rel => exact ⟨1, _, _, u1, u2, u3, by omega, hrs, rfl, by go_num, Lib.hid (show Whole _ _ _ #[.string (r.extract 0 o), .string u1, .string u2, .string u3] from HW2.out), Lib.hid ⟨_, _, _, _, HV.out.carry (Below.heap_setCell _ _ _ _ (by show w.heap.size ≠ w.heap.size + 1; omega))⟩, Lib.hid ((HB.out.setCell (p := ⟨w.heap.size + 1, 0, none⟩) (by show w.heap.size ≤ w.heap.size + 1; omega) _).drew), Lib.hid HN.out⟩
            case measure => simp [intOf]
          · have HW2 := Lib.hid (HW.out.put 1 (.string (r.extract 0 o)))
            go_wp2_with fail
            (with_reducible refine (HI'.out _).mono ?_); rintro e w1 ⟨rfl, rfl⟩
            go_wp2_with fail
            go_region
            go_wp2
            go_roundw
            case rel => exact ⟨2, _, u0, _, u2, u3, by omega, hrs, rfl, by go_num, Lib.hid (show Whole _ _ _ #[.string u0, .string (r.extract 0 o), .string u2, .string u3] from HW2.out), Lib.hid ⟨_, _, _, _, HV.out.carry (Below.heap_setCell _ _ _ _ (by show w.heap.size ≠ w.heap.size + 1; omega))⟩, Lib.hid ((HB.out.setCell (p := ⟨w.heap.size + 1, 1, none⟩) (by show w.heap.size ≤ w.heap.size + 1; omega) _).drew), Lib.hid HN.out⟩
            case measure => simp [intOf]
          · have HW2 := Lib.hid (HW.out.put 2 (.string (r.extract 0 o)))
            go_wp2_with fail
            (with_reducible refine (HI'.out _).mono ?_); rintro e w1 ⟨rfl, rfl⟩
            go_wp2_with fail
            go_region
            go_wp2
            go_roundw
            case rel => exact ⟨3, _, u0, u1, _, u3, by omega, hrs, rfl, by go_num, Lib.hid (show Whole _ _ _ #[.string u0, .string u1, .string (r.extract 0 o), .string u3] from HW2.out), Lib.hid ⟨_, _, _, _, HV.out.carry (Below.heap_setCell _ _ _ _ (by show w.heap.size ≠ w.heap.size + 1; omega))⟩, Lib.hid ((HB.out.setCell (p := ⟨w.heap.size + 1, 2, none⟩) (by show w.heap.size ≤ w.heap.size + 1; omega) _).drew), Lib.hid HN.out⟩
            case measure => simp [intOf]
    · have HW2 := Lib.hid (HW.out.put 3 (.string r))
      have HV2 := Lib.hid (HV.out.carry (Below.heap_setCell wr ⟨w.heap.size + 1, 3, none⟩ (.string r) w.heap.size (by show w.heap.size ≠ w.heap.size + 1; omega)))
      have HB2 := Lib.hid (HB.out.setCell (p := ⟨w.heap.size + 1, 3, none⟩) (by show w.heap.size ≤ w.heap.size + 1; omega) (.string r))
      have HG := Lib.hid (fun h => HC.out.done (a := u0.data.toList) (b := u1.data.toList) (c := u2.data.toList) h)
      have HX := Lib.hid (fun h => HC.out.bad h)
      have HR := Lib.hid (idx_cut r.data.toList 32)
      clear HB HW HV HC
      go_wp2_with fail
      clear d0 d1 d2 d3 f0 f1 f2 f3 z0 z1 z2 z3 y0 y1 y2 y3
      generalize wr.setCell ⟨w.heap.size + 1, 3, none⟩ (.string r) = w3 at *
      have hw := (show Whole w3 (w.heap.size + 1) 62 #[.string u0, .string u1, .string u2, .string r] from HW2.out)
      have hv := HV2.out
      obtain ⟨d0, d1, d2, d3⟩ : w3.cell? ⟨w.heap.size + 1, 0, none⟩ = some (.string u0) ∧ w3.cell? ⟨w.heap.size + 1, 1, none⟩ = some (.string u1) ∧ w3.cell? ⟨w.heap.size + 1, 2, none⟩ = some (.string u2) ∧ w3.cell? ⟨w.heap.size + 1, 3, none⟩ = some (.string r) := ⟨hw.read 0, hw.read 1, hw.read 2, hw.read 3⟩
      obtain ⟨f0, f1, f2, f3⟩ : w3.cell? ⟨w.heap.size, 0, none⟩ = some c0 ∧ w3.cell? ⟨w.heap.size, 1, none⟩ = some c1 ∧ w3.cell? ⟨w.heap.size, 2, none⟩ = some c2 ∧ w3.cell? ⟨w.heap.size, 3, none⟩ = some c3 := ⟨hv.read 0, hv.read 1, hv.read 2, hv.read 3⟩
      have z0 := hv.free 0
      have z1 := hv.free 1
      have z2 := hv.free 2
      have z3 := hv.free 3
      have HP := Lib.hid (hv.put4 (u0 := .string u0) (u1 := .string u1) (u2 := .string u2) (u3 := .string r))
      have HBB := Lib.hid (HB2.out.trans (put4_below (u0 := .string u0) (u1 := .string u1) (u2 := .string u2) (u3 := .string r) (w := w3) (Nat.le_refl w.heap.size)))
      have HPd := Lib.hid (show Whole ((put4 w3 w.heap.size (.string u0) (.string u1) (.string u2) (.string r)).drew) w.heap.size 62 #[.string u0, .string u1, .string u2, .string r] from HP.out)
      have HBd := Lib.hid (HBB.out.drew)
      unfold put4 at HP HBB HPd HBd
      clear hw hv HW2 HV2 HB2
      by_cases hr0 : r.size = 0
      · have e := empty_of hr0
        have hn := Lib.hid (HX.out (.inl (by rw [e])))
        clear HX HG HR HI'
        subst e
        clear hr hr0
        go_region
        go_wp2
        have hp := HPd.out
        have p0 := hp.read 0
        have p1 := hp.read 1
        have p2 := hp.read 2
        have p3 := hp.read 3
        simp only [List.getElem?_toArray, List.getElem?_cons_zero, List.getElem?_cons_succ] at p0 p1 p2 p3
        exact bodyPost_ret (v := .tuple #[.agg #[.string u0, .string u1, .string u2, .string ⟨#[]⟩], .bool false]) (by simp [results, Tryd.results38, go_sem, p0, p1, p2, p3]) rfl (HE.out u0 u1 u2 ⟨#[]⟩ false _ HBd.out (.inl ⟨rfl, hn.out⟩))
      · have he := str_ne hr0
        have he2 : r.toList.isEmpty = false := by rw [List.isEmpty_eq_false_iff]; exact he
        have he3 : (r.toList == ([] : List UInt8)) = false := by rw [beq_eq_false_iff_ne]; exact he
        have heh := Lib.hid he
        clear he
        rcases HR.out with ⟨h1, h2, h3⟩ | ⟨o, h1, h2, h3, h4⟩
        · have hn := Lib.hid (HG.out (fun k => k.elim (fun k => heh.out (by rw [Lib.toList_data]; exact k)) h3))
          rw [h1] at HI'
          clear HX HG HR h1 h2 h3 hr hr0
          go_region_with (go_at_call 59; refine (HI'.out _).mono ?_; rintro e w' ⟨rfl, rfl⟩)
          all_goals
            go_wp2
            have hp := HPd.out
            have p0 := hp.read 0
            have p1 := hp.read 1
            have p2 := hp.read 2
            have p3 := hp.read 3
            simp only [List.getElem?_toArray, List.getElem?_cons_zero, List.getElem?_cons_succ] at p0 p1 p2 p3
            exact bodyPost_ret (v := .tuple #[.agg #[.string u0, .string u1, .string u2, .string r], .bool true]) (by simp [results, Tryd.results38, go_sem, p0, p1, p2, p3]) rfl (HE.out u0 u1 u2 r true _ HBd.out (.inr ⟨rfl, hn.out⟩))
        · have hm : (32 : UInt8) ∈ r.data.toList := by
            refine Classical.byContradiction fun k => ?_
            rw [cutB_none k] at h3; cases h3
          have hn := Lib.hid (HX.out (.inr hm))
          rw [h1] at HI'
          clear HX HG HR h1 h2 h3 h4 hm hr hr0
          go_region_with (go_at_call 59; refine (HI'.out _).mono ?_; rintro e w' ⟨rfl, rfl⟩)
          all_goals
            go_wp2
            have hp := HPd.out
            have p0 := hp.read 0
            have p1 := hp.read 1
            have p2 := hp.read 2
            have p3 := hp.read 3
            simp only [List.getElem?_toArray, List.getElem?_cons_zero, List.getElem?_cons_succ] at p0 p1 p2 p3
            exact bodyPost_ret (v := .tuple #[.agg #[.string u0, .string u1, .string u2, .string r], .bool false]) (by simp [results, Tryd.results38, go_sem, p0, p1, p2, p3]) rfl (HE.out u0 u1 u2 r false _ HBd.out (.inl ⟨rfl, hn.out⟩))
theorem cut_any (s : ByteArray) (hs : s.size ≤ 2000000) (w : World) : Calls Tryd.prog 38 #[.string s] w (CutAns s.data.toList w) := cut_is s _ rfl hs w
end Go.Proofs.YtfkbohfelacaoaaDoor

