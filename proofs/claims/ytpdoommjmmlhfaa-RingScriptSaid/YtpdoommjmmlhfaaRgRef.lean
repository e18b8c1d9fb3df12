/-
  Layer 5: the reference's ring as an object; contracts of its NewRing, Insert, Take. Every input.
-/
import Derived.Test.YtpdoommjmmlhfaaRgLaws
import Derived.Test.YtpdoommjmmlhfaaRgRow
import Derived.Laws.AppendOwnNone
namespace Go.Proofs.Ytpdoommjmmlhfaa
open Go.ChangeShapes Go.WideShapes Go.ChangeAt Go.RowKit
set_option linter.unusedVariables false

theorem own_keep {w w' : World} {base : Nat} {t : TypeId} {s n : Nat} {v : Value} {xs : List Value} (h : w.ownsRow base t s v n xs) (hk : ∀ k, v.ownBlock = some k → w'.heap[k]? = w.heap[k]?) : w'.ownsRow base t s v n xs := by
  refine ⟨h.1, ?_⟩
  rcases h.2 with h2 | ⟨g, cap, cur, hv, hg, hh, r⟩
  · exact .inl h2
  · exact .inr ⟨g, cap, cur, hv, hg, (hk g (by rw [hv]; rfl)).trans hh, r⟩
theorem own_wider {w : World} {base base' : Nat} {t : TypeId} {s n : Nat} {v : Value} {xs : List Value} (h : w.ownsRow base t s v n xs) (hC : base' ≤ base) : w.ownsRow base' t s v n xs := by
  refine ⟨h.1, ?_⟩
  rcases h.2 with h2 | ⟨g, cap, cur, hv, hg, r⟩
  · exact .inl h2
  · exact .inr ⟨g, cap, cur, hv, by omega, r⟩
theorem row_one (w : World) (x : Value) (t : TypeId) : (w.alloc (.cells #[x] t)).ownsRow w.heap.size t 1 (.slice (some ⟨w.heap.size, 0, none⟩) 1 1) 1 [x] :=
  ⟨rfl, .inr ⟨w.heap.size, 1, #[x], rfl, Nat.le_refl _, (MapKept.heap_alloc w _).1, Nat.le_refl _, by unfold maxLen; omega, rfl, rfl⟩⟩
/-- append of one row of numbers to another of the call's own; the source may be nil. -/
theorem wpList_append_vals {w : World} {ops : Array Oper} {rest : List Oper} {o : Oper} {a : Act} {Q : Exit → Act → World → Prop} (hgd : o.guard = none) (s x : Operand)
    (ho : o.op = .call { callee := .builtin .append, args := #[s, x], argTypes := #[22, 22] })
    (base n : Nat) (v : Value) (xs : List Value) (hs : a.eval s = v) (hown : w.ownsRow base 3 1 v n xs)
    (C m : Nat) (u : Value) (ys : List Value) (hx : a.eval x = u) (hsrc : w.ownsRow C 3 1 u m ys) (h1 : ∀ y ∈ ys, y.oneCell' = true) (hn : n + m ≤ 8192) (hb : base ≤ w.heap.size)
    (hK : ∀ v' w', w'.ownsRow base 3 1 v' (n + m) (xs ++ ys) → w.grownBy w' v.ownBlock → wpList Try.prog ops Q rest (a.put o.dst v') w') :
    wpList Try.prog ops Q (o :: rest) a w := by
  obtain ⟨i0, hii, hz0, hz1, hz2⟩ := info_parts infoInt
  rcases hsrc.2 with ⟨rfl, rfl⟩ | ⟨g, c, cur, rfl, h2, h3, h4, h5, h6, h7⟩
  · have e : ys = [] := List.eq_nil_of_length_eq_zero (by simpa using hsrc.1)
    subst e
    refine wpList_append_own_none hgd s x _ ho base 3 i0 1 Try.underlying22 hii v n xs hs hown hx (hK v w (by rw [List.append_nil]; exact hown) ⟨rfl, rfl, rfl, Nat.le_refl _, fun _ _ _ => rfl⟩)
  · refine wpList_append_own w hgd s x _ ho base 3 i0 _ 1 8 Try.underlying22 hii hz0 hz1 hz2 rfl (by decide) v n xs hs hown ⟨g, 0, none⟩ m c ys hx hsrc.1 (fun j y hj => ?_) h1 (by unfold maxLen; omega) (by omega) hb (fun v' w' a1 a2 _ => hK v' w' a1 a2)
    have hj' : j < m * 1 := by
      rcases Nat.lt_or_ge j (m * 1) with h' | h'
      · exact h'
      · rw [List.getElem?_eq_none (by rw [hsrc.1]; exact h')] at hj; cases hj
    rw [Addr.add_lit, Nat.zero_add, World.ownsRow.cellAt hsrc j hj']; exact hj

/-- The reference's ring behind pointer R: n numbers L in slice v. -/
structure RRW (w : World) (C R : Nat) (v : Value) (cap n : Nat) (L : Nat → Int) : Prop where
  blk : w.heap[R]? = some (.cells #[.int .i64 cap, v] 36 (0, 0))
  own : w.ownsRow C 3 1 v n (flatN L n)
  lo : C ≤ R
  ne : v.ownBlock ≠ some R
  len : n ≤ cap ∧ cap ≤ 4096
def rrfoot (R : Nat) (v : Value) : Nat → Prop := fun k => k = R ∨ v.ownBlock = some k
section
variable {w w' : World} {C R cap n : Nat} {v : Value} {L F : Nat → Int}
theorem RRW.keep (h : RRW w C R v cap n L) (hk : ∀ k, rrfoot R v k → w'.heap[k]? = w.heap[k]?) : RRW w' C R v cap n L :=
  ⟨(hk R (.inl rfl)).trans h.blk, own_keep h.own (fun k e => hk k (.inr e)), h.lo, h.ne, h.len⟩
theorem RRW.lt (h : RRW w C R v cap n L) : ∀ k, rrfoot R v k → C ≤ k ∧ k < w.heap.size := by
  rintro k (rfl | e)
  · exact ⟨h.lo, lt_of_block h.blk⟩
  · exact World.ownsRow.lt h.own k e
theorem RRW.below (h : RRW w C R v cap n L) (hb : Below w.heap.size w w') : RRW w' C R v cap n L := h.keep fun k hk => hb.block k (h.lt k hk).2
theorem RRW.drewN (h : RRW w C R v cap n L) (q : Nat) : RRW (w.drewN q) C R v cap n L := h.below (Below_drewN (Below.refl _ _) q)
theorem RRW.cells (h : RRW w C R v cap n L) : w.cell? ⟨R, 0, none⟩ = some (.int .i64 cap) ∧ w.cell? ⟨R, 1, none⟩ = some v ∧ w.frozen? ⟨R, 1, none⟩ = false := by
  have := h.blk
  exact ⟨by simp [World.cell?, this], by simp [World.cell?, this], by simp [World.frozen?, this]⟩
theorem RRW.renewed {w2 : World} {v' : Value} {m : Nat} (h : RRW w C R v cap n L) (hb : Below w.heap.size w w2) (he : w2.ownsRow w.heap.size 3 1 v' m (flatN F m)) (hm : m ≤ cap) :
    RRW (w2.setCell ⟨R, 1, none⟩ v') C R v' cap m F ∧ Chg (rrfoot R v) w (w2.setCell ⟨R, 1, none⟩ v') ∧ ∀ k, rrfoot R v' k → rrfoot R v k ∨ w.heap.size ≤ k := by
  have hR := (h.lt R (.inl rfl)).2
  have hC : C ≤ w.heap.size := by have := h.lo; omega
  have b : w2.heap[R]? = _ := (hb.block R hR).trans h.blk
  have hne : v'.ownBlock ≠ some R := fun e => by have := (World.ownsRow.lt he R e).1; omega
  refine ⟨⟨?_, own_keep (own_wider he hC) (fun k e => Below.heap_setCell w2 ⟨R, 1, none⟩ _ k (fun e' => hne (by rw [e, e']))), h.lo, hne, by have := h.len; omega⟩, (Chg.of_below hb).setCell (.inl rfl) _ _, ?_⟩
  · have := heap_setCell_same w2 R 1 _ _ v' b
    rw [this]; rfl
  · rintro k (e | e)
    · exact .inl (.inl e)
    · exact .inr (World.ownsRow.lt he k e).1
end
/-- The reference's ring of capacity cap holds the n numbers L; its blocks are those of T. -/
def RRO (C R : Nat) (T : Nat → Prop) (cap n : Nat) (L : Nat → Int) (w : World) : Prop :=
  ∃ v, RRW w C R v cap n L ∧ (∀ k, rrfoot R v k → T k) ∧ (∀ k, T k → C ≤ k ∧ k < w.heap.size)
def RrAns (C R : Nat) (T : Nat → Prop) (cap n : Nat) (L : Nat → Int) (x : Value) (w : World) (e : Ending) (w' : World) : Prop :=
  ∃ T', e = .returned x ∧ RRO C R T' cap n L w' ∧ Trod T T' w w'
section
variable {w w' : World} {C R cap n : Nat} {v : Value} {L F : Nat → Int} {T : Nat → Prop}
theorem RRO.same (h : RRO C R T cap n L w) (hb : Below w.heap.size w w') : RRO C R T cap n L w' ∧ Trod T T w w' := by
  obtain ⟨v, h1, h5, h6⟩ := h
  exact ⟨⟨v, h1.below hb, h5, fun k hk => by have := h6 k hk; have := hb.size; omega⟩, Chg.of_below hb, fun k hk => .inl hk⟩
theorem RrAns.stay (h : RRO C R T cap n L w) (hb : Below w.heap.size w w') (x : Value) : RrAns C R T cap n L x w (.returned x) w' := ⟨T, rfl, h.same hb⟩
theorem RRO.lo (h : RRO C R T cap n L w) : ∀ k, T k → C ≤ k ∧ k < w.heap.size := by
  obtain ⟨_, _, _, h6⟩ := h; exact h6
theorem RRO.size (h : RRO C R T cap n L w) : n ≤ cap ∧ cap ≤ 4096 := by obtain ⟨_, h1, _⟩ := h; exact h1.len
theorem RrAns.made {v' : Value} {m : Nat} {x : Value} {w2 : World} (h : RRW w C R v cap n L) (hT : ∀ k, rrfoot R v k → T k) (hb : Below w.heap.size w w2) (he : w2.ownsRow w.heap.size 3 1 v' m (flatN F m)) (hm : m ≤ cap) (hW : Below (w2.setCell ⟨R, 1, none⟩ v').heap.size (w2.setCell ⟨R, 1, none⟩ v') w') :
    RrAns C R T cap m F x w (.returned x) w' := by
  obtain ⟨q1, q2, q3⟩ := h.renewed hb he hm
  exact ⟨rrfoot R v', rfl, ⟨v', q1.below hW, fun k hk => hk, (q1.below hW).lt⟩, (q2.trans (Chg.of_below hW)).wider (fun k _ => hT k), fun k hk => (q3 k hk).elim (fun h => .inl (hT k h)) .inr⟩
end

def RrNew (cap : Nat) (w : World) (e : Ending) (w' : World) : Prop :=
  ∃ (R : Nat) (T : Nat → Prop), e = .returned (.tuple #[.pointer (some ⟨R, 0, none⟩), .int .i64 0]) ∧ RRO w.heap.size R T cap 0 (fun _ => 0) w' ∧ Below w.heap.size w w'
theorem rrnew_ok (cap : Nat) (w : World) (h1 : 1 ≤ cap) (h2 : cap ≤ 4096) : Calls Try.prog 10 #[.int .i64 cap] w (RrNew cap w) := by
  have i1 : ¬ (cap : Int) < 1 := by omega
  have i2 : ¬ 4096 < (cap : Int) := by omega
  have HF := Lib.hid (fun (o : Obj) (ho : o = .cells #[.int .i64 cap, .slice none 0 0] 36) => (show RrNew cap w (.returned (.tuple #[.pointer (some ⟨w.heap.size, 0, none⟩), .int .i64 0])) (w.alloc o) from by
    subst ho
    refine ⟨w.heap.size, rrfoot w.heap.size (.slice none 0 0), rfl, ⟨.slice none 0 0, ?_, fun k hk => hk, ?_⟩, (Below.refl _ _).alloc (Nat.le_refl _) _⟩
    · exact ⟨(MapKept.heap_alloc w _).1, World.ownsRow_nil _ _ _ _, Nat.le_refl _, (by intro h; cases h), by omega⟩
    · rintro k (rfl | h)
      · exact ⟨Nat.le_refl _, by simp⟩
      · cases h))
  go_enter Try.func10, Try.ntmps10
  go_wp2
  go_ret2
  exact HF.out _ rfl

theorem rrins_full {w : World} {C R cap : Nat} {L : Nat → Int} {T : Nat → Prop} (h : RRO C R T cap cap L w) (x : Int) (front : Bool) :
    Calls Try.prog 23 #[.pointer (some ⟨R, 0, none⟩), .int .i64 x, .bool front] w (RrAns C R T cap cap L (.int .i64 4) w) := by
  have HE := Lib.hid (fun w' hb => RrAns.stay (w' := w') h hb (.int .i64 4))
  obtain ⟨v, h1, _, _⟩ := h
  obtain ⟨c0, c1, _⟩ := h1.cells
  obtain ⟨A, c, rfl⟩ := own_shape h1.own
  clear h1
  go_enter Try.func23, Try.ntmps23
  go_wp2_with fail
  go_quiet (fail)
  go_wp2
  go_ret
  exact HE.out _ (Below_drewN (Below.refl _ _) _)
set_option maxRecDepth 100000 in
set_option maxHeartbeats 4000000 in
theorem rrins_front {w : World} {C R cap n : Nat} {L : Nat → Int} {T : Nat → Prop} (h : RRO C R T cap n L w) (hn : n < cap) (x : Int) :
    Calls Try.prog 23 #[.pointer (some ⟨R, 0, none⟩), .int .i64 x, .bool true] w (RrAns C R T cap (n + 1) (consN x L) (.int .i64 0) w) := by
  obtain ⟨v, h1, h5, h6⟩ := h
  obtain ⟨c0, c1, fz⟩ := h1.cells
  have hRl := (h1.lt R (.inl rfl)).2
  have hlen := h1.len
  have hnc : ¬ (cap : Int) ≤ n := by omega
  obtain ⟨A, c, rfl⟩ := own_shape h1.own
  have HW := Lib.hid h1
  have HS := Lib.hid h5
  clear h1 h5 h6
  go_enter Try.func23, Try.ntmps23
  go_wp2_with fail
  go_quiet (fail)
  have HO := Lib.hid ((HW.out.drewN nq).below ((Below.refl _ _).alloc (Nat.le_refl _) (.cells #[.int .i64 x] 3))).own
  have H1 := Lib.hid (row_one (w.drewN nq) (.int .i64 x) 3)
  have b0 : ((w.drewN nq).alloc (.cells #[.int .i64 x] 3)).cell? ⟨R, 1, none⟩ = some (.slice A n c) := cell_alloc_of (w := w.drewN nq) c1 _
  go_wp2_with (at_builtin; refine wpList_append_vals rfl (.tmp 20) (.tmp 24) rfl w.heap.size 1 _ [.int .i64 x] rfl H1.out C n _ (flatN L n) rfl HO.out (flatN_one _ _) (by omega) (by simp) ?_; intro v2 w2 hv2 hg2; have HB2 : Hid (Below w.heap.size w w2) := Lib.hid (((Below_drewN (Below.refl _ _) nq).alloc (Nat.le_refl _) _).grown hg2 (by simp) (fun k e => (World.ownsRow.lt H1.out k e).1)); have HV2 : Hid (w2.ownsRow w.heap.size 3 1 v2 (n + 1) (flatN (consN x L) (n + 1))) := Lib.hid (by have h := hv2; rw [flatN_cons, Nat.add_comm 1 n] at h; exact h); clear hv2 hg2 b0; obtain ⟨A2, cc2, rfl⟩ := own_shape HV2.out; have d1 := (HB2.out.cell (p := ⟨R, 1, none⟩) hRl).trans c1; have d2 := (HB2.out.frozen (p := ⟨R, 1, none⟩) hRl).trans fz)
  have HF := Lib.hid (fun W hW => RrAns.made (w' := W) (x := .int .i64 0) HW.out HS.out HB2.out HV2.out (by omega) hW)
  clear HO H1 HV2 HB2 d1 d2
  go_ret
  exact HF.out _ (Below.refl _ _)
set_option maxRecDepth 100000 in
set_option maxHeartbeats 4000000 in
theorem rrins_back {w : World} {C R cap n : Nat} {L : Nat → Int} {T : Nat → Prop} (h : RRO C R T cap n L w) (hn : n < cap) (x : Int) :
    Calls Try.prog 23 #[.pointer (some ⟨R, 0, none⟩), .int .i64 x, .bool false] w (RrAns C R T cap (n + 1) (upd L n x) (.int .i64 0) w) := by
  obtain ⟨v, h1, h5, h6⟩ := h
  obtain ⟨c0, c1, fz⟩ := h1.cells
  have hRl := (h1.lt R (.inl rfl)).2
  have hlen := h1.len
  have hnc : ¬ (cap : Int) ≤ n := by omega
  obtain ⟨A, c, rfl⟩ := own_shape h1.own
  have HW := Lib.hid h1
  have HS := Lib.hid h5
  clear h1 h5 h6
  go_enter Try.func23, Try.ntmps23
  go_wp2_with fail
  go_quiet (fail)
  have HO := Lib.hid ((HW.out.drewN nq).below ((Below.refl _ _).alloc (Nat.le_refl _) (.cells #[] 3))).own
  have H1 := Lib.hid (row_empty (w.drewN nq) 3 1)
  have b0 : ((w.drewN nq).alloc (.cells #[] 3)).cell? ⟨R, 1, none⟩ = some (.slice A n c) := cell_alloc_of (w := w.drewN nq) c1 _
  go_wp2_with (first
    | (at_builtin; refine wpList_append_vals rfl (.tmp 29) (.tmp 33) rfl w.heap.size 0 _ [] rfl H1.out C n _ (flatN L n) rfl HO.out (flatN_one _ _) (by omega) (by simp) ?_; intro v1 w1 hv1 hg1; have HB1 : Hid (Below w.heap.size w w1) := Lib.hid (((Below_drewN (Below.refl _ _) nq).alloc (Nat.le_refl _) _).grown hg1 (by simp) (fun k e => (World.ownsRow.lt H1.out k e).1)); have HV1 : Hid ((w1.alloc (.cells #[.int .i64 x] 3)).ownsRow w.heap.size 3 1 v1 n (flatN L n)) := Lib.hid (by have h := hv1; rw [List.nil_append, Nat.zero_add] at h; exact h.alloc _); have H2 := Lib.hid (row_one w1 (.int .i64 x) 3); clear hv1 hg1 b0; have b1 := (HB1.out.cell (p := ⟨R, 1, none⟩) hRl).trans c1)
    | (at_builtin; refine wpList_append_vals rfl (.tmp 34) (.tmp 36) rfl w.heap.size n _ (flatN L n) rfl HV1.out w1.heap.size 1 _ [.int .i64 x] rfl H2.out (one1 _) (by omega) (by have := HB1.out.size; simp; omega) ?_; intro v2 w2 hv2 hg2; have HB2 : Hid (Below w.heap.size w w2) := Lib.hid ((HB1.out.alloc HB1.out.size _).grown hg2 (by have := HB1.out.size; simp; omega) (fun k e => (World.ownsRow.lt HV1.out k e).1)); have HV2 : Hid (w2.ownsRow w.heap.size 3 1 v2 (n + 1) (flatN (upd L n x) (n + 1))) := Lib.hid (by have h := hv2; rw [flatN_push] at h; exact h); clear hv2 hg2 b1; obtain ⟨A2, cc2, rfl⟩ := own_shape HV2.out; have d1 := (HB2.out.cell (p := ⟨R, 1, none⟩) hRl).trans c1; have d2 := (HB2.out.frozen (p := ⟨R, 1, none⟩) hRl).trans fz))
  have HF := Lib.hid (fun W hW => RrAns.made (w' := W) (x := .int .i64 0) HW.out HS.out HB2.out HV2.out (by omega) hW)
  clear HO H1 HV1 HB1 H2 HV2 HB2 d1 d2
  go_ret
  exact HF.out _ (Below.refl _ _)
end Go.Proofs.Ytpdoommjmmlhfaa

