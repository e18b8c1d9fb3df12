/-
  Layer 4: contracts of the heap's exported calls: Push, Update, Remove, Pop, Peek, Key, Len. Every input.
-/
import Derived.Test.YtlnbjmmbjhglnaaHpApi
namespace Go.Proofs.Ytlnbjmmbjhglnaa
open Go.ChangeShapes Go.WideShapes Go.ChangeAt Go.RowKit
set_option linter.unusedVariables false

/-- Push's error. -/
def pushErr (cap n : Nat) (M : Int → Option Int) (id : Int) : Int := if id < 0 ∨ 4096 ≤ id then 1 else if (M id).isSome then 7 else if n = cap then 4 else 0
def pushN (cap n : Nat) (M : Int → Option Int) (id : Int) : Nat := if pushErr cap n M id = 0 then n + 1 else n
def pushM (cap n : Nat) (M : Int → Option Int) (id key : Int) : Int → Option Int := if pushErr cap n M id = 0 then putM M id key else M
theorem push_bad {cap n : Nat} {M : Int → Option Int} {id : Int} (h : id < 0 ∨ 4096 ≤ id) : pushErr cap n M id = 1 := by unfold pushErr; rw [if_pos h]
theorem push_dup {cap n : Nat} {M : Int → Option Int} {id : Int} (h : ¬ (id < 0 ∨ 4096 ≤ id)) (h2 : (M id).isSome = true) : pushErr cap n M id = 7 := by unfold pushErr; rw [if_neg h, if_pos h2]
theorem push_full {cap n : Nat} {M : Int → Option Int} {id : Int} (h : ¬ (id < 0 ∨ 4096 ≤ id)) (h2 : ¬ (M id).isSome = true) (h3 : n = cap) : pushErr cap n M id = 4 := by unfold pushErr; rw [if_neg h, if_neg h2, if_pos h3]
theorem push_ok {cap n : Nat} {M : Int → Option Int} {id : Int} (h : ¬ (id < 0 ∨ 4096 ≤ id)) (h2 : ¬ (M id).isSome = true) (h3 : n ≠ cap) : pushErr cap n M id = 0 := by unfold pushErr; rw [if_neg h, if_neg h2, if_neg h3]
theorem isSome_not {x : Option Int} (h : ¬ x.isSome = true) : x = none := by cases x <;> simp_all
theorem Cont.find {E : Nat → Int × Int} {n : Nat} {M : Int → Option Int} (h : Cont E n M) {id : Int} (hs : (M id).isSome = true) : ∃ j, j < n ∧ (E j).1 = id ∧ M id = some (E j).2 := by
  cases e : M id with
  | none => rw [e] at hs; cases hs
  | some k => obtain ⟨j, hj, he⟩ := (h id k).1 e; exact ⟨j, hj, by rw [he], by rw [he]⟩
theorem HpAns.push_stay {C H cap n : Nat} {S : Nat → Prop} {M : Int → Option Int} {id key r : Int} {w w' : World} (h : HeapO C H S cap n M w) (hb : Below w.heap.size w w') (he : pushErr cap n M id = r) (hr : r ≠ 0) :
    HpAns C H S cap (pushN cap n M id) (pushM cap n M id key) (.int .i64 (pushErr cap n M id)) w (.returned (.int .i64 r)) w' := by
  unfold pushN pushM; rw [he, if_neg hr, if_neg hr]
  exact ⟨S, rfl, h.same hb⟩
theorem below_drewN (w : World) (q : Nat) : Below w.heap.size w (w.drewN q) := Below_drewN (Below.refl _ _) q
theorem exc_push {E : Nat → Int × Int} {n : Nat} (h : Hp E n) (x : Int × Int) : Exc (up1 E n x) (n + 1) n ∧ Kids (up1 E n x) (n + 1) n := by
  refine ⟨⟨fun j j0 jn j1 j2 => ?_, fun n0 c c0 cn cp => by omega⟩, fun c c0 cn cp => by omega⟩
  rw [up1_ne _ _ _ _ (by omega), up1_ne _ _ _ _ (by omega)]; exact h j j0 (by omega)

set_option maxRecDepth 100000 in
set_option maxHeartbeats 4000000 in
theorem push_any {C H cap n : Nat} {S : Nat → Prop} {M : Int → Option Int} {w : World} (h : HeapO C H S cap n M w) (id key : Int) :
    Calls Try.prog 17 #[.pointer (some ⟨H, 0, none⟩), .int .i64 id, .int .i64 key] w (HpAns C H S cap (pushN cap n M id) (pushM cap n M id key) (.int .i64 (pushErr cap n M id)) w) := by
  by_cases hid : id < 0 ∨ 4096 ≤ id
  · have HE := Lib.hid (fun W (hb : Below w.heap.size w W) => HpAns.push_stay (key := key) h hb (push_bad hid) (by decide))
    clear h
    rcases hid with h1 | h1
    · go_enter Try.func17, Try.ntmps17
      go_wp2
      go_ret
      exact HE.out _ (Below.refl _ _)
    · have h2 : ¬ id < 0 := by omega
      go_enter Try.func17, Try.ntmps17
      go_wp2
      go_ret
      exact HE.out _ (Below.refl _ _)
  · have i0 : 0 ≤ id := by omega
    have i1 : id < 4096 := by omega
    have i2 : ¬ id < 0 := by omega
    have i3 : ¬ 4096 ≤ id := by omega
    by_cases hm : (M id).isSome = true
    · have HE := Lib.hid (fun W (hb : Below w.heap.size w W) => HpAns.push_stay (key := key) h hb (push_dup hid hm) (by decide))
      obtain ⟨PB, v, E, P, h1, h2, h3, h4, h5, h6⟩ := h
      obtain ⟨j, hj, he, _⟩ := h3.find hm
      have HFD := Lib.hid (find_yes h1 h2 hj he)
      have ht : ((j : Int) != -1) = true := by simp
      clear h1 h2 h3 h4 h5 h6 hm hid he
      go_enter Try.func17, Try.ntmps17
      go_wp2_with fail
      (with_reducible refine HFD.out.mono ?_)
      rintro e w1 ⟨rfl, rfl⟩
      go_wp2
      go_ret
      exact HE.out _ (Below.refl _ _)
    · have hn := isSome_not hm
      by_cases hf : n = cap
      · have HE := Lib.hid (fun W (hb : Below w.heap.size w W) => HpAns.push_stay (key := key) h hb (push_full hid hm hf) (by decide))
        obtain ⟨PB, v, E, P, h1, h2, h3, h4, h5, h6⟩ := h
        have HFD := Lib.hid (find_no h1 h2 h3 hn)
        obtain ⟨c0, c1, _, _⟩ := h1.cells
        obtain ⟨A, c, rfl⟩ := h1.ents.shape
        have ht : ((n : Int) == (n : Int)) = true := by simp
        rw [← hf] at c0
        clear h1 h2 h3 h4 h5 h6 hm hid hn hf
        go_enter Try.func17, Try.ntmps17
        go_wp2_with fail
        (with_reducible refine HFD.out.mono ?_)
        rintro e w1 ⟨rfl, rfl⟩
        go_wp2_with fail
        go_quiet (fail)
        go_wp2
        go_ret
        exact HE.out _ (below_drewN _ _)
      · have HE := Lib.hid (push_ok (n := n) (cap := cap) hid hm hf)
        obtain ⟨PB, v, E, P, h1, h2, h3, h4, h5, h6⟩ := h
        have HFD := Lib.hid (find_no h1 h2 h3 hn)
        have hP1 : P id.toNat = -1 := by
          rcases h2.2 id.toNat (by omega) with e | ⟨j, hj, e, e'⟩
          · exact e
          · have e3 := h3.at_ hj
            rw [show (E j).1 = id by omega, hn] at e3; cases e3
        have hlen := h1.len
        obtain ⟨c0, c1, c2, fz⟩ := h1.cells
        have hHl := (h1.lt H (.inl rfl)).2
        have hCl : C ≤ w.heap.size := by have := h1.lo; omega
        have HW := Lib.hid h1
        have HPO := Lib.hid (h2.push (x := key) i0 i1 hP1)
        have HCO := Lib.hid (h3.push (x := key) hn)
        have HEX := Lib.hid (exc_push h4 (id, key))
        have HS := Lib.hid h5
        obtain ⟨A, c, rfl⟩ := h1.ents.shape
        have ht : ((n : Int) == (cap : Int)) = false := beq_eq_false_iff_ne.2 (by omega)
        have hncap : n < cap := by omega
        clear h1 h2 h3 h4 h5 h6 hm hid hn hf hP1
        go_enter Try.func17, Try.ntmps17
        go_wp2_with fail
        (with_reducible refine HFD.out.mono ?_)
        rintro e w1 ⟨rfl, rfl⟩
        go_wp2_with fail
        go_quiet (fail)
        have HWD := Lib.hid (HW.out.below (below_drewN w nq))
        have hne : H ≠ PB := HW.out.ne.1
        have hidn : id.toNat < 4096 := by omega
        go_wp2_with (at_builtin; refine wpList_append_ent rfl (.tmp 37) (.tmp 41) rfl (HWD.out.alloc _).ents rfl ⟨w.heap.size, 0, none⟩ id key rfl (pair_cells (w.drewN nq) _ _ _) (by omega) (by simp; omega) ?_; intro v2 w2 he2 hg2 hb2; obtain ⟨b1, b2, b3, b4, b5⟩ := HWD.out.grownAt hg2 hidn; obtain ⟨g1, g2, g3⟩ := HWD.out.pushed (by omega) he2 hg2 hb2; obtain ⟨A2, cc2, rfl⟩ := he2.shape; have HG1 := Lib.hid g1; have HG2 := Lib.hid g2; have HG3 := Lib.hid g3; clear he2 hg2 hb2 g1 g2 g3)
        obtain ⟨g4, k4⟩ := HG1.out.place hidn (n : Int)
        have HR := Lib.hid (rise_any ⟨g4, HPO.out, HCO.out, Chg.refl _ _⟩ (show n < n + 1 by omega) HEX.out.1 True (fun _ => HEX.out.2))
        have HK := Lib.hid (((Chg.of_below (below_drewN w nq)).trans HG2.out).setCell (show foot H PB (.slice A n c) PB from .inr (.inl rfl)) id.toNat (.int .i64 n))
        clear g4 k4 HG1 HG2 HPO HCO HEX HWD HW b1 b2 b3 b4 b5
        go_wp2_with fail
        (with_reducible refine HR.out.mono ?_)
        rintro e w5 ⟨i5, E5, P5, rfl, hi5, ⟨s1, s2, s3, s4⟩, s5, s6, s7⟩
        have HF : Hid (HpAns C H S cap (pushN cap n M id) (pushM cap n M id key) (.int .i64 (pushErr cap n M id)) w (.returned (.int .i64 0)) w5) := by
          unfold pushN pushM; rw [HE.out, if_pos rfl, if_pos rfl]
          exact Lib.hid ⟨_, rfl, HeapO.done HS.out s1 s2 s3 (hp_of s5 s6 (s7 trivial)) (HK.out.join s4 HG3.out) HG3.out⟩
        clear s1 s2 s3 s4 s5 s6 s7 HK HG3 HR
        go_wp2
        go_ret
        exact HF.out

/-- Update's error and what is there then. -/
def updErr (M : Int → Option Int) (id : Int) : Int := if (M id).isSome then 0 else 6
def updM (M : Int → Option Int) (id key : Int) : Int → Option Int := if (M id).isSome then putM M id key else M
def remN (n : Nat) (M : Int → Option Int) (id : Int) : Nat := if (M id).isSome then n - 1 else n
def remM (M : Int → Option Int) (id : Int) : Int → Option Int := if (M id).isSome then delM M id else M
theorem HeapW.keyAt {w : World} {C H PB cap n g c : Nat} {E : Nat → Int × Int} {P : Nat → Int} (h : HeapW w C H PB (.slice (some ⟨g, 0, none⟩) n c) cap n E P) {i : Nat} (hi : i < n) (x : Int) :
    HeapW (w.setCell ⟨g, i * 2 + 1, none⟩ (.int .i64 x)) C H PB (.slice (some ⟨g, 0, none⟩) n c) cap n (up1 E i ((E i).1, x)) P ∧ Chg (foot H PB (.slice (some ⟨g, 0, none⟩) n c)) w (w.setCell ⟨g, i * 2 + 1, none⟩ (.int .i64 x)) := by
  have hgH : H ≠ g := fun e => h.ne.2.1 (by rw [e]; rfl)
  have hgP : PB ≠ g := fun e => h.ne.2.2 (by rw [e]; rfl)
  exact ⟨⟨(Below.heap_setCell w ⟨g, i * 2 + 1, none⟩ _ H hgH).trans h.blk, h.ents.key hi x, h.pos.far hgP _ _, h.lo, h.ne, h.len⟩, (Chg.refl _ _).setCell (.inr (.inr rfl)) _ _⟩
set_option maxRecDepth 100000 in
set_option maxHeartbeats 4000000 in
theorem upd_any {C H cap n : Nat} {S : Nat → Prop} {M : Int → Option Int} {w : World} (h : HeapO C H S cap n M w) (id key : Int) :
    Calls Try.prog 18 #[.pointer (some ⟨H, 0, none⟩), .int .i64 id, .int .i64 key] w (HpAns C H S cap n (updM M id key) (.int .i64 (updErr M id)) w) := by
  unfold updM updErr
  by_cases hm : (M id).isSome = true
  · rw [if_pos hm, if_pos hm]
    obtain ⟨PB, v, E, P, h1, h2, h3, h4, h5, h6⟩ := h
    obtain ⟨j, hj, he, _⟩ := h3.find hm
    have HFD := Lib.hid (find_yes h1 h2 hj he)
    have ht : ((j : Int) == -1) = false := beq_eq_false_iff_ne.2 (by omega)
    have hlen := h1.len
    obtain ⟨_, c1, _, _⟩ := h1.cells
    obtain ⟨g, c, rfl, _, _, _⟩ := h1.ents.some_ (by omega)
    obtain ⟨_, a2⟩ := h1.ents.cell hj
    have f2 := h1.ents.free (j * 2 + 1)
    have hjn : (j : Int) < (n : Int) := by omega
    obtain ⟨g1, k1⟩ := h1.keyAt hj key
    have HZ := Lib.hid (settle_any (w0 := w.setCell ⟨g, j * 2 + 1, none⟩ (.int .i64 key)) (M := putM M id key) ⟨g1, h2.upd hj key, he ▸ h3.upd h2.dist hj key, Chg.refl _ _⟩ hj (exc_of_hp h4 j hj _))
    have HK := Lib.hid k1
    have HS := Lib.hid h5
    clear h1 h2 h3 h4 h5 h6 hm he g1 k1
    go_enter Try.func18, Try.ntmps18
    go_wp2_with fail
    (with_reducible refine HFD.out.mono ?_)
    rintro e w1 ⟨rfl, rfl⟩
    go_wp2_with fail
    (with_reducible refine HZ.out.mono ?_)
    rintro e w2 ⟨E5, P5, rfl, ⟨s1, s2, s3, s4⟩, s5⟩
    have HF : Hid (HpAns C H S cap n (putM M id key) (.int .i64 0) w (.returned (.int .i64 0)) w2) := Lib.hid ⟨_, rfl, HeapO.done HS.out s1 s2 s3 s5 (HK.out.trans s4) (fun k hk => .inl hk)⟩
    clear s1 s2 s3 s4 s5 HK HZ
    go_wp2
    go_ret
    exact HF.out
  · rw [if_neg hm, if_neg hm]
    have HE : Hid (HpAns C H S cap n M (.int .i64 6) w (.returned (.int .i64 6)) w) := Lib.hid ⟨S, rfl, h.same (Below.refl _ _)⟩
    have hn := isSome_not hm
    obtain ⟨PB, v, E, P, h1, h2, h3, h4, h5, h6⟩ := h
    have HFD := Lib.hid (find_no h1 h2 h3 hn)
    clear h1 h2 h3 h4 h5 h6 hm hn
    go_enter Try.func18, Try.ntmps18
    go_wp2_with fail
    (with_reducible refine HFD.out.mono ?_)
    rintro e w1 ⟨rfl, rfl⟩
    go_wp2
    go_ret
    exact HE.out
set_option maxRecDepth 100000 in
set_option maxHeartbeats 4000000 in
theorem rem_any {C H cap n : Nat} {S : Nat → Prop} {M : Int → Option Int} {w : World} (h : HeapO C H S cap n M w) (id : Int) :
    Calls Try.prog 21 #[.pointer (some ⟨H, 0, none⟩), .int .i64 id] w (HpAns C H S cap (remN n M id) (remM M id) (.tuple #[.int .i64 ((M id).getD 0), .int .i64 (updErr M id)]) w) := by
  unfold remN remM updErr
  by_cases hm : (M id).isSome = true
  · rw [if_pos hm, if_pos hm, if_pos hm]
    obtain ⟨PB, v, E, P, h1, h2, h3, h4, h5, h6⟩ := h
    obtain ⟨j, hj, he, hv⟩ := h3.find hm
    obtain ⟨n, rfl⟩ : ∃ m, n = m + 1 := ⟨n - 1, by omega⟩
    rw [hv, Nat.add_sub_cancel]
    have HFD := Lib.hid (find_yes h1 h2 hj he)
    have ht : ((j : Int) == -1) = false := beq_eq_false_iff_ne.2 (by omega)
    have HZ := Lib.hid (take_any h1 h2 h3 h4 hj)
    have HS := Lib.hid h5
    have HE := Lib.hid he
    clear h1 h2 h3 h4 h5 h6 hm he hv
    go_enter Try.func21, Try.ntmps21
    go_wp2_with fail
    (with_reducible refine HFD.out.mono ?_)
    rintro e w1 ⟨rfl, rfl⟩
    go_wp2_with fail
    (with_reducible refine HZ.out.mono ?_)
    rintro e w2 ⟨v5, E5, P5, rfl, hf5, ⟨s1, s2, s3, s4⟩, s5⟩
    rw [HE.out] at s3
    have HF : Hid (HpAns C H S cap n (delM M id) (.tuple #[.int .i64 (E j).2, .int .i64 0]) w (.returned (.tuple #[.int .i64 (E j).2, .int .i64 0])) w2) := Lib.hid ⟨_, rfl, HeapO.done HS.out s1 s2 s3 s5 (by rw [← hf5]; exact s4) (fun k hk => .inl (by rw [← hf5]; exact hk))⟩
    clear s1 s2 s3 s4 s5 HZ hf5 HE
    have hfd : ∀ (a b : Int) (w : World), (Instr.field 40 (.agg #[.int .i64 a, .int .i64 b]) 1).run Try.prog w = .ok (.int .i64 b) w := fun _ _ _ => by kernel_rfl
    go_wp2
    go_ret2
    exact HF.out
  · rw [if_neg hm, if_neg hm, if_neg hm]
    have hn := isSome_not hm
    rw [hn]
    have HE : Hid (HpAns C H S cap n M (.tuple #[.int .i64 0, .int .i64 6]) w (.returned (.tuple #[.int .i64 0, .int .i64 6])) w) := Lib.hid ⟨S, rfl, h.same (Below.refl _ _)⟩
    obtain ⟨PB, v, E, P, h1, h2, h3, h4, h5, h6⟩ := h
    have HFD := Lib.hid (find_no h1 h2 h3 hn)
    clear h1 h2 h3 h4 h5 h6 hm hn
    go_enter Try.func21, Try.ntmps21
    go_wp2_with fail
    (with_reducible refine HFD.out.mono ?_)
    rintro e w1 ⟨rfl, rfl⟩
    go_wp2
    go_ret2
    exact HE.out
set_option maxRecDepth 100000 in
set_option maxHeartbeats 4000000 in
theorem key_any {C H cap n : Nat} {S : Nat → Prop} {M : Int → Option Int} {w : World} (h : HeapO C H S cap n M w) (id : Int) :
    Calls Try.prog 22 #[.pointer (some ⟨H, 0, none⟩), .int .i64 id] w (HpAns C H S cap n M (.tuple #[.int .i64 ((M id).getD 0), .bool (M id).isSome]) w) := by
  by_cases hm : (M id).isSome = true
  · have h0 := h
    obtain ⟨PB, v, E, P, h1, h2, h3, h4, h5, h6⟩ := h
    obtain ⟨j, hj, he, hv⟩ := h3.find hm
    rw [hv]
    have HFD := Lib.hid (find_yes h1 h2 hj he)
    have ht : ((j : Int) == -1) = false := beq_eq_false_iff_ne.2 (by omega)
    obtain ⟨_, c1, _, _⟩ := h1.cells
    obtain ⟨g, c, rfl, _, _, _⟩ := h1.ents.some_ (by omega)
    obtain ⟨_, a2⟩ := h1.ents.cell hj
    have hjn : (j : Int) < (n : Int) := by omega
    have HE : Hid (HpAns C H S cap n M (.tuple #[.int .i64 (E j).2, .bool true]) w (.returned (.tuple #[.int .i64 (E j).2, .bool true])) w) := Lib.hid ⟨S, rfl, h0.same (Below.refl _ _)⟩
    clear h0 h1 h2 h3 h4 h5 h6 hm he hv
    go_enter Try.func22, Try.ntmps22
    go_wp2_with fail
    (with_reducible refine HFD.out.mono ?_)
    rintro e w1 ⟨rfl, rfl⟩
    go_wp2
    go_ret2
    exact HE.out
  · have hn := isSome_not hm
    rw [hn]
    have HE : Hid (HpAns C H S cap n M (.tuple #[.int .i64 0, .bool false]) w (.returned (.tuple #[.int .i64 0, .bool false])) w) := Lib.hid ⟨S, rfl, h.same (Below.refl _ _)⟩
    obtain ⟨PB, v, E, P, h1, h2, h3, h4, h5, h6⟩ := h
    have HFD := Lib.hid (find_no h1 h2 h3 hn)
    clear h1 h2 h3 h4 h5 h6 hm hn
    go_enter Try.func22, Try.ntmps22
    go_wp2_with fail
    (with_reducible refine HFD.out.mono ?_)
    rintro e w1 ⟨rfl, rfl⟩
    go_wp2
    go_ret2
    exact HE.out
theorem len_any {C H cap n : Nat} {S : Nat → Prop} {M : Int → Option Int} {w : World} (h : HeapO C H S cap n M w) :
    Calls Try.prog 12 #[.pointer (some ⟨H, 0, none⟩)] w fun e w' => e = .returned (.int .i64 n) ∧ w = w' := by
  obtain ⟨PB, v, E, P, h1, h2, h3, h4, h5, h6⟩ := h
  obtain ⟨_, c1, _, _⟩ := h1.cells
  obtain ⟨A, c, rfl⟩ := h1.ents.shape
  clear h1 h2 h3 h4 h5 h6
  go_enter Try.func12, Try.ntmps12
  go_wp2
  go_ret
  exact ⟨rfl, rfl⟩
end Go.Proofs.Ytlnbjmmbjhglnaa
