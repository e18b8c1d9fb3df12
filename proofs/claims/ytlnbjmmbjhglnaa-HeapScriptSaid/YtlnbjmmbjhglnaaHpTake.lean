/-
  Layer 4: contract of the heap's takeOut; the heap as an object of its own.
-/
import Derived.Test.YtlnbjmmbjhglnaaHpMove
namespace Go.Proofs.Ytlnbjmmbjhglnaa
open Go.ChangeShapes Go.WideShapes Go.ChangeAt Go.RowKit
set_option linter.unusedVariables false

theorem Chg.cell {S : Nat → Prop} {w w' : World} (h : Chg S w w') {b : Nat} (hb : b < w.heap.size) (hn : ¬ S b) (o : Nat) : w'.cell? ⟨b, o, none⟩ = w.cell? ⟨b, o, none⟩ := World.cell?_of_block (w := w) (h.block b hb hn)
theorem Chg.whole {S : Nat → Prop} {w w' : World} (h : Chg S w w') {b : Nat} {t : TypeId} {cs : Array Value} (hw : Whole w b t cs) (hn : ¬ S b) : Whole w' b t cs := hw.carry (h.block b hw.size_lt hn)
theorem Whole.new (w : World) (t : TypeId) (cs : Array Value) : Whole (w.alloc (.cells cs t)) w.heap.size t cs := (MapKept.heap_alloc w _).1
theorem Whole.below {w w' : World} {b : Nat} {t : TypeId} {cs : Array Value} (h : Whole w b t cs) (hb : Below w.heap.size w w') : Whole w' b t cs := h.carry (hb.block b h.size_lt)
/-- The entries cut by the last one. -/
theorem HeapW.cut {w : World} {C H PB cap n g c : Nat} {E : Nat → Int × Int} {P : Nat → Int} (h : HeapW w C H PB (.slice (some ⟨g, 0, none⟩) (n + 1) c) cap (n + 1) E P) :
    HeapW (w.setCell ⟨H, 1, none⟩ (.slice (some ⟨g, 0, none⟩) n c)) C H PB (.slice (some ⟨g, 0, none⟩) n c) cap n E P ∧
    Chg (foot H PB (.slice (some ⟨g, 0, none⟩) (n + 1) c)) w (w.setCell ⟨H, 1, none⟩ (.slice (some ⟨g, 0, none⟩) n c)) := by
  have hgH : g ≠ H := fun e => h.ne.2.1 (by rw [← e]; rfl)
  refine ⟨⟨?_, ?_, h.pos.far (fun e => h.ne.1 e.symm) _ _, h.lo, h.ne, by have := h.len; omega⟩, (Chg.refl _ _).setCell (.inl rfl) _ _⟩
  · have := heap_setCell_same w H 1 _ _ (.slice (some ⟨g, 0, none⟩) n c) h.blk
    rw [this]; rfl
  · exact (h.ents.cut (show n ≤ n + 1 by omega)).keep (fun k e => by
      have : g = k := by simpa [Value.ownBlock] using e
      subst this
      exact Below.heap_setCell w ⟨H, 1, none⟩ _ g hgH)
theorem HeapW.far {w : World} {C H PB cap n : Nat} {v : Value} {E : Nat → Int × Int} {P : Nat → Int} (h : HeapW w C H PB v cap n E P) {b : Nat} (hb : ¬ foot H PB v b) (o : Nat) (u : Value) : HeapW (w.setCell ⟨b, o, none⟩ u) C H PB v cap n E P :=
  h.keep fun k hk => Below.heap_setCell w ⟨b, o, none⟩ u k (fun e => hb (by have e : k = b := e; rw [← e]; exact hk))
theorem Whole.at_ {w : World} {b : Nat} {t : TypeId} {x y : Value} (h : Whole w b t #[x, y]) : w.cell? ⟨b, 0, none⟩ = some x ∧ w.cell? ⟨b, 1, none⟩ = some y ∧ w.frozen? ⟨b, 0, none⟩ = false ∧ w.frozen? ⟨b, 1, none⟩ = false :=
  ⟨by rw [h.read]; rfl, by rw [h.read]; rfl, h.free 0, h.free 1⟩
/-- What takeOut(i) leaves. -/
def TookOut (C H PB : Nat) (v : Value) (cap n : Nat) (M : Int → Option Int) (x : Int × Int) (w : World) (e : Ending) (w' : World) : Prop :=
  ∃ (v' : Value) (E : Nat → Int × Int) (P : Nat → Int), e = .returned (.agg #[.int .i64 x.1, .int .i64 x.2]) ∧ foot H PB v' = foot H PB v ∧ St C H PB v' cap n (delM M x.1) w w' E P ∧ Hp E n
set_option maxRecDepth 100000 in
set_option maxHeartbeats 4000000 in
theorem take_any {w : World} {C H PB cap n : Nat} {v : Value} {M : Int → Option Int} {E : Nat → Int × Int} {P : Nat → Int} (h : HeapW w C H PB v cap (n + 1) E P) (hp : PosOk E (n + 1) P) (hc : Cont E (n + 1) M) (hh : Hp E (n + 1)) {i : Nat} (hi : i < n + 1) :
    Calls Try.prog 38 #[.pointer (some ⟨H, 0, none⟩), .int .i64 i] w (TookOut C H PB v cap n M (E i) w) := by
  obtain ⟨_, c1, _, _⟩ := h.cells
  obtain ⟨g, c, rfl, hcc, hCg, hgl⟩ := h.ents.some_ (by omega)
  have hn4 : n + 1 ≤ 4096 := by have := h.len; omega
  have hHl := (h.lt H (.inl rfl)).2
  have H0 := Lib.hid h
  have HP := Lib.hid (hp.swap_ hi (show n < n + 1 by omega)).drop
  have HD := Lib.hid (hc.swap_ hi (show n < n + 1 by omega)).drop
  have HDD := Lib.hid hp.dist
  have HH := Lib.hid hh
  have ei := hp.1 i hi
  have HW := Lib.hid (fun (W : World) (hb : Below w.heap.size w W) => swap_any (h.below hb) hp hi (show n < n + 1 by omega))
  clear h hp hc hh
  go_enter Try.func38, Try.ntmps38
  go_wp2_with fail
  (with_reducible refine (HW.out _ ((Below.refl _ _).alloc (Nat.le_refl _) _)).mono ?_)
  rintro e w1 ⟨rfl, h1, k1⟩
  have r1 := k1.whole (Whole.new w _ _) (fun hf => by have := (H0.out.lt _ hf).2; omega)
  have hsz : w.heap.size + 1 ≤ w1.heap.size := by have := k1.size; simpa using this
  clear c1
  obtain ⟨_, c1, c2, fz⟩ := h1.cells
  obtain ⟨a1, a2⟩ := h1.ents.cell (i := n) (by omega)
  rw [sw_r] at a1 a2
  have hH1 := (h1.lt H (.inl rfl)).2
  have hg1 := (h1.lt g (.inr (.inr rfl))).2
  have n1 : ((n : Nat) : Int) + 1 - 1 = n := by omega
  have HS1 := Lib.hid h1
  have HK1 := Lib.hid k1
  have HR1 := Lib.hid r1
  clear h1 k1 r1 HW
  go_wp2_with fail
  obtain ⟨h2, k2⟩ := HS1.out.cut
  have hsz2 : (w1.setCell ⟨H, 1, none⟩ (.slice (some ⟨g, 0, none⟩) n c)).heap.size = w1.heap.size := by simp [World.setCell]
  have q2 := Whole.new (w1.setCell ⟨H, 1, none⟩ (.slice (some ⟨g, 0, none⟩) n c)) 40 #[.int .i64 (E i).1, .int .i64 (E i).2]
  rw [hsz2] at q2
  have h2' := h2.alloc (.cells #[.int .i64 (E i).1, .int .i64 (E i).2] 40)
  have k2' := k2.alloc (.cells #[.int .i64 (E i).1, .int .i64 (E i).2] 40)
  have HB1 : Hid (¬ foot H PB (.slice (some ⟨g, 0, none⟩) (n + 1) c) w.heap.size) := fun hf => by have := (H0.out.lt _ hf).2; omega
  have HB2 : Hid (¬ foot H PB (.slice (some ⟨g, 0, none⟩) (n + 1) c) w1.heap.size) := fun hf => by have := (H0.out.lt _ hf).2; omega
  have r2 := k2'.whole HR1.out HB1.out
  clear h2 k2 hsz2 a1 a2 c1 c2 fz hH1 hg1 n1 HR1
  generalize (w1.setCell ⟨H, 1, none⟩ (.slice (some ⟨g, 0, none⟩) n c)).alloc (.cells #[.int .i64 (E i).1, .int .i64 (E i).2] 40) = w2 at h2' k2' q2 r2 ⊢
  obtain ⟨_, _, c2, _⟩ := h2'.cells
  obtain ⟨q0, q1, _, _⟩ := q2.at_
  obtain ⟨p0, p1⟩ := h2'.posCell (i := (E i).1.toNat) (by omega)
  have l1 : (E i).1 < (4096 : Int) := by omega
  have l2 : 0 ≤ (E i).1 := by omega
  obtain ⟨h3, k3⟩ := h2'.place (i := (E i).1.toNat) (by omega) (-1)
  have HS3 := Lib.hid h3.drew
  have HK3 := Lib.hid ((((Chg.refl _ w).alloc _).trans HK1.out).trans (k2'.trans k3.drew))
  have HR3 := Lib.hid (k3.drew.whole r2 HB1.out)
  have HQ3 := Lib.hid (k3.drew.whole q2 HB2.out)
  clear h2' k2' q2 r2 h3 k3 HS1 HK1 q1
  go_region
  clear c2 q0 p0 p1
  generalize (w2.setCell ⟨PB, (E i).1.toNat, none⟩ (.int .i64 (-1))).drew = w3 at HS3 HK3 HR3 HQ3 ⊢
  rw [sw_r] at HP HD
  have HD' := Lib.hid (HD.out (HDD.out.swap_ hi (by omega)))
  clear HD HDD
  by_cases hin : i < n
  · have HZ := Lib.hid (settle_any (w0 := w3) (M := delM M (E i).1) ⟨HS3.out, HP.out, HD'.out, Chg.refl _ _⟩ hin (exc_gap HH.out hin))
    have hin' : (i : Int) < (n : Int) := by omega
    clear HS3 HP HD' HH
    go_wp2_with fail
    (with_reducible refine HZ.out.mono ?_)
    rintro e w4 ⟨E4, P4, rfl, ⟨h4, p4, m4, k4⟩, o4⟩
    have r4 := k4.whole HR3.out HB1.out
    have q4 := k4.whole HQ3.out HB2.out
    obtain ⟨s0, s1, s2, s3⟩ := r4.at_
    obtain ⟨q0, q1, _, _⟩ := q4.at_
    have HF := Lib.hid (show TookOut C H PB (.slice (some ⟨g, 0, none⟩) (n + 1) c) cap n M (E i) w (.returned (.agg #[.int .i64 (E i).1, .int .i64 (E i).2])) ((w4.setCell ⟨w.heap.size, 0, none⟩ (.int .i64 (E i).1)).setCell ⟨w.heap.size, 1, none⟩ (.int .i64 (E i).2)) from
      ⟨.slice (some ⟨g, 0, none⟩) n c, E4, P4, rfl, rfl, ⟨(h4.far HB1.out _ _).far HB1.out _ _, p4, m4, ((HK3.out.trans k4).setNew (Nat.le_refl _) _ _).setNew (Nat.le_refl _) _ _⟩, o4⟩)
    have ZF := Lib.hid (show Whole ((w4.setCell ⟨w.heap.size, 0, none⟩ (.int .i64 (E i).1)).setCell ⟨w.heap.size, 1, none⟩ (.int .i64 (E i).2)) w.heap.size 40 #[.int .i64 (E i).1, .int .i64 (E i).2] from (Whole.put (Whole.put r4 0 _) 1 _))
    clear h4 p4 m4 k4 o4 r4 q4
    have hsz4 : w.heap.size < w4.heap.size := lt_of_cell s0
    go_wp2
    generalize (w4.setCell ⟨w.heap.size, 0, none⟩ (.int .i64 (E i).1)).setCell ⟨w.heap.size, 1, none⟩ (.int .i64 (E i).2) = wz at HF ZF ⊢
    obtain ⟨z0, z1, _, _⟩ := ZF.out.at_
    exact bodyPost_ret (v := .agg #[.int .i64 (E i).1, .int .i64 (E i).2]) (by simp [results, Try.results38, go_sem, z0, z1]) rfl HF.out
  · obtain rfl : i = n := by omega
    have hin' : ¬ (i : Int) < (i : Int) := by omega
    have hhp : Hp (sw E i i) i := by rw [sw_same]; exact hp_fewer HH.out (by omega)
    obtain ⟨s0, s1, s2, s3⟩ := HR3.out.at_
    obtain ⟨q0, q1, _, _⟩ := HQ3.out.at_
    have HF := Lib.hid (show TookOut C H PB (.slice (some ⟨g, 0, none⟩) (i + 1) c) cap i M (E i) w (.returned (.agg #[.int .i64 (E i).1, .int .i64 (E i).2])) ((w3.setCell ⟨w.heap.size, 0, none⟩ (.int .i64 (E i).1)).setCell ⟨w.heap.size, 1, none⟩ (.int .i64 (E i).2)) from
      ⟨.slice (some ⟨g, 0, none⟩) i c, _, _, rfl, rfl, ⟨(HS3.out.far HB1.out _ _).far HB1.out _ _, HP.out, HD'.out, (HK3.out.setNew (Nat.le_refl _) _ _).setNew (Nat.le_refl _) _ _⟩, hhp⟩)
    have ZF := Lib.hid (show Whole ((w3.setCell ⟨w.heap.size, 0, none⟩ (.int .i64 (E i).1)).setCell ⟨w.heap.size, 1, none⟩ (.int .i64 (E i).2)) w.heap.size 40 #[.int .i64 (E i).1, .int .i64 (E i).2] from (Whole.put (Whole.put HR3.out 0 _) 1 _))
    clear HS3 HK3 HR3 HQ3 HP HD' HH hhp hin
    have hsz4 : w.heap.size < w3.heap.size := lt_of_cell s0
    go_wp2
    generalize (w3.setCell ⟨w.heap.size, 0, none⟩ (.int .i64 (E i).1)).setCell ⟨w.heap.size, 1, none⟩ (.int .i64 (E i).2) = wz at HF ZF ⊢
    obtain ⟨z0, z1, _, _⟩ := ZF.out.at_
    exact bodyPost_ret (v := .agg #[.int .i64 (E i).1, .int .i64 (E i).2]) (by simp [results, Try.results38, go_sem, z0, z1]) rfl HF.out
end Go.Proofs.Ytlnbjmmbjhglnaa
