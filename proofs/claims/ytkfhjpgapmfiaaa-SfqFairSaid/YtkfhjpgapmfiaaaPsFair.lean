/-
  Layer 13: two flows that stay, with what they have been charged for in two samples beside the program's reference.
-/
import Derived.Test.YtkfhjpgapmfiaaaPsTm
import Derived.Test.YtkfhjpgapmfiaaaJnRef
namespace Go.Proofs.Ytkfhjpgapmfiaaa
open Go.ChangeShapes Go.WideShapes Go.ChangeAt Go.RowKit
set_option linter.unusedVariables false

/-- The choices and two samples. -/
structure XS (B : Nat) (a : Option Addr) (len cap q : Nat) (w0 : World) (ba bb : Nat) (x y : Sp) (T : Nat → Prop) (w : World) : Prop where
  has : Has B a len cap q w0 w
  hi : ∀ k, T k → B < k
  wa : Whole w ba 42 (spC x)
  wb : Whole w bb 42 (spC y)
  na : ¬ T ba
  nb : ¬ T bb
  ga : B < ba
  gb : B < bb
  ne : ba ≠ bb
section
variable {B : Nat} {a : Option Addr} {len cap q q' : Nat} {w0 : World} {ba bb R : Nat} {x y : Sp} {s : Sf} {w w' : World}
theorem XS.kx : Kx (XS B a len cap q w0 ba bb x y) := by
  intro T T' w w' hT h hc ht
  have fresh : ∀ b, b < w.heap.size → ¬ T b → ¬ T' b := fun b hb hn e => by
    rcases ht b e with h1 | h1
    · exact hn h1
    · omega
  refine ⟨h.has.trod (S := T) h.hi hc, fun k hk => ?_, hc.whole h.wa h.na, hc.whole h.wb h.nb, fresh _ h.wa.size_lt h.na, fresh _ h.wb.size_lt h.nb, h.ga, h.gb, h.ne⟩
  rcases ht k hk with h1 | h1
  · exact h.hi k h1
  · have := h.has.1.lt; omega
theorem SO.hasS (h : SO (XS B a len cap q w0 ba bb x y) R s w) : Has B a len cap q w0 w := by obtain ⟨T, _, h2⟩ := h; exact h2.has
theorem SO.cellsS (h : SO (XS B a len cap q w0 ba bb x y) R s w) : (Whole w ba 42 (spC x) ∧ Whole w bb 42 (spC y)) ∧ ba ≠ bb ∧ w0.heap.size ≤ w.heap.size := by
  obtain ⟨T, _, h2⟩ := h; exact ⟨⟨h2.wa, h2.wb⟩, h2.ne, h2.has.2.size⟩
theorem SO.drawnS (h : SO (XS B a len cap q w0 ba bb x y) R s w) (hg : Gen B a len cap q' w') (ho : Only B w w') : SO (XS B a len cap q' w0 ba bb x y) R s w' := by
  obtain ⟨T, h1, h2⟩ := h
  exact ⟨T, h1.only ho (fun e => by have := h2.hi B e; omega), ⟨⟨hg, h2.has.2.trans (ho.below (by have := h2.has.1.lt; omega))⟩, h2.hi, h2.wa.carry (ho.block _ h2.wa.size_lt (by have := h2.ga; omega)), h2.wb.carry (ho.block _ h2.wb.size_lt (by have := h2.gb; omega)), h2.na, h2.nb, h2.ga, h2.gb, h2.ne⟩⟩
def NxAnsS (B : Nat) (a : Option Addr) (len cap q : Nat) (w0 : World) (ba bb : Nat) (x y : Sp) (R : Nat) (s : Sf) (lo hi : Int) (e : Ending) (w' : World) : Prop := ∃ z : Int, lo ≤ z ∧ z < hi ∧ e = .returned (.int .i64 z) ∧ SO (XS B a len cap (q + 1) w0 ba bb x y) R s w'
theorem SO.nextS (h : SO (XS B a len cap q w0 ba bb x y) R s w) {n : Int} (n0 : 1 ≤ n) (n1 : n ≤ 1000000000) (hq : q ≤ 1000000000) :
    Calls Try.prog 9 #[.pointer (some ⟨B, 0, none⟩), .int .i64 n] w (NxAnsS B a len cap q w0 ba bb x y R s 0 n) := by
  refine (next_any B a len cap q n w n0 n1 hq h.hasS.1).mono ?_
  rintro e w' ⟨z, x0, x1, e1, hg, ho⟩
  exact ⟨z, x0, x1, e1, h.drawnS hg ho⟩
theorem SO.lengthS (h : SO (XS B a len cap q w0 ba bb x y) R s w) (hq : q ≤ 1000000000) :
    Calls Try.prog 21 #[.pointer (some ⟨B, 0, none⟩)] w (NxAnsS B a len cap q w0 ba bb x y R s 1 4097) := by
  refine (length_any B a len cap q w h.hasS.1 hq).mono ?_
  rintro e w' ⟨z, x0, x1, e1, hg, ho⟩
  exact ⟨z, x0, by omega, e1, h.drawnS hg ho⟩
theorem SO.weightS (h : SO (XS B a len cap q w0 ba bb x y) R s w) (hq : q ≤ 1000000000) :
    Calls Try.prog 17 #[.pointer (some ⟨B, 0, none⟩)] w (NxAnsS B a len cap q w0 ba bb x y R s 1 17) := by
  refine (weight_any B a len cap q w0 w h.hasS hq).mono ?_
  rintro e w' ⟨z, x0, x1, e1, hg, ho⟩
  exact ⟨z, x0, by omega, e1, h.drawnS hg.1 ho⟩
theorem SO.startS (h : SO (XC B a len cap q w0) R s w) : SO (XS B a len cap q w0 w.heap.size (w.heap.size + 1) x y) R s ((w.alloc (.cells (spC x) 42)).alloc (.cells (spC y) 42)) := by
  obtain ⟨T, h1, h2, h3⟩ := h
  have hb := ((Below.refl w.heap.size w).alloc (Nat.le_refl _) (.cells (spC x) 42)).alloc (by simp) (.cells (spC y) 42)
  have wb := Whole.fresh (w.alloc (.cells (spC x) 42)) 42 (spC y)
  rw [World.size_alloc] at wb
  exact ⟨T, h1.below hb, ⟨h2.below hb, h3, (Whole.fresh w _ (spC x)).alloc _, wb, (fun e => by have := h1.lt _ e; omega), (fun e => by have := h1.lt _ e; omega), h2.1.lt, by have := h2.1.lt; omega, by omega⟩⟩
/-- A sample's bytes and greatest packet stored. -/
theorem SO.putA (h : SO (XS B a len cap q w0 ba bb x y) R s w) (u v : Int) : SO (XS B a len cap q w0 ba bb ⟨x.w, u, v⟩ y) R s ((w.setCell ⟨ba, 1, none⟩ (.int .i64 u)).setCell ⟨ba, 2, none⟩ (.int .i64 v)) := by
  obtain ⟨T, h1, h2⟩ := h
  have hk : ∀ k, k ≠ ba → ((w.setCell ⟨ba, 1, none⟩ (.int .i64 u)).setCell ⟨ba, 2, none⟩ (.int .i64 v)).heap[k]? = w.heap[k]? := fun k hk => (Below.heap_setCell _ ⟨ba, 2, none⟩ _ k hk).trans (Below.heap_setCell _ ⟨ba, 1, none⟩ _ k hk)
  have hb : Below (B + 1) w ((w.setCell ⟨ba, 1, none⟩ (.int .i64 u)).setCell ⟨ba, 2, none⟩ (.int .i64 v)) := ((Below.refl (B + 1) w).setCell (p := ⟨ba, 1, none⟩) (by have := h2.ga; show B + 1 ≤ ba; omega) _).setCell (p := ⟨ba, 2, none⟩) (by have := h2.ga; show B + 1 ≤ ba; omega) _
  exact ⟨T, h1.keep (by simp) (fun k hT => hk k (fun e => h2.na (e ▸ hT))), ⟨⟨h2.has.1.kept hb, h2.has.2.trans (hb.mono (by omega))⟩, h2.hi, (h2.wa.put 1 (.int .i64 u)).put 2 (.int .i64 v), h2.wb.carry (hk bb h2.ne.symm), h2.na, h2.nb, h2.ga, h2.gb, h2.ne⟩⟩
theorem SO.putB (h : SO (XS B a len cap q w0 ba bb x y) R s w) (u v : Int) : SO (XS B a len cap q w0 ba bb x ⟨y.w, u, v⟩) R s ((w.setCell ⟨bb, 1, none⟩ (.int .i64 u)).setCell ⟨bb, 2, none⟩ (.int .i64 v)) := by
  obtain ⟨T, h1, h2⟩ := h
  have hk : ∀ k, k ≠ bb → ((w.setCell ⟨bb, 1, none⟩ (.int .i64 u)).setCell ⟨bb, 2, none⟩ (.int .i64 v)).heap[k]? = w.heap[k]? := fun k hk => (Below.heap_setCell _ ⟨bb, 2, none⟩ _ k hk).trans (Below.heap_setCell _ ⟨bb, 1, none⟩ _ k hk)
  have hb : Below (B + 1) w ((w.setCell ⟨bb, 1, none⟩ (.int .i64 u)).setCell ⟨bb, 2, none⟩ (.int .i64 v)) := ((Below.refl (B + 1) w).setCell (p := ⟨bb, 1, none⟩) (by have := h2.gb; show B + 1 ≤ bb; omega) _).setCell (p := ⟨bb, 2, none⟩) (by have := h2.gb; show B + 1 ≤ bb; omega) _
  exact ⟨T, h1.keep (by simp) (fun k hT => hk k (fun e => h2.nb (e ▸ hT))), ⟨⟨h2.has.1.kept hb, h2.has.2.trans (hb.mono (by omega))⟩, h2.hi, h2.wa.carry (hk ba h2.ne), (h2.wb.put 1 (.int .i64 u)).put 2 (.int .i64 v), h2.na, h2.nb, h2.ga, h2.gb, h2.ne⟩⟩
end
/-! ### what they have been charged for -/
structure Fr (i : Nat) (s : Sf) (x y : Sp) : Prop where
  tm : Tm i s
  sx : s.Stays 0 (4096 * unC x.w) (x.b * unC x.w)
  sy : s.Stays 1 (4096 * unC y.w) (y.b * unC y.w)
  wx : s.wt 0 = x.w
  wy : s.wt 1 = y.w
  bx : wtB x.w = true
  by_ : wtB y.w = true
  nx : 0 ≤ x.b ∧ x.b ≤ 4096 * i
  ny : 0 ≤ y.b ∧ y.b ≤ 4096 * i
  mx : 0 ≤ x.m ∧ x.m ≤ 4096
  my : 0 ≤ y.m ∧ y.m ≤ 4096
section
variable {i : Nat} {s t : Sf} {x y : Sp}
theorem fr_joined {at_ a b : Int} (h : 1 ≤ at_) (ha : wtB a = true) (hb : wtB b = true) : Fr 0 (jnT (jnT (Sf.new at_) (0 : Nat) a) (1 : Nat) b) ⟨a, 0, 0⟩ ⟨b, 0, 0⟩ := by
  obtain ⟨a1, a2⟩ := jn_0 (s := Sf.new at_) (n := 0) (x := a) (by omega) ha rfl
  obtain ⟨b1, b2⟩ := jn_0 (s := (Sf.new at_).join 0 a) (n := 1) (x := b) (by omega) hb (by simp only [Sf.join]; rw [fset_ne _ _ (by omega)]; rfl)
  have ht := ((Tm.new h).jn (0 : Nat) a).jn (1 : Nat) b
  have ua := un_bd ha
  have ub := un_bd hb
  rw [a2, b2] at ht ⊢
  refine ⟨ht, ⟨rfl, ?_, ?_⟩, ⟨rfl, ?_, ?_⟩, rfl, rfl, ha, hb, by simp, by simp, by simp, by simp⟩
  · show (0 : Int) + 0 = 0 * _; simp
  · show (0 : Int) ≤ 0 + 4096 * unC a; omega
  · show (0 : Int) + 0 = 0 * _; simp
  · show (0 : Int) ≤ 0 + 4096 * unC b; omega
theorem Fr.jn (h : Fr i s x y) {f : Int} (hf : 2 ≤ f) (z : Int) : Fr i (jnT s f z) x y := by
  have ht := h.tm.jn f z
  unfold jnT at ht ⊢
  split
  · rename_i h0
    rw [if_pos h0] at ht
    have h1 : f.toNat ≠ 0 := by omega
    have h2 : f.toNat ≠ 1 := by omega
    exact ⟨ht, h.sx.join h1, h.sy.join h2, by simp only [Sf.join]; rw [fset_ne _ _ h1.symm]; exact h.wx, by simp only [Sf.join]; rw [fset_ne _ _ h2.symm]; exact h.wy, h.bx, h.by_, h.nx, h.ny, h.mx, h.my⟩
  · exact h
theorem Fr.lv (h : Fr i s x y) (hs : SfOk s) {f : Int} (hf : 2 ≤ f) (hl : LvT s f t) : Fr i t x y := by
  have ht := h.tm.lv hs hl
  unfold LvT at hl
  split at hl
  · rename_i h0
    have h1 : f.toNat ≠ 0 := by omega
    have h2 : f.toNat ≠ 1 := by omega
    exact ⟨ht, h.sx.left (by omega) h1 hl, h.sy.left (by omega) h2 hl, by rw [hl.2.2.1]; exact h.wx, by rw [hl.2.2.1]; exact h.wy, h.bx, h.by_, h.nx, h.ny, h.mx, h.my⟩
  · subst hl; exact h
theorem Fr.sel (h : Fr i s x y) (hs : SfOk s) : ∃ n, s.Sel n := by
  obtain ⟨f, g, hsel⟩ := sel_some hs
  rcases hsel with ⟨hi, _⟩ | ⟨n, hn, _⟩
  · have := hi 0 (by omega); rw [h.sx.1] at this; cases this
  · exact ⟨n, hn⟩
/-- The samples behind a charge of flow n for l bytes. -/
def paX (n : Nat) (l : Int) (x : Sp) : Sp := if n = 0 then ⟨x.w, x.b + l, max x.m l⟩ else x
def paY (n : Nat) (l : Int) (y : Sp) : Sp := if n = 1 then ⟨y.w, y.b + l, max y.m l⟩ else y
theorem Fr.ch (h : Fr i s x y) (hs : SfOk s) (hi : i ≤ 200) {n : Nat} (hn : s.Sel n) {l : Int} (hl : 1 ≤ l ∧ l ≤ 4096) : chE s n l = 0 ∧ ∀ t, ChT s n l t → Fr (i + 1) t (paX n l x) (paY n l y) := by
  obtain ⟨e1, e2⟩ := h.tm.ch hs hi hn hl
  refine ⟨e1, fun t ht => ?_⟩
  obtain ⟨k1, k2⟩ := e2 t ht
  have hwt : t.wt = s.wt := k2.2.2.1
  have nx := h.nx
  have ny := h.ny
  have mx := h.mx
  have my := h.my
  have ux := un_bd h.bx
  have uy := un_bd h.by_
  unfold paX paY
  by_cases h0 : n = 0
  · subst h0
    rw [if_pos rfl, if_neg (by omega)]
    rw [h.wx] at k2
    have := h.sx.own (c := l * unC x.w) (Int.mul_le_mul_of_nonneg_right hl.2 (by omega)) k2
    rw [← Int.add_mul] at this
    exact ⟨k1, this, h.sy.other (by omega) k2, by rw [hwt]; exact h.wx, by rw [hwt]; exact h.wy, h.bx, h.by_, by simp only []; omega, by omega, by simp only []; omega, my⟩
  · by_cases h1 : n = 1
    · subst h1
      rw [if_neg (by omega), if_pos rfl]
      rw [h.wy] at k2
      have := h.sy.own (c := l * unC y.w) (Int.mul_le_mul_of_nonneg_right hl.2 (by omega)) k2
      rw [← Int.add_mul] at this
      exact ⟨k1, h.sx.other (by omega) k2, this, by rw [hwt]; exact h.wx, by rw [hwt]; exact h.wy, h.bx, h.by_, by omega, by simp only []; omega, mx, by simp only []; omega⟩
    · rw [if_neg h0, if_neg h1]
      exact ⟨k1, h.sx.other h0 k2, h.sy.other h1 k2, by rw [hwt]; exact h.wx, by rw [hwt]; exact h.wy, h.bx, h.by_, by omega, by omega, mx, my⟩
theorem Fr.fair (h : Fr i s x y) (hi : i ≤ 200) : faB ⟨x.w, x.b, 4096⟩ ⟨y.w, y.b, 4096⟩ = true := by
  have ux := un_bd h.bx
  have uy := un_bd h.by_
  have hg := Sf.Stays.gap h.tm.inv h.sx h.sy (by omega) (by omega)
  have nx := h.nx
  have ny := h.ny
  unfold faB
  rw [sp_of (s := ⟨x.w, x.b, 4096⟩) h.bx ⟨nx.1, by simp only []; omega⟩ ⟨by simp only []; omega, by simp only []; omega⟩, sp_of (s := ⟨y.w, y.b, 4096⟩) h.by_ ⟨ny.1, by simp only []; omega⟩ ⟨by simp only []; omega, by simp only []; omega⟩]
  simp only [Bool.and_self, Bool.true_and, decide_eq_true_eq]
  unfold gaI boI svI
  simp only []
  omega
end
end Go.Proofs.Ytkfhjpgapmfiaaa

