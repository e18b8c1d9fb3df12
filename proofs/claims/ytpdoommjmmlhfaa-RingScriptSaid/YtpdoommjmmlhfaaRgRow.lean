/-
  Layer 5: rows of numbers that are put together from parts of others: lists of cells, append as a step of a region that draws.
-/
import Derived.Test.YtpdoommjmmlhfaaRgMem
import Derived.Deep.RegionLaw
namespace Go.Proofs.Ytpdoommjmmlhfaa
open Go.ChangeShapes Go.WideShapes Go.ChangeAt Go.RowKit
set_option linter.unusedVariables false

theorem flatN_one (L : Nat → Int) (n : Nat) : ∀ u ∈ flatN L n, u.oneCell' = true := by
  intro u hu
  obtain ⟨j, hj, rfl⟩ := List.mem_iff_getElem.1 hu
  have e := flatN_at L n j (by rw [flatN_len] at hj; exact hj)
  rw [List.getElem?_eq_getElem hj] at e
  rw [Option.some.inj e]; rfl
theorem flatN_ext {L : Nat → Int} {n : Nat} {l : List Value} (hl : l.length = n) (h : ∀ j, j < n → l[j]? = some (.int .i64 (L j))) : l = flatN L n := by
  apply List.ext_getElem?
  intro j
  rcases Nat.lt_or_ge j n with h' | h'
  · rw [h j h', flatN_at L n j h']
  · rw [List.getElem?_eq_none (by omega), List.getElem?_eq_none (by rw [flatN_len]; exact h')]
theorem flatN_cons (x : Int) (L : Nat → Int) (n : Nat) : [Value.int .i64 x] ++ flatN L n = flatN (consN x L) (n + 1) := by
  refine flatN_ext (by rw [List.length_append, flatN_len]; simp; omega) (fun j hj => ?_)
  unfold consN
  cases j with
  | zero => rfl
  | succ j => rw [if_neg (by omega), Nat.add_sub_cancel]; exact flatN_at L n j (by omega)
theorem flatN_push (L : Nat → Int) (n : Nat) (x : Int) : flatN L n ++ [Value.int .i64 x] = flatN (upd L n x) (n + 1) := by
  simp only [flatN, upd_at]
  rw [flatN_congr (Y := L) (fun i hi => upd_ne (by omega))]
theorem flat_rmvN (L : Nat → Int) (n i : Nat) (hi : i < n + 1) : flatN L i ++ (flatN L (n + 1)).drop (i + 1) = flatN (rmvN L i) n := by
  refine flatN_ext (by rw [List.length_append, List.length_drop, flatN_len, flatN_len]; omega) (fun j hj => ?_)
  unfold rmvN
  by_cases h : j < i
  · rw [List.getElem?_append_left (by rw [flatN_len]; exact h), flatN_at L i j h, if_pos h]
  · rw [List.getElem?_append_right (by rw [flatN_len]; omega), flatN_len, List.getElem?_drop, flatN_at L (n + 1) _ (by omega), if_neg h, show i + 1 + (j - i) = j + 1 by omega]
theorem flat_last (L : Nat → Int) (n : Nat) : flatN L n = flatN (rmvN L n) n := flatN_congr fun j hj => by unfold rmvN; rw [if_pos hj]
/-- The parts of a row, as an append reads them. -/
theorem flat_parts {W : World} {g n : Nat} {L : Nat → Int} (hc : ∀ j, j < n → W.cell? ⟨g, j, none⟩ = some (.int .i64 (L j))) (i : Nat) :
    (i ≤ n → ∀ j u, (flatN L i)[j]? = some u → W.cell? ((⟨g, 0, none⟩ : Addr).add j) = some u) ∧ ∀ j u, ((flatN L n).drop i)[j]? = some u → W.cell? ((⟨g, i, none⟩ : Addr).add j) = some u := by
  refine ⟨fun hi j u e => ?_, fun j u e => ?_⟩
  · rw [Addr.add_lit, Nat.zero_add]
    have hj : j < i := by
      rcases Nat.lt_or_ge j i with h' | h'
      · exact h'
      · rw [List.getElem?_eq_none (by rw [flatN_len]; exact h')] at e; cases e
    rw [flatN_at L i j hj] at e
    rw [hc j (by omega)]; exact e
  · rw [Addr.add_lit]
    rw [List.getElem?_drop] at e
    have hj : i + j < n := by
      rcases Nat.lt_or_ge (i + j) n with h' | h'
      · exact h'
      · rw [List.getElem?_eq_none (by rw [flatN_len]; exact h')] at e; cases e
    rw [flatN_at L n _ hj] at e
    rw [hc _ hj]; exact e
theorem row_empty (w : World) (t : TypeId) (s : Nat) : (w.alloc (.cells #[] t)).ownsRow w.heap.size t s (.slice (some ⟨w.heap.size, 0, none⟩) 0 0) 0 [] :=
  World.ownsRow_made w #[] 0 (Nat.le_refl _) (by unfold maxLen; omega) (by simp)
theorem row_grown_new {w w1 : World} {t : TypeId} (hg : (w.alloc (.cells #[] t)).drew.grownBy w1 (Value.slice (some ⟨w.heap.size, 0, none⟩) 0 0).ownBlock) : Below w.heap.size w w1 :=
  (((Below.refl _ _).alloc (Nat.le_refl _) _).drew).grown hg (by simp) (fun k e => by
    have : w.heap.size = k := by simpa [Value.ownBlock] using e
    omega)
theorem row_grown {w w1 w2 : World} {t : TypeId} {s : Nat} {v : Value} {n : Nat} {xs : List Value} (hb : Below w.heap.size w w1) (hv : w1.ownsRow w.heap.size t s v n xs) (hg : w1.grownBy w2 v.ownBlock) : Below w.heap.size w w2 :=
  hb.grown hg hb.size (fun k e => (World.ownsRow.lt hv k e).1)
/-- append of numbers to a row of the call's own, as one step of a region that draws. -/
theorem step_append_nums {ops : Array Oper} {o : Oper} {a : Act} {w : World} {K : Act → World → Prop} {Q : Exit → Act → World → Prop} {X : Prop} (hgd : o.guard = none) (s x : Operand)
    (ho : o.op = .call { callee := .builtin .append, args := #[s, x], argTypes := #[22, 22] })
    (base n : Nat) (v : Value) (xs : List Value) (hs : a.eval s = v) (hown : w.ownsRow base 3 1 v n xs)
    (ad : Addr) (m c : Nat) (news : List Value) (hx : a.eval x = .slice (some ad) m c) (hl : news.length = m) (hc : ∀ j u, news[j]? = some u → w.cell? (ad.add j) = some u) (h1 : ∀ u ∈ news, u.oneCell' = true)
    (hn : n + m ≤ 8192) (hb : base ≤ w.heap.size)
    (hK : ∀ v' w', w'.ownsRow base 3 1 v' (n + m) (xs ++ news) → w.grownBy w' v.ownBlock → K (a.put o.dst v') w') :
    if Region.wanted o (yielded ops a.tmps) = true then Oper.wp Try.prog o a w K Q else X := by
  obtain ⟨i0, hii, hz0, hz1, hz2⟩ := info_parts infoInt
  have hw : Region.wanted o (yielded ops a.tmps) = true := by simp [Region.wanted, hgd]
  rw [if_pos hw]
  exact wp_append_own w s x _ ho base 3 i0 _ 1 8 Try.underlying22 hii hz0 hz1 hz2 rfl (by decide) v n xs hs hown ad m c news hx (by omega) hc h1 (by unfold maxLen; omega) (by omega) hb (fun v' w' h2 h3 _ => hK v' w' h2 h3)
theorem own_shape {w : World} {base : Nat} {t : TypeId} {s n : Nat} {v : Value} {xs : List Value} (h : w.ownsRow base t s v n xs) : ∃ A c, v = .slice A n c := by
  rcases h.2 with ⟨hv, rfl⟩ | ⟨g, cap, cur, hv, _⟩
  · exact ⟨none, 0, hv⟩
  · exact ⟨_, _, hv⟩
theorem Row.chg {w w' : World} {g n : Nat} {t : TypeId} {X : Nat → Int} {S : Nat → Prop} (h : Row w g t n X) (hk : Chg S w w') (hS : ¬ S g) : Row w' g t n X := by
  obtain ⟨cs, h1, r⟩ := h; exact ⟨cs, h1.carry (hk.block g h1.size_lt hS), r⟩
end Go.Proofs.Ytpdoommjmmlhfaa

