/-
  Layer 10: the two tables in memory: rows of stations, flows and marks, the map of numbers; appends of one struct; no call is walked here.
-/
import Derived.Test.YtgojbomdkdlclaaSrMem
import Derived.Test.YtgojbomdkdlclaaFlPlain
import Derived.Test.YtgojbomdkdlclaaChg
import Derived.Maps.OwnSet
import Derived.ArgAppend
import Derived.OwnWalk
namespace Go.Proofs.Ytgojbomdkdlclaa
open Go.ChangeShapes Go.WideShapes Go.ChangeAt Go.RowKit Go.Maps
set_option linter.unusedVariables false

def csS (s : Sta) : List Value := [.int .i64 s.i, .string s.nm, .int .i64 s.w, .int .i64 s.r]
def csF (f : Flo) : List Value := [.int .i64 f.i, .int .i64 f.s, .int .i64 f.w, .int .i64 f.p, .int .i64 f.b, .int .i64 f.lg, .int .i64 f.ld]
def csB (b : Bool) : List Value := [.bool b]
theorem csS_len (s : Sta) : (csS s).length = 4 := rfl
theorem csF_len (f : Flo) : (csF f).length = 7 := rfl
theorem csB_len (b : Bool) : (csB b).length = 1 := rfl
/-- What the program holds of a flow. -/
def goneF (f : Flo) (g : Bool) : Flo := if g then flo0 else f
def pfl (F : List Flo) (G : List Bool) : List Flo := List.zipWith goneF F G
theorem pfl_len {F : List Flo} {G : List Bool} (h : F.length = G.length) : (pfl F G).length = F.length := by unfold pfl; rw [List.length_zipWith]; omega
theorem pfl_at {F : List Flo} {G : List Bool} {k : Nat} (h : F.length = G.length) (hk : k < F.length) : (pfl F G)[k]'(by rw [pfl_len h]; exact hk) = goneF F[k] (G[k]'(by omega)) := by unfold pfl; rw [List.getElem_zipWith]
theorem pfl_snoc {F : List Flo} {G : List Bool} (h : F.length = G.length) (f : Flo) : pfl (F ++ [f]) (G ++ [false]) = pfl F G ++ [f] := by
  unfold pfl; rw [List.zipWith_append h]; rfl
theorem pfl_set {F : List Flo} {G : List Bool} {k : Nat} (h : F.length = G.length) (hk : k < F.length) (hg : G[k]'(by omega) = false) (f : Flo) : pfl (F.set k f) G = (pfl F G).set k f := by
  apply List.ext_getElem
  · rw [List.length_set, pfl_len h, pfl_len (by rw [List.length_set]; exact h), List.length_set]
  · intro i h1 h2
    have hi : i < F.length := by rw [List.length_set, pfl_len h] at h2; exact h2
    rw [pfl_at (by rw [List.length_set]; exact h) (by rw [List.length_set]; exact hi), List.getElem_set, List.getElem_set]
    by_cases e : k = i
    · subst e; rw [if_pos rfl, if_pos rfl, hg]; rfl
    · rw [if_neg e, if_neg e, pfl_at h hi]
theorem pfl_gone {F : List Flo} {G : List Bool} {k : Nat} (h : F.length = G.length) (hk : k < F.length) : pfl F (G.set k true) = (pfl F G).set k flo0 := by
  apply List.ext_getElem
  · rw [List.length_set, pfl_len h, pfl_len (by rw [List.length_set]; exact h)]
  · intro i h1 h2
    have hi : i < F.length := by rw [List.length_set, pfl_len h] at h2; exact h2
    rw [pfl_at (by rw [List.length_set]; exact h) hi, List.getElem_set, List.getElem_set]
    by_cases e : k = i
    · subst e; rw [if_pos rfl, if_pos rfl]; rfl
    · rw [if_neg e, if_neg e, pfl_at h hi]
/-- A sum along a list. -/
def sumW (L : List Flo) : Int := (L.map (·.w)).sum
theorem sumW_take {L : List Flo} {k : Nat} (hk : k < L.length) : sumW (L.take (k + 1)) = sumW (L.take k) + L[k].w := by
  unfold sumW; rw [List.take_succ_eq_append_getElem hk, List.map_append, List.sum_append]
  simp only [List.map_cons, List.map_nil, List.sum_cons, List.sum_nil, Int.add_zero]
theorem sumW_pfl : ∀ (F : List Flo) (G : List Bool), sumW (pfl F G) = totF F G
  | [], G => by simp [pfl, sumW, totF]
  | _ :: _, [] => by simp [pfl, sumW, totF]
  | f :: F, g :: G => by
    have := sumW_pfl F G
    unfold sumW pfl at *
    rw [List.zipWith_cons_cons, List.map_cons, List.sum_cons, this, totF]
    congr 1
    unfold goneF; split <;> rfl
theorem sumW_bd : ∀ (L : List Flo), (∀ f ∈ L, 0 ≤ f.w ∧ f.w ≤ 16) → 0 ≤ sumW L ∧ sumW L ≤ 16 * L.length
  | [], _ => by simp [sumW]
  | a :: L, h => by
    have h1 := sumW_bd L fun f hf => h f (by simp [hf])
    have h2 := h a (by simp)
    unfold sumW at *
    rw [List.map_cons, List.sum_cons, List.length_cons]; omega
theorem pfl_bd {t : Tb} (h : TbOk t) : ∀ f ∈ pfl t.F t.G, 0 ≤ f.w ∧ f.w ≤ 16 := by
  intro f hf
  obtain ⟨k, hk, rfl⟩ := List.getElem_of_mem hf
  have hk' : k < t.F.length := by rw [pfl_len h.len] at hk; exact hk
  rw [pfl_at h.len hk']
  have := h.fls _ (List.getElem_mem hk')
  unfold goneF
  split
  · show (0 : Int) ≤ 0 ∧ (0 : Int) ≤ 16; omega
  · omega
/-- The weight of what the program holds is 0 just where the flow is gone. -/
theorem gone_w {t : Tb} (h : TbOk t) {k : Nat} (hk : k < t.F.length) : (goneF t.F[k] (t.G[k]'(by have := h.len; omega))).w = 0 ↔ t.G[k]'(by have := h.len; omega) = true := by
  have := h.fls _ (List.getElem_mem hk)
  unfold goneF
  split
  · rename_i e; simp [e, flo0]
  · rename_i e; simp [e]; omega

/-! ### rows of the call's own -/
section
variable {w w' : World} {base base' : Nat} {t : TypeId} {s n : Nat} {v : Value} {xs : List Value}
theorem owk (h : w.ownsRow base t s v n xs) (hk : ∀ k, v.ownBlock = some k → w'.heap[k]? = w.heap[k]?) : w'.ownsRow base t s v n xs := by
  refine ⟨h.1, ?_⟩
  rcases h.2 with h2 | ⟨g, cap, cur, hv, hg, hh, r⟩
  · exact .inl h2
  · exact .inr ⟨g, cap, cur, hv, hg, (hk g (by rw [hv]; rfl)).trans hh, r⟩
theorem oww (h : w.ownsRow base t s v n xs) (hC : base' ≤ base) : w.ownsRow base' t s v n xs := by
  refine ⟨h.1, ?_⟩
  rcases h.2 with h2 | ⟨g, cap, cur, hv, hg, r⟩
  · exact .inl h2
  · exact .inr ⟨g, cap, cur, hv, by omega, r⟩
theorem ow_type (h : w.ownsRow base t s v n xs) {k : Nat} (e : v.ownBlock = some k) : ∃ cur, w.heap[k]? = some (.cells cur t (0, 0)) := by
  rcases h.2 with ⟨h2, _⟩ | ⟨g, cap, cur, hv, hg, hh, r⟩
  · subst h2; cases e
  · subst hv; obtain rfl : g = k := by simpa [Value.ownBlock] using e
    exact ⟨cur, hh⟩
theorem ow_shape (h : w.ownsRow base t s v n xs) : ∃ A c, v = .slice A n c := by
  rcases h.2 with ⟨h2, h3⟩ | ⟨g, cap, cur, hv, _⟩
  · subst h3; exact ⟨none, 0, h2⟩
  · exact ⟨_, _, hv⟩
theorem ow_at (h : w.ownsRow base t s v n xs) (hn : 0 < n) : ∃ g c, v = .slice (some ⟨g, 0, none⟩) n c ∧ base ≤ g ∧ g < w.heap.size := by
  rcases h.2 with ⟨h2, h3⟩ | ⟨g, cap, cur, hv, hg, hh, _⟩
  · omega
  · exact ⟨_, _, hv, hg, lt_of_block hh⟩
end
/-- append of one struct: the row is the old one, or new. -/
theorem run_append_one {P : Program} {w : World} (T ty : TypeId) {C n size bytes : Nat} {e : TypeId} {z : Value} {v : Value} {xs news : List Value} (h1 : P.underlying T = some (.slice e)) (hinf : (P.info? e).map (fun i => (i.zero, i.size, i.bytes)) = some (some z, size, bytes)) (hzc : z.cells.size = size) (hsz : 0 < size)
    (h : w.ownsRow C e size v n xs) (ad : Addr) (hnl : news.length = size) (hc : ∀ j u, news[j]? = some u → w.cell? (ad.add j) = some u) (hone : ∀ u ∈ news, u.oneCell' = true) (hn : n ≤ 100000) (hby : bytes ≤ 1000) (hC : C ≤ w.heap.size) :
    ∃ v' w', (Builtin.append_ #[T, T] ty #[v, .slice (some ad) 1 1]).run P w = .ok v' w' ∧ w'.ownsRow C e size v' (n + 1) (xs ++ news) ∧ w.grownBy w' v.ownBlock ∧ (v'.ownBlock = v.ownBlock ∨ ∃ g, v'.ownBlock = some g ∧ w.heap.size ≤ g) := by
  obtain ⟨i0, hii, hz0, hz1, hz2⟩ := info_parts hinf
  have hb2 : (n + 1) * bytes ≤ 140737488355328 := by
    have : (n + 1) * bytes ≤ 100001 * 1000 := Nat.mul_le_mul (by omega) hby
    omega
  have fresh : ∀ (v' : Value) (w' : World), w'.ownsRow w.heap.size e size v' (n + 1) (xs ++ news) → w'.ownsRow C e size v' (n + 1) (xs ++ news) ∧ ∃ g, v'.ownBlock = some g ∧ w.heap.size ≤ g := by
    intro v' w' hv
    obtain ⟨g, c, rfl, hg, _⟩ := ow_at hv (by omega)
    exact ⟨oww hv hC, g, rfl, hg⟩
  have hown := h
  rcases h.2 with ⟨rfl, rfl⟩ | ⟨g, c, cur, rfl, k1, k2, k3, k4, k5, k6⟩
  · have ex : xs = [] := List.eq_nil_of_length_eq_zero (by simpa using h.1)
    subst ex
    obtain ⟨v', w', hrun, hv, hg, _⟩ := run_append_own (P := P) w w.heap.size T ty e i0 z size bytes h1 hii hz0 hz1 hz2 hzc hsz _ 0 [] (World.ownsRow_nil _ _ _ _) ad 1 1 news (by rw [hnl]; omega) hc hone (by unfold maxLen; omega) hb2 (Nat.le_refl _)
    obtain ⟨f1, f2⟩ := fresh v' w' hv
    exact ⟨v', w', hrun, f1, hg, .inr f2⟩
  · by_cases hr : n + 1 ≤ c
    · obtain ⟨w', hrun, r1, r2⟩ := run_append_fits (P := P) w C T ty e i0 size h1 hii hz1 g n c xs hown ad 1 1 news (by rw [hnl]; omega) hc hone hr
      exact ⟨_, w', hrun, r1, r2, .inl rfl⟩
    · obtain ⟨v', w', hrun, r1, r2⟩ := run_append_arg_grows (P := P) w T ty e i0 z size bytes h1 hii hz0 hz1 hz2 hzc hsz ⟨g, 0, none⟩ n c xs h.1 (fun j u hj => by
        have hjl : j < n * size := by
          rcases Nat.lt_or_ge j (n * size) with h' | h'
          · exact h'
          · rw [List.getElem?_eq_none (by rw [h.1]; exact h')] at hj; cases hj
        rw [Addr.add_lit, Nat.zero_add, World.ownsRow.cellAt hown j hjl]; exact hj) ad 1 1 news (by rw [hnl]; omega) hc (by omega) (by unfold maxLen; omega) hb2
      obtain ⟨f1, f2⟩ := fresh v' w' r1
      exact ⟨v', w', hrun, f1, ⟨r2.os, r2.tape, r2.output, r2.size, fun k hk _ => r2.block k hk (by simp)⟩, .inr f2⟩
/-- The same at the operation, wherever it stands. -/
theorem wp_append_one {P : Program} {w : World} {o : Oper} {a : Act} {K : Act → World → Prop} {Q : Exit → Act → World → Prop} (s x : Operand) (T : TypeId)
    (ho : o.op = .call { callee := .builtin .append, args := #[s, x], argTypes := #[T, T] }) {v v' u : Value} {w' : World} (hs : a.eval s = v) (hx : a.eval x = u)
    (hrun : (Builtin.append_ #[T, T] o.type #[v, u]).run P w = .ok v' w') (h : K (a.put o.dst v') w') : o.wp P a w K Q := by
  unfold Oper.wp
  simp [execOp, ho, resolve, invoke, builtin, hs, hx, hrun, Result.andThen]
  exact h
theorem wpList_append_one {P : Program} {w : World} {ops : Array Oper} {rest : List Oper} {o : Oper} {a : Act} {Q : Exit → Act → World → Prop} (hgd : o.guard = none) (s x : Operand) (T : TypeId)
    (ho : o.op = .call { callee := .builtin .append, args := #[s, x], argTypes := #[T, T] })
    {C n size bytes : Nat} {e : TypeId} {z : Value} {v : Value} {xs news : List Value} (h1 : P.underlying T = some (.slice e)) (hinf : (P.info? e).map (fun i => (i.zero, i.size, i.bytes)) = some (some z, size, bytes)) (hzc : z.cells.size = size) (hsz : 0 < size)
    (h : w.ownsRow C e size v n xs) (hs : a.eval s = v) (ad : Addr) (hx : a.eval x = .slice (some ad) 1 1) (hnl : news.length = size)
    (hc : ∀ j u, news[j]? = some u → w.cell? (ad.add j) = some u) (hone : ∀ u ∈ news, u.oneCell' = true) (hn : n ≤ 100000) (hby : bytes ≤ 1000) (hC : C ≤ w.heap.size)
    (K : ∀ (v' : Value) (w' : World), w'.ownsRow C e size v' (n + 1) (xs ++ news) → w.grownBy w' v.ownBlock → (v'.ownBlock = v.ownBlock ∨ ∃ g, v'.ownBlock = some g ∧ w.heap.size ≤ g) → wpList P ops Q rest (a.put o.dst v') w') :
    wpList P ops Q (o :: rest) a w := by
  refine wpList_plain hgd fun K' hK' => ?_
  obtain ⟨v', w', hrun, r1, r2, r3⟩ := run_append_one (P := P) T o.type h1 hinf hzc hsz h ad hnl hc hone hn hby hC
  unfold Oper.wp
  simp [execOp, ho, resolve, invoke, builtin, hs, hx, hrun, Result.andThen]
  exact hK' _ _ (K _ _ r1 r2 r3)

/-! ### the map of numbers -/
/-- Block b is a map that holds the stations' numbers by their folded names. -/
def NumMap (w : World) (b : Nat) (S : List Sta) : Prop :=
  ∃ (n : Nat) (D : DataW Unit), w.ownsMap Try.prog 9 (plainElem Try.prog 3) b n D ∧ n ≤ S.length ∧
    ∀ k : ByteArray, k.size ≤ maxLen → has D (.string k.data.toList) = (keyOf S k).isSome ∧ D.atKey (.string k.data.toList) (.lit (.int .i64 0)) = .lit (.int .i64 ((keyOf S k).getD 0 : Nat))
theorem NumMap.lt {w : World} {b : Nat} {S : List Sta} (h : NumMap w b S) : b < w.heap.size := by obtain ⟨n, D, h1, _⟩ := h; exact h1.lt
theorem NumMap.keep {w w' : World} {b : Nat} {S : List Sta} (h : NumMap w b S) (hk : w'.heap[b]? = w.heap[b]?) : NumMap w' b S := by
  obtain ⟨n, D, ⟨es, clock, hb, r⟩, r2⟩ := h
  exact ⟨n, D, ⟨es, clock, hk.trans hb, r⟩, r2⟩
theorem NumMap.type {w : World} {b : Nat} {S : List Sta} (h : NumMap w b S) : ∃ es clock, w.heap[b]? = some (.map es clock) := by
  obtain ⟨n, D, ⟨es, clock, hb, r⟩, r2⟩ := h
  exact ⟨es, clock, hb⟩
theorem NumMap.made (w : World) : NumMap (w.alloc (.map #[] 0)) w.heap.size [] :=
  ⟨0, .map [], World.ownsMap_made w _ _ _, Nat.le_refl _, fun k _ => ⟨rfl, rfl⟩⟩
theorem NumMap.look {w : World} {b : Nat} {S : List Sta} (h : NumMap w b S) (k : ByteArray) (hk : k.size ≤ maxLen) :
    (Instr.lookup 55 (.map (some b)) (.string k) true).run Try.prog w = .ok (.tuple #[.int .i64 ((keyOf S k).getD 0 : Nat), .bool (keyOf S k).isSome]) w := by
  obtain ⟨n, D, h1, _, h2⟩ := h
  obtain ⟨e1, e2⟩ := h2 k hk
  have hkey := WideMaps.keyOf_string_mk (P := Try.prog) Try.underlying9 hk
  obtain ⟨v, ps, hrun, hv⟩ := h1.look_ok (t := 55) (e := 3) (string_keyed Try.underlying9) Try.underlying55 (z := .int .i64 0) (by rfl) (plainElem_int Try.underlying3 (by decide)) hkey
  obtain ⟨c, rfl, hc, hwc⟩ := plainElem_int_inv Try.underlying3 hv
  rw [e2] at hc
  simp only [Prod.mk.injEq, DataW.lit.injEq, Lit.int.injEq, true_and] at hc
  rw [hrun, e1, ← hc.1]
theorem NumMap.store {w : World} {b : Nat} {S : List Sta} (h : NumMap w b S) (s : Sta) (hk : (fS s.nm).size ≤ maxLen) (hn : keyOf S (fS s.nm) = none) (hl : S.length ≤ 1000) :
    ∃ w', (Instr.mapUpdate 55 (.map (some b)) (.string (fS s.nm)) (.int .i64 (S.length : Nat))).run Try.prog w = .ok () w' ∧ NumMap w' b (S ++ [s]) ∧ w.grownBy w' (some b) := by
  obtain ⟨n, D, h1, hn1, h2⟩ := h
  have K := string_keyed Try.underlying9
  have hkey := WideMaps.keyOf_string_mk (P := Try.prog) Try.underlying9 hk
  obtain ⟨w', hrun, h3, h4⟩ := h1.update (t := 55) (e := 3) K Try.underlying55 (by unfold maxLen; omega) hkey (plainElem_int Try.underlying3 (a := (S.length : Nat)) (by simp [Lit.wf, IntKind.min, IntKind.max, IntKind.signed, IntKind.bits]; omega))
  refine ⟨w', hrun, ⟨n + 1, _, h3, by simp; omega, fun k hk' => ?_⟩, h4⟩
  rw [key_snoc]
  by_cases e : fS s.nm = k
  · subst e
    rw [hn, if_pos rfl]
    exact ⟨has_put_same h1.isMap (K.key hkey) _, atKey_put_same h1.isMap (K.key hkey) _ _⟩
  · have hne : (Lit.string k.data.toList) ≠ .string (fS s.nm).data.toList := by
      intro e2
      apply e
      have e3 : k.data.toList = (fS s.nm).data.toList := by injection e2
      have e4 : k.data = (fS s.nm).data := Array.toList_inj.1 e3
      cases k; cases hx : fS s.nm; rw [hx] at e4; simp at e4; rw [e4]
    rw [has_put_other hne, atKey_put_other hne, if_neg e, Option.or_none]
    exact h2 k hk'
end Go.Proofs.Ytgojbomdkdlclaa

