/-
  Layer 10: contracts of the program's Remove, SetWeight, SetCaps, SetBounds.
-/
import Derived.Test.YtgojbomdkdlclaaFlProg
namespace Go.Proofs.Ytgojbomdkdlclaa
open Go.ChangeShapes Go.WideShapes Go.ChangeAt Go.RowKit
set_option linter.unusedVariables false

/-- A flow that is there: its row and its cells in memory. -/
theorem PW.there {w : World} {C H mb : Nat} {t : Tb} {vS vF : Value} (h : PW w C H mb t vS vF) (h0 : TbOk t) {k : Nat} (hk : k < t.F.length) (hg : ∃ h : k < t.G.length, t.G[k] = false) :
    ∃ g c, vF = .slice (some ⟨g, 0, none⟩) t.F.length c ∧ C ≤ g ∧ g < w.heap.size ∧
      w.cell? ⟨g, k * 7, none⟩ = some (.int .i64 t.F[k].i) ∧ w.cell? ⟨g, k * 7 + 1, none⟩ = some (.int .i64 t.F[k].s) ∧ w.cell? ⟨g, k * 7 + 2, none⟩ = some (.int .i64 t.F[k].w) ∧ w.cell? ⟨g, k * 7 + 3, none⟩ = some (.int .i64 t.F[k].p) ∧
      w.cell? ⟨g, k * 7 + 4, none⟩ = some (.int .i64 t.F[k].b) ∧ w.cell? ⟨g, k * 7 + 5, none⟩ = some (.int .i64 t.F[k].lg) ∧ w.cell? ⟨g, k * 7 + 6, none⟩ = some (.int .i64 t.F[k].ld) ∧ ∀ o, w.frozen? ⟨g, o, none⟩ = false := by
  obtain ⟨g, c, e, h1, h2, h3, h4⟩ := h.flow h0 hk
  obtain ⟨hg1, hg2⟩ := hg
  have e2 : goneF t.F[k] t.G[k] = t.F[k] := by rw [hg2]; rfl
  rw [e2] at h3
  exact ⟨g, c, e, h1, h2, h3 0 (by omega), h3 1 (by omega), h3 2 (by omega), h3 3 (by omega), h3 4 (by omega), h3 5 (by omega), h3 6 (by omega), h4⟩
theorem pfl_there {t : Tb} (h0 : TbOk t) {k : Nat} (hk : k < t.F.length) (hg : ∃ h : k < t.G.length, t.G[k] = false) : (pfl t.F t.G)[k]'(by rw [pfl_len h0.len]; exact hk) = t.F[k] := by
  obtain ⟨hg1, hg2⟩ := hg
  rw [pfl_at h0.len hk, hg2]; rfl
/-- A chain of writes into one flow: the table whose flow k is f. -/
def Tb.withF (t : Tb) (k : Nat) (f : Flo) : Tb := { t with F := t.F.set k f }
theorem withF_again (t : Tb) (k : Nat) (f f' : Flo) : (t.withF k f).withF k f' = t.withF k f' := by unfold Tb.withF; simp
/-- One cell of a flow that is there is written. -/
theorem PW.put {w : World} {C H mb g c j k : Nat} {t : Tb} {vS : Value} {u : Value} {f : Flo} (h : PW w C H mb t vS (.slice (some ⟨g, 0, none⟩) t.F.length c)) (hl : t.F.length = t.G.length) (hk : k < t.F.length) (hg : ∃ h : k < t.G.length, t.G[k] = false) (hj : j < 7)
    (e : csF f = (csF t.F[k]).set j u) : PW (w.setCell ⟨g, k * 7 + j, none⟩ u) C H mb (t.withF k f) vS (.slice (some ⟨g, 0, none⟩) t.F.length c) ∧ Chg (pfoot H mb vS (.slice (some ⟨g, 0, none⟩) t.F.length c)) w (w.setCell ⟨g, k * 7 + j, none⟩ u) := by
  obtain ⟨hg1, hg2⟩ := hg
  have hkp : k < (pfl t.F t.G).length := by rw [pfl_len hl]; exact hk
  have hr := row_cell (a := f) csF_len h.rowF hkp u hj (by rw [pfl_at hl hk, hg2]; exact e)
  rw [← pfl_set hl hk hg2] at hr
  exact h.setF (t' := t.withF k f) rfl (by show World.ownsRow _ _ _ _ _ (t.F.set k f).length _; rw [List.length_set]; exact hr) rfl rfl rfl
theorem rm_6 {t : Tb} {f : Int} (h : thrB t.F t.G f = false) : rmE t f = 6 ∧ rmT t f = t := by
  have e : rmE t f = 6 := by unfold rmE; rw [if_pos h]
  exact ⟨e, by unfold rmT; rw [if_neg (by rw [e]; decide)]⟩
theorem rm_0 {t : Tb} {k : Nat} (h : thrB t.F t.G k = true) : rmE t k = 0 ∧ rmT t k = { t with G := t.G.set k true } := by
  have e : rmE t k = 0 := by unfold rmE; rw [if_neg (by rw [h]; decide)]
  exact ⟨e, by unfold rmT; rw [if_pos e]; rfl⟩
theorem sw_6 {t : Tb} {f w : Int} (h : thrB t.F t.G f = false) : swE t f w = 6 ∧ swT t f w = t := by
  have e : swE t f w = 6 := by unfold swE; rw [if_pos h]
  exact ⟨e, by unfold swT; rw [if_neg (by rw [e]; decide)]⟩
theorem sw_1 {t : Tb} {f w : Int} (h : thrB t.F t.G f = true) (h1 : gwB w = false) : swE t f w = 1 ∧ swT t f w = t := by
  have e : swE t f w = 1 := by unfold swE; rw [if_neg (by rw [h]; decide), if_pos h1]
  exact ⟨e, by unfold swT; rw [if_neg (by rw [e]; decide)]⟩
theorem sw_12 {t : Tb} {k : Nat} {w : Int} (hk : k < t.F.length) (h : thrB t.F t.G k = true) (h1 : gwB w = true) (h2 : t.cap < t.tot - t.F[k].w + w) : swE t k w = 12 ∧ swT t k w = t := by
  have e : swE t k w = 12 := by unfold swE; rw [if_neg (by rw [h]; decide), if_neg (by rw [h1]; decide), Tb.at_nat hk, if_pos h2]
  exact ⟨e, by unfold swT; rw [if_neg (by rw [e]; decide)]⟩
theorem sw_0 {t : Tb} {k : Nat} {w : Int} (hk : k < t.F.length) (h : thrB t.F t.G k = true) (h1 : gwB w = true) (h2 : ¬ t.cap < t.tot - t.F[k].w + w) : swE t k w = 0 ∧ swT t k w = t.withF k { t.F[k] with w := w } := by
  have e : swE t k w = 0 := by unfold swE; rw [if_neg (by rw [h]; decide), if_neg (by rw [h1]; decide), Tb.at_nat hk, if_neg h2]
  exact ⟨e, by unfold swT; rw [if_pos e, Tb.at_nat hk]; rfl⟩
def gcB (p b : Int) : Bool := decide (1 ≤ p) && decide (p ≤ 64) && decide (1 ≤ b) && decide (b ≤ 262144)
theorem sc_6 {t : Tb} {f p b : Int} (h : thrB t.F t.G f = false) : scE t f p b = 6 ∧ scT t f p b = t := by
  have e : scE t f p b = 6 := by unfold scE; rw [if_pos h]
  exact ⟨e, by unfold scT; rw [if_neg (by rw [e]; decide)]⟩
theorem sc_1 {t : Tb} {f p b : Int} (h : thrB t.F t.G f = true) (h1 : gcB p b = false) : scE t f p b = 1 ∧ scT t f p b = t := by
  have e : scE t f p b = 1 := by unfold scE; rw [if_neg (by rw [h]; decide), if_pos (by unfold gcB at h1; exact h1)]
  exact ⟨e, by unfold scT; rw [if_neg (by rw [e]; decide)]⟩
theorem sc_0 {t : Tb} {k : Nat} {p b : Int} (hk : k < t.F.length) (h : thrB t.F t.G k = true) (h1 : gcB p b = true) : scE t k p b = 0 ∧ scT t k p b = t.withF k { t.F[k] with p := p, b := b } := by
  have e : scE t k p b = 0 := by unfold scE; rw [if_neg (by rw [h]; decide), if_neg (by unfold gcB at h1; rw [h1]; decide)]
  exact ⟨e, by unfold scT; rw [if_pos e, Tb.at_nat hk]; rfl⟩
theorem sb_6 {t : Tb} {f p b : Int} (h : thrB t.F t.G f = false) : sbE t f p b = 6 ∧ sbT t f p b = t := by
  have e : sbE t f p b = 6 := by unfold sbE; rw [if_pos h]
  exact ⟨e, by unfold sbT; rw [if_neg (by rw [e]; decide)]⟩
theorem sb_1 {t : Tb} {f p b : Int} (h : thrB t.F t.G f = true) (h1 : (bdB p && bdB b) = false) : sbE t f p b = 1 ∧ sbT t f p b = t := by
  have e : sbE t f p b = 1 := by unfold sbE; rw [if_neg (by rw [h]; decide), if_pos (by unfold bdB at h1; rw [← Bool.and_assoc] at h1; exact h1)]
  exact ⟨e, by unfold sbT; rw [if_neg (by rw [e]; decide)]⟩
theorem sb_0 {t : Tb} {k : Nat} {p b : Int} (hk : k < t.F.length) (h : thrB t.F t.G k = true) (h1 : (bdB p && bdB b) = true) : sbE t k p b = 0 ∧ sbT t k p b = t.withF k { t.F[k] with lg := p, ld := b } := by
  have e : sbE t k p b = 0 := by unfold sbE; rw [if_neg (by rw [h]; decide), if_neg (by unfold bdB at h1; rw [← Bool.and_assoc] at h1; rw [h1]; decide)]
  exact ⟨e, by unfold sbT; rw [if_pos e, Tb.at_nat hk]; rfl⟩
/-- Seven writes. -/
theorem PW.wipe {w : World} {C H mb g c k : Nat} {t : Tb} {vS : Value} (h : PW w C H mb t vS (.slice (some ⟨g, 0, none⟩) t.F.length c)) (hl : t.F.length = t.G.length) (hk : k < t.F.length) (hg : ∃ h : k < t.G.length, t.G[k] = false) {w' : World}
    (e : w' = ((((((w.setCell ⟨g, k * 7, none⟩ (.int .i64 0)).setCell ⟨g, k * 7 + 1, none⟩ (.int .i64 0)).setCell ⟨g, k * 7 + 2, none⟩ (.int .i64 0)).setCell ⟨g, k * 7 + 3, none⟩ (.int .i64 0)).setCell ⟨g, k * 7 + 4, none⟩ (.int .i64 0)).setCell ⟨g, k * 7 + 5, none⟩ (.int .i64 0)).setCell ⟨g, k * 7 + 6, none⟩ (.int .i64 0)) :
    PW w' C H mb { t with G := t.G.set k true } vS (.slice (some ⟨g, 0, none⟩) t.F.length c) ∧ Chg (pfoot H mb vS (.slice (some ⟨g, 0, none⟩) t.F.length c)) w w' := by
  subst e
  have hc : Chg (pfoot H mb vS (.slice (some ⟨g, 0, none⟩) t.F.length c)) w (((((((w.setCell ⟨g, k * 7, none⟩ (.int .i64 0)).setCell ⟨g, k * 7 + 1, none⟩ (.int .i64 0)).setCell ⟨g, k * 7 + 2, none⟩ (.int .i64 0)).setCell ⟨g, k * 7 + 3, none⟩ (.int .i64 0)).setCell ⟨g, k * 7 + 4, none⟩ (.int .i64 0)).setCell ⟨g, k * 7 + 5, none⟩ (.int .i64 0)).setCell ⟨g, k * 7 + 6, none⟩ (.int .i64 0)) := by
    have hf : pfoot H mb vS (.slice (some ⟨g, 0, none⟩) t.F.length c) g := .inr (.inr (.inr rfl))
    exact (((((((Chg.refl _ _).setCell hf _ _).setCell hf _ _).setCell hf _ _).setCell hf _ _).setCell hf _ _).setCell hf _ _).setCell hf _ _
  refine ⟨?_, hc⟩
  have hkp : k < (pfl t.F t.G).length := by rw [pfl_len hl]; exact hk
  have hr := h.rowF
  obtain ⟨f, hf⟩ : ∃ f, (pfl t.F t.G)[k] = f := ⟨_, rfl⟩
  have r1 := row_cell (a := { f with i := 0 }) csF_len hr hkp (.int .i64 0) (k := 0) (by omega) (by rw [hf]; rfl)
  have r2 := row_cell (a := { f with i := 0, s := 0 }) csF_len r1 (by simpa using hkp) (.int .i64 0) (k := 1) (by omega) (by rw [List.getElem_set_self]; rfl)
  rw [List.set_set] at r2
  have r3 := row_cell (a := { f with i := 0, s := 0, w := 0 }) csF_len r2 (by simpa using hkp) (.int .i64 0) (k := 2) (by omega) (by rw [List.getElem_set_self]; rfl)
  rw [List.set_set] at r3
  have r4 := row_cell (a := { f with i := 0, s := 0, w := 0, p := 0 }) csF_len r3 (by simpa using hkp) (.int .i64 0) (k := 3) (by omega) (by rw [List.getElem_set_self]; rfl)
  rw [List.set_set] at r4
  have r5 := row_cell (a := { f with i := 0, s := 0, w := 0, p := 0, b := 0 }) csF_len r4 (by simpa using hkp) (.int .i64 0) (k := 4) (by omega) (by rw [List.getElem_set_self]; rfl)
  rw [List.set_set] at r5
  have r6 := row_cell (a := { f with i := 0, s := 0, w := 0, p := 0, b := 0, lg := 0 }) csF_len r5 (by simpa using hkp) (.int .i64 0) (k := 5) (by omega) (by rw [List.getElem_set_self]; rfl)
  rw [List.set_set] at r6
  have r7 := row_cell (a := flo0) csF_len r6 (by simpa using hkp) (.int .i64 0) (k := 6) (by omega) (by rw [List.getElem_set_self]; rfl)
  rw [List.set_set, ← pfl_gone hl hk] at r7
  obtain ⟨a1, a2, a3, a4, a5, a6⟩ := h.apart
  have far : ∀ b, (Value.slice (some ⟨g, 0, none⟩) t.F.length c).ownBlock ≠ some b → (((((((w.setCell ⟨g, k * 7, none⟩ (.int .i64 0)).setCell ⟨g, k * 7 + 1, none⟩ (.int .i64 0)).setCell ⟨g, k * 7 + 2, none⟩ (.int .i64 0)).setCell ⟨g, k * 7 + 3, none⟩ (.int .i64 0)).setCell ⟨g, k * 7 + 4, none⟩ (.int .i64 0)).setCell ⟨g, k * 7 + 5, none⟩ (.int .i64 0)).setCell ⟨g, k * 7 + 6, none⟩ (.int .i64 0)).heap[b]? = w.heap[b]? := fun b hb => by
    have hb' : b ≠ g := fun e => hb (by rw [e]; rfl)
    rw [Below.heap_setCell _ _ _ _ hb', Below.heap_setCell _ _ _ _ hb', Below.heap_setCell _ _ _ _ hb', Below.heap_setCell _ _ _ _ hb', Below.heap_setCell _ _ _ _ hb', Below.heap_setCell _ _ _ _ hb', Below.heap_setCell _ _ _ _ hb']
  exact ⟨(far H a3).trans h.blk, owk h.rowS fun k e => far k (a6 k e), r7, h.map.keep (far mb a5), h.lo⟩
set_option maxHeartbeats 1000000 in
theorem remove_any {C H : Nat} {S : Nat → Prop} {t : Tb} {w : World} (h : PO C H S t w) (f : Int) :
    Calls Try.prog 18 #[.pointer (some ⟨H, 0, none⟩), .int .i64 f] w (PAns C H S (rmT t f) (.int .i64 (rmE t f)) w) := by
  have HS := hasFlow_any h f
  have HST := Lib.hid (fun x w' (hb : Below w.heap.size w w') => PAns.stay (x := x) h hb)
  have HT := Lib.hid (TbOk.rem h.1 f)
  obtain ⟨h0, ⟨vS, vF, mb, h1, hS⟩, hO⟩ := h
  cases k1 : thrB t.F t.G f
  · obtain ⟨e1, e2⟩ := rm_6 k1
    rw [e1, e2]
    rw [k1] at HS
    have HS := Lib.hid HS
    clear e1 e2 k1 h1 h0
    go_enter Try.func18, Try.ntmps18
    go_wp2_with fail
    (with_reducible refine HS.out.mono ?_); rintro e w' ⟨rfl, rfl⟩
    have HF := Lib.hid (fun x => HST.out x w (Below.refl _ _))
    go_wp2
    go_ret
    exact HF.out _
  · obtain ⟨k, rfl, hk, hg⟩ := thr_yes h0.len k1
    obtain ⟨e1, e2⟩ := rm_0 k1
    rw [e1]
    rw [e2] at HT ⊢
    rw [k1] at HS
    have HS := Lib.hid HS
    obtain ⟨g, c, rfl, hC, hlt, d0, d1, d2, d3, d4, d5, d6, hfr⟩ := h1.there h0 hk hg
    have g0 := hfr (k * 7)
    have g1 := hfr (k * 7 + 1)
    have g2 := hfr (k * 7 + 2)
    have g3 := hfr (k * 7 + 3)
    have g4 := hfr (k * 7 + 4)
    have g5 := hfr (k * 7 + 5)
    have g6 := hfr (k * 7 + 6)
    obtain ⟨c0, c1, c2, c3, c4, f2, f3⟩ := h1.cells
    have HP := Lib.hid (h1.wipe h0.len hk hg rfl)
    have HF := Lib.hid (PAns.done (x := .int .i64 0) hO hS HT.out HP.out.1 HP.out.2 (fun k hk => .inl hk))
    clear e1 e2 k1 h1 c0 c1 c2 c4 hfr HP hS hO HT
    go_enter Try.func18, Try.ntmps18
    go_wp2_with fail
    (with_reducible refine HS.out.mono ?_); rintro e w' ⟨rfl, rfl⟩
    go_wp2
    go_ret
    exact HF.out
end Go.Proofs.Ytgojbomdkdlclaa

