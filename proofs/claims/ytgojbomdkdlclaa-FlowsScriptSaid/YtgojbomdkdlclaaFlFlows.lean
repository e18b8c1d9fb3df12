/-
  Layer 10: contract of the program's Flows.
-/
import Derived.Test.YtgojbomdkdlclaaFlProg2
namespace Go.Proofs.Ytgojbomdkdlclaa
open Go.ChangeShapes Go.WideShapes Go.ChangeAt Go.RowKit
set_option linter.unusedVariables false

/-- A list of flows in a row of the call's own. -/
def GotF (L : List Flo) (w : World) (e : Ending) (w' : World) : Prop :=
  ∃ A c, e = .returned (.slice A L.length c) ∧ w'.ownsRow w.heap.size 72 7 (.slice A L.length c) L.length (srs csF L) ∧ Below w.heap.size w w'
theorem below_grew {B : Nat} {a w w' : World} {row : Option Nat} (h : Below B a w) (hB : B ≤ a.heap.size) (hg : w.grownBy w' row) (hr : ∀ k, row = some k → B ≤ k) : Below B a w' :=
  h.trans ⟨hg.os, hg.tape, hg.output, hg.size, fun k hk => hg.block k (by have := h.size; omega) (fun e => by have := hr k e.symm; omega)⟩
theorem flw_all {F : List Flo} {G : List Bool} (h : F.length = G.length) : flwL (F.take F.length) (G.take F.length) = flwL F G := by
  rw [List.take_length, List.take_of_length_le (by omega)]
set_option maxRecDepth 100000 in
set_option maxHeartbeats 2000000 in
theorem flows_any {C H : Nat} {S : Nat → Prop} {t : Tb} {w : World} (h : PO C H S t w) :
    Calls Try.prog 19 #[.pointer (some ⟨H, 0, none⟩)] w (GotF (flwL t.F t.G) w) := by
  have HH := Lib.hid (fun w' (hb : Below w.heap.size w w') f => hasFlow_any (h.below hb) f)
  obtain ⟨h0, ⟨vS, vF, mb, h1, _⟩, _⟩ := h
  obtain ⟨c0, c1, c2, c3, c4, _⟩ := h1.cells
  have hf := h0.few
  have HC := Lib.hid (fun k (hk : k < t.F.length) => h1.flow h0 hk)
  have HT := Lib.hid (fun k (hk : k < t.F.length) => flw_take hk h0.len)
  have HN := Lib.hid (fun k (hk : k < t.F.length) => thr_nat (G := t.G) h0.len hk)
  have HL := Lib.hid (fun k => flw_len (t.F.take k) (t.G.take k))
  have HE := Lib.hid (flw_all h0.len)
  obtain ⟨A, c, rfl⟩ := ow_shape h1.rowF
  clear h1 c0 c1 c2 c4
  go_enter Try.func19, Try.ntmps19
  go_wp2
  go_loopw [3, 11] (fun s3 s11 wr => ∃ (k : Nat) (A' : Option Addr) (n c' : Nat), k ≤ t.F.length ∧ s11 = .int .i64 k ∧ s3 = .slice A' n c' ∧ Hid (n = (flwL (t.F.take k) (t.G.take k)).length) ∧ Hid (wr.ownsRow w.heap.size 72 7 (.slice A' n c') n (srs csF (flwL (t.F.take k) (t.G.take k)))) ∧ Hid (Below w.heap.size w wr)) (fun s3 s11 _ => t.F.length - (intOf s11).toNat)
  case atStart => exact ⟨0, none, 0, 0, Nat.zero_le _, rfl, rfl, Lib.hid (by simp [flwL]), Lib.hid (by simpa [flwL, srs] using World.ownsRow_nil w w.heap.size 72 7), Lib.hid (Below.refl _ _)⟩
  case round =>
    obtain ⟨k, A', n, c', hk, rfl, rfl, hn, HR, HW⟩ := hrel
    by_cases hlt : k < t.F.length
    · obtain ⟨g, c'', hv, hg1, hg2, hc, _⟩ := HC.out k hlt
      obtain ⟨rfl, rfl⟩ : A = some ⟨g, 0, none⟩ ∧ c = c'' := by simpa using hv
      have hcc : ∀ j, j < 7 → wr.cell? ⟨g, k * 7 + j, none⟩ = _ := fun j hj => (HW.out.cell (p := ⟨g, k * 7 + j, none⟩) hg2).trans (hc j hj)
      have ht := HT.out k hlt
      have hnn := HN.out k hlt
      have hll := HL.out k
      rw [List.length_take, ← hn.out] at hll
      clear hc hv
      have hws := HW.out.size
      cases hgk : t.G[k]'(by have := h0.len; omega)
      · rw [hgk] at hcc ht hnn
        replace hcc : ∀ j, j < 7 → wr.cell? ⟨g, k * 7 + j, none⟩ = (csF t.F[k])[j]? := hcc
        simp only [Bool.false_eq_true, if_false] at ht
        obtain ⟨q, hq⟩ : ∃ q, t.F[k] = q := ⟨_, rfl⟩
        rw [hq] at hcc ht
        obtain ⟨q0, q1, q2, q3, q4, q5, q6⟩ := q
        have e0 : wr.cell? ⟨g, k * 7, none⟩ = some (.int .i64 q0) := hcc 0 (by omega)
        have e1 : wr.cell? ⟨g, k * 7 + 1, none⟩ = some (.int .i64 q1) := hcc 1 (by omega)
        have e2 : wr.cell? ⟨g, k * 7 + 2, none⟩ = some (.int .i64 q2) := hcc 2 (by omega)
        have e3 : wr.cell? ⟨g, k * 7 + 3, none⟩ = some (.int .i64 q3) := hcc 3 (by omega)
        have e4 : wr.cell? ⟨g, k * 7 + 4, none⟩ = some (.int .i64 q4) := hcc 4 (by omega)
        have e5 : wr.cell? ⟨g, k * 7 + 5, none⟩ = some (.int .i64 q5) := hcc 5 (by omega)
        have e6 : wr.cell? ⟨g, k * 7 + 6, none⟩ = some (.int .i64 q6) := hcc 6 (by omega)
        have HW2 := Lib.hid (HW.out.alloc hws (.cells #[.int .i64 q0, .int .i64 q1, .int .i64 q2, .int .i64 q3, .int .i64 q4, .int .i64 q5, .int .i64 q6] 72))
        have HX := Lib.hid (HH.out _ HW2.out k)
        rw [hnn] at HX
        have HR2 := Lib.hid ((HR.out.alloc (.cells #[.int .i64 q0, .int .i64 q1, .int .i64 q2, .int .i64 q3, .int .i64 q4, .int .i64 q5, .int .i64 q6] 72)).alloc (.cells #[.int .i64 q0, .int .i64 q1, .int .i64 q2, .int .i64 q3, .int .i64 q4, .int .i64 q5, .int .i64 q6] 72))
        have hcl := newCells (wr.alloc (.cells #[.int .i64 q0, .int .i64 q1, .int .i64 q2, .int .i64 q3, .int .i64 q4, .int .i64 q5, .int .i64 q6] 72)) (csF ⟨q0, q1, q2, q3, q4, q5, q6⟩) 72
        rw [show (wr.alloc (.cells #[.int .i64 q0, .int .i64 q1, .int .i64 q2, .int .i64 q3, .int .i64 q4, .int .i64 q5, .int .i64 q6] 72)).heap.size = wr.heap.size + 1 by simp] at hcl
        have HCL := Lib.hid hcl
        have HT2 := Lib.hid ht
        clear hcc HC hq HR ht hnn hgk hcl
        go_wp2_with fail
        (with_reducible refine HX.out.mono ?_); rintro e w' ⟨rfl, rfl⟩
        go_wp2_with (at_builtin; go_loud (refine wpList_append_one rfl (.tmp 19) (.tmp 21) 44 rfl Try.underlying44 info_flo rfl (by decide) HR2.out rfl ⟨wr.heap.size + 1, 0, none⟩ rfl (csF_len ⟨q0, q1, q2, q3, q4, q5, q6⟩) HCL.out (csF_one _) (by omega) (by decide) (by simp; omega) ?_); intro v2 w2 he2 hg2 hb2; obtain ⟨A2, c2, rfl⟩ := ow_shape he2; have HE2 := Lib.hid he2; have HG2 := Lib.hid hg2; have HB2 := Lib.hid hb2; clear he2 hg2 hb2)
        rw [← srs_snoc, ← HT2.out] at HE2
        have HW3 := Lib.hid (below_grew (HW2.out.alloc (by simp; omega) (.cells #[.int .i64 q0, .int .i64 q1, .int .i64 q2, .int .i64 q3, .int .i64 q4, .int .i64 q5, .int .i64 q6] 72)) (Nat.le_refl _) HG2.out (fun k e => (World.ownsRow.lt HR2.out k e).1))
        have hn2 : Hid (n + 1 = (flwL (t.F.take (k + 1)) (t.G.take (k + 1))).length) := Lib.hid (by rw [HT2.out, List.length_append, ← hn.out]; rfl)
        go_roundw
        case rel => exact ⟨k + 1, A2, n + 1, c2, by omega, by go_num, rfl, hn2, HE2, HW3⟩
        case measure => simp [intOf]; omega
      · rw [hgk] at hcc ht hnn
        replace hcc : ∀ j, j < 7 → wr.cell? ⟨g, k * 7 + j, none⟩ = (csF flo0)[j]? := hcc
        simp only [if_true, List.append_nil] at ht
        have e0 : wr.cell? ⟨g, k * 7, none⟩ = some (.int .i64 0) := hcc 0 (by omega)
        have e1 : wr.cell? ⟨g, k * 7 + 1, none⟩ = some (.int .i64 0) := hcc 1 (by omega)
        have e2 : wr.cell? ⟨g, k * 7 + 2, none⟩ = some (.int .i64 0) := hcc 2 (by omega)
        have e3 : wr.cell? ⟨g, k * 7 + 3, none⟩ = some (.int .i64 0) := hcc 3 (by omega)
        have e4 : wr.cell? ⟨g, k * 7 + 4, none⟩ = some (.int .i64 0) := hcc 4 (by omega)
        have e5 : wr.cell? ⟨g, k * 7 + 5, none⟩ = some (.int .i64 0) := hcc 5 (by omega)
        have e6 : wr.cell? ⟨g, k * 7 + 6, none⟩ = some (.int .i64 0) := hcc 6 (by omega)
        have HW2 := Lib.hid (HW.out.alloc hws (.cells #[.int .i64 0, .int .i64 0, .int .i64 0, .int .i64 0, .int .i64 0, .int .i64 0, .int .i64 0] 72))
        have HX := Lib.hid (HH.out _ HW2.out k)
        rw [hnn] at HX
        have HR2 := Lib.hid (HR.out.alloc (.cells #[.int .i64 0, .int .i64 0, .int .i64 0, .int .i64 0, .int .i64 0, .int .i64 0, .int .i64 0] 72))
        rw [← ht] at HR2
        have hn2 : Hid (n = (flwL (t.F.take (k + 1)) (t.G.take (k + 1))).length) := Lib.hid (by rw [ht]; exact hn.out)
        clear hcc HC HR ht hnn hgk
        go_wp2_with fail
        (with_reducible refine HX.out.mono ?_); rintro e w' ⟨rfl, rfl⟩
        go_wp2
        go_roundw
        case rel => exact ⟨k + 1, A', n, c', by omega, by go_num, rfl, hn2, HR2, HW2⟩
        case measure => simp [intOf]; omega
    · obtain rfl : k = t.F.length := by omega
      have hn' := hn.out
      rw [HE.out] at hn' HR
      subst hn'
      clear hn
      go_wp2
      go_ret
      exact ⟨_, _, rfl, HR.out, HW.out⟩
end Go.Proofs.Ytgojbomdkdlclaa

