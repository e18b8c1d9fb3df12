/-
  Layer 18: the program's State, Reason, Count, Order, Stats. Written by gen_lfprog.py.
-/
import Derived.Test.YtkhngfadhfomoaaLfP6
import Derived.Test.YtkhngfadhfomoaaLfRef2
import Derived.Deep.LoopGhost
import Derived.LoopTactic
import Derived.Lib.SliceRun
namespace Go.Proofs.Ytkhngfadhfomoaa
open Go.ChangeShapes Go.WideShapes Go.ChangeAt Go.RowKit
set_option linter.unusedVariables false

theorem pfst_any {R : Nat} {s : LfS} {T : Nat → Prop} {w : World} (hb9 : LfB s 9999) (h : LfW R s T w) (id : Int) : Calls Try.prog 10 #[.pointer (some ⟨R, 0, none⟩), .int .i64 id] w (Calm (.int .i64 (lfSt s id)) w) := by
  have := hb9.l
  rw [lpG_st]
  exact pfstate_any (show s.l.length ≤ 99999 by omega) h.2 id
theorem pfwy_any {R : Nat} {s : LfS} {T : Nat → Prop} {w : World} (hb9 : LfB s 9999) (h : LfW R s T w) (id : Int) : Calls Try.prog 12 #[.pointer (some ⟨R, 0, none⟩), .int .i64 id] w (Calm (.int .i64 (lfWy s id)) w) := by
  have := hb9.l
  rw [lpG_wy]
  exact pfreas_any (show s.l.length ≤ 99999 by omega) h.2 id
theorem cn_zero {s : LfS} (h : LfOk s) {f x : Int} (hn : ¬ (0 ≤ f ∧ f < 32 ∧ 0 ≤ x ∧ x < 5)) : lfCn s f x = 0 := by
  unfold lfCn
  have : (s.l.filter fun e => e.f == f && e.s == x) = [] := by
    rw [List.filter_eq_nil_iff]
    intro e he h9
    have := h.e e he
    simp at h9
    omega
  rw [this]; rfl
theorem cn_none {s : LfS} (h : LfOk s) (f : Int) : lfCn s f 0 = 0 := by
  unfold lfCn
  have : (s.l.filter fun e => e.f == f && e.s == 0) = [] := by
    rw [List.filter_eq_nil_iff]
    intro e he h9
    have := h.e e he
    simp at h9
    omega
  rw [this]; rfl
theorem pfcn_any {R : Nat} {s : LfS} {T : Nat → Prop} {w : World} (hb9 : LfB s 9999) (h : LfW R s T w) (f x : Int) : Calls Try.prog 18 #[.pointer (some ⟨R, 0, none⟩), .int .i64 f, .int .i64 x] w (Calm (.int .i64 (lfCn s f x)) w) := by
  refine (pfcount_any h.2 f x).mono fun e w' h9 => Calm.same ?_
  refine ⟨h9.1.trans ?_, h9.2⟩
  by_cases hin : 0 ≤ f ∧ f < 32 ∧ 0 ≤ x ∧ x < 5
  · rw [if_pos hin]
    have e1 : ((f.toNat : Nat) : Int) = f := by omega
    have e2 : ((x.toNat : Nat) : Int) = x := by omega
    show Ending.returned (.int .i64 (lfCn s (f.toNat : Nat) (x.toNat : Nat))) = _
    rw [e1, e2]
  · rw [if_neg hin, cn_zero h.1.ok hin]
/-! ### Order -/
set_option maxHeartbeats 4000000 in
theorem lfclone_any {v : Value} {l : List Int} {T : Nat → Prop} {w : World} (hn : l.length ≤ 100000) (hT : ∀ k, T k → k < w.heap.size) (h : LsG csI 1 3 w T v l) : Calls Try.prog 37 #[v] w (GotLs csI 1 3 l w) := by
  have q1 : ∀ (w : World) (a : Option Addr) (n c n' c' : Nat), (binOp .eql 22 (.slice a n c) (.slice none n' c')).run Try.prog w = .ok (.bool a.isNone) w := fun w a n c n' c' => Lib.run_eql_slice_nil w _ _ a n c n' c' Try.underlying22
  have h' := h
  obtain ⟨A, c, rfl, hlc, hcm, h4⟩ := h
  rcases h4 with ⟨rfl, rfl⟩ | ⟨b, off, cur, rfl, _⟩
  · obtain rfl : l = [] := List.eq_nil_of_length_eq_zero (by omega)
    have HF := Lib.hid (show GotLs csI 1 3 ([] : List Int) w (.returned (.slice none 0 0)) w from ⟨_, rfl, LsG.nil _ _, Below.refl _ _⟩)
    clear h' hn hT hlc hcm
    rw [List.length_nil]
    go_enter Try.func37, Try.ntmps37
    go_wp2
    go_ret
    exact HF.out
  · obtain ⟨A, c2, w2, hrun, hv2, hb2⟩ := intElt.copy h' hT hn
    have HF := Lib.hid (show GotLs csI 1 3 l w (.returned (.slice A l.length c2)) w2 from ⟨_, rfl, intElt.row_ls hv2 rfl, hb2⟩)
    clear h' hn hT hlc hcm hv2 hb2
    go_enter Try.func37, Try.ntmps37
    go_wp2_with (at_builtin; refine wpList_append_run rfl (.tmp 5) (.tmp 6) 22 rfl rfl rfl hrun ?_)
    go_ret
    exact HF.out
set_option maxHeartbeats 4000000 in
theorem pfod_any {R : Nat} {s : LfS} {T : Nat → Prop} {w : World} (hb9 : LfB s 9999) (h : LfW R s T w) (f : Int) : Calls Try.prog 16 #[.pointer (some ⟨R, 0, none⟩), .int .i64 f] w (GotLs csI 1 3 (lfOd s f) w) := by
  have HFL := Lib.hid (pfflow_any f w)
  cases hf : lfF f
  · have hnil : lfOd s f = [] := by
      unfold lfOd
      rw [List.filter_eq_nil_iff]
      intro q hq h9
      have h8 := h.1.ok.d q hq
      have h7 := h.1.ok.e _ (List.getElem_mem (lfI_lt h8))
      have h6 := lfF_no hf
      simp only [beq_iff_eq] at h9
      rw [lfFl_in h8] at h9
      omega
    rw [hnil]
    have HF := Lib.hid (show GotLs csI 1 3 ([] : List Int) w (.returned (.slice none 0 0)) w from ⟨_, rfl, LsG.nil _ _, Below.refl _ _⟩)
    rw [hf] at HFL
    clear h hb9 hnil hf
    go_enter Try.func16, Try.ntmps16
    go_wp2_with fail
    (with_reducible refine HFL.out.mono ?_); rintro e w1 ⟨rfl, rfl⟩
    go_wp2
    go_ret
    exact HF.out
  · have hff := lfF_yes hf
    obtain ⟨k, rfl⟩ : ∃ k : Nat, f = k := ⟨f.toNat, by omega⟩
    obtain ⟨A, c, d, _, _, hl⟩ := h.2.ord (f := k) (by omega)
    have hlen : (lfOd s k).length ≤ 99999 := by
      have h1 := List.length_filter_le (fun q => lfFl s q == (k : Int)) s.d
      have h2 := hb9.d
      unfold lfOd; omega
    have hl2 : LsG csI 1 3 w (fun b => b < w.heap.size) (.slice A (lfOd s k).length c) (lfOd s k) := hl
    have d2 : w.cell? ⟨R, 1 + k * 8 + 6, none⟩ = some (.slice A (lfOd s k).length c) := d
    have HC := Lib.hid (lfclone_any (by omega) (fun k hk => hk) hl2)
    rw [hf] at HFL
    clear h hl hl2 d hlen hb9 hf
    unfold GotLs at *
    generalize lfOd s k = l at *
    go_enter Try.func16, Try.ntmps16
    go_wp2_with fail
    (with_reducible refine HFL.out.mono ?_); rintro e w1 ⟨rfl, rfl⟩
    go_wp2_with fail
    (with_reducible refine HC.out.mono ?_); rintro e w2 ⟨v, rfl, hl, hb⟩
    have HF := Lib.hid (And.intro hl hb)
    clear hl hb HC d2
    go_wp2
    go_ret
    exact ⟨v, rfl, HF.out⟩
/-! ### Stats -/
def lpT (c : Nat → Int) : Nat → Int
  | 0 => 0
  | n + 1 => lpT c n + c n
theorem lpC_sum (f : Int) : ∀ l : List LfE, (∀ x ∈ l, 1 ≤ x.s ∧ x.s ≤ 4) → lfC l (fun e => e.f == f) = lfC l (fun e => e.f == f && e.s == 1) + lfC l (fun e => e.f == f && e.s == 2) + lfC l (fun e => e.f == f && e.s == 3) + lfC l (fun e => e.f == f && e.s == 4)
  | [], _ => rfl
  | x :: l, h => by
    have ih := lpC_sum f l (fun y hy => h y (by simp [hy]))
    have hx := h x (by simp)
    unfold lfC at ih ⊢
    simp only [List.filter_cons]
    cases hf : (x.f == f)
    · simpa using ih
    · rcases (by omega : x.s = 1 ∨ x.s = 2 ∨ x.s = 3 ∨ x.s = 4) with e | e | e | e <;> simp [e] <;> omega
def lpA (c : Nat → Int) : Value := .agg #[.int .i64 (c 0), .int .i64 (c 1), .int .i64 (c 2), .int .i64 (c 3), .int .i64 (c 4)]
theorem lpA_at (c : Nat → Int) {k : Nat} (hk : k < 5) (W : World) : (Instr.index 54 (lpA c) (.int .i64 (k : Nat))).run Try.prog W = .ok (.int .i64 (c k)) W := by
  unfold lpA
  rcases (by omega : k = 0 ∨ k = 1 ∨ k = 2 ∨ k = 3 ∨ k = 4) with rfl | rfl | rfl | rfl | rfl <;> kernel_rfl
set_option maxRecDepth 100000 in
set_option maxHeartbeats 16000000 in
theorem pfss_any {R : Nat} {s : LfS} {T : Nat → Prop} {w : World} (hb9 : LfB s 9999) (h : LfW R s T w) (f : Int) : Calls Try.prog 13 #[.pointer (some ⟨R, 0, none⟩), .int .i64 f] w (Calm (lfSs s f) w) := by
  have HFL := Lib.hid (fun W => pfflow_any f W)
  unfold Calm lfSs
  cases hf : lfF f
  · have e0 : lfS0 f = 0 := by unfold lfS0; rw [hf]; rfl
    have e1 : lfS1 s f = 0 := by unfold lfS1; rw [hf]; rfl
    have e2 : lfS2 s f = 0 := by unfold lfS2; rw [hf]; rfl
    have e3 : lfS3 s f = 0 := by unfold lfS3; rw [hf]; rfl
    have e4 : lfS4 s f = 0 := by unfold lfS4; rw [hf]; rfl
    rw [e0, e1, e2, e3, e4]
    rw [hf] at HFL
    have hx := Whole.fresh w 37 (stA 0 0 0 0 0 0)
    have HB := Lib.hid ((Below.refl w.heap.size w).alloc (Nat.le_refl _) (.cells (stA 0 0 0 0 0 0) 37))
    have k0 := (hx.read 0).trans (rfl : _ = some (Value.int .i64 0))
    have k1 := (hx.read 1).trans (rfl : _ = some (Value.int .i64 0))
    have k2 := (hx.read 2).trans (rfl : _ = some (Value.int .i64 0))
    have k3 := (hx.read 3).trans (rfl : _ = some (Value.int .i64 0))
    have k4 := (hx.read 4).trans (rfl : _ = some (Value.int .i64 0))
    have k5 := (hx.read 5).trans (rfl : _ = some (Value.int .i64 0))
    unfold stA at HB k0 k1 k2 k3 k4 k5 ⊢
    clear h hb9 hf e0 e1 e2 e3 e4 hx
    go_enter Try.func13, Try.ntmps13
    go_wp2_with fail
    (with_reducible refine (HFL.out _).mono ?_); rintro e w1 ⟨rfl, rfl⟩
    go_wp2
    exact bodyPost_ret (v := .agg #[.int .i64 0, .int .i64 0, .int .i64 0, .int .i64 0, .int .i64 0, .int .i64 0]) (by simp [results, Try.results13, go_sem, k0, k1, k2, k3, k4, k5]) rfl ⟨rfl, HB.out⟩
  · have hff := lfF_yes hf
    obtain ⟨k, rfl⟩ : ∃ k : Nat, f = k := ⟨f.toNat, by omega⟩
    have hk : k < 32 := by omega
    have hr := hb9.r k
    have hln := hb9.l
    obtain ⟨c, hc⟩ : ∃ c : Nat → Int, (fun j : Nat => lfCn s k j) = c := ⟨_, rfl⟩
    have hcj : ∀ j : Nat, lfCn s k j = c j := fun j => congrFun hc j
    have hcb : ∀ j, 0 ≤ c j ∧ c j ≤ 9999 := fun j => by
      have := List.length_filter_le (fun e : LfE => e.f == (k : Int) && e.s == (j : Int)) s.l
      rw [← hcj]; unfold lfCn; omega
    have hc0 : c 0 = 0 := by rw [← hcj]; exact cn_none h.1.ok _
    have hby : 0 ≤ lfBy s.l k ∧ lfBy s.l k ≤ 50000000 := by
      have h9 := lfBy_bd s.l k h.1.ok.e s.l.length
      rw [List.take_length] at h9
      omega
    have e0 : lfS0 k = k := by unfold lfS0; rw [hf]; rfl
    have e1 : lfS1 s k = lpT c 5 := by
      unfold lfS1; rw [if_pos hf, lpC_sum _ _ (fun x hx => (h.1.ok.e x hx).2.2)]
      show lfCn s k (1 : Nat) + lfCn s k (2 : Nat) + lfCn s k (3 : Nat) + lfCn s k (4 : Nat) = 0 + c 0 + c 1 + c 2 + c 3 + c 4
      rw [hcj, hcj, hcj, hcj]; omega
    have e2 : lfS2 s k = c 3 := by unfold lfS2; rw [if_pos hf, ← hcj]; rfl
    have e3 : lfS3 s k = c 4 + s.r k := by
      have h9 : lfC s.l (fun e => e.f == (k : Int) && e.s == 4) = c 4 := by rw [← hcj]; rfl
      unfold lfS3; rw [if_pos hf, h9, Int.add_comm]
    have e4 : lfS4 s k = lfBy s.l k := by unfold lfS4; rw [if_pos hf]
    rw [e0, e1, e2, e3, e4]
    rw [hf] at HFL
    obtain ⟨wA, hwA⟩ : ∃ wA, w.alloc (.cells (stA 0 0 0 0 0 0) 37) = wA := ⟨_, rfl⟩
    have hbA : Below w.heap.size w wA := by rw [← hwA]; exact (Below.refl _ _).alloc (Nat.le_refl _) _
    have hxA : Whole wA w.heap.size 37 (stA 0 0 0 0 0 0) := by rw [← hwA]; exact Whole.fresh w _ _
    have hA := h.2.later hbA
    have hAd := hA.later (Below.refl _ wA).drew
    have f1 : ∀ W, LpP R (lpM s) T W → ∀ j, j < 5 → W.cell? ⟨R, 1 + k * 8 + j, none⟩ = some (.int .i64 (c j)) := fun W hW j hj => by
      have h9 := (hW.cnt hk hj).1
      rw [← hcj]; exact h9
    have a0 : wA.cell? ⟨R, 1 + k * 8, none⟩ = some (.int .i64 (c 0)) := f1 _ hA 0 (by omega)
    have a1 := f1 _ hA 1 (by omega)
    have a2 := f1 _ hA 2 (by omega)
    have a3 := f1 _ hA 3 (by omega)
    have a4 := f1 _ hA 4 (by omega)
    have g3 := f1 _ hAd 3 (by omega)
    have g4 := f1 _ hAd 4 (by omega)
    have g5 : wA.drew.cell? ⟨R, 1 + k * 8 + 5, none⟩ = some (.int .i64 (s.r k)) := (hAd.ref hk).1
    have g7 : wA.drew.cell? ⟨R, 1 + k * 8 + 7, none⟩ = some (.int .i64 (lfBy s.l k)) := (hAd.byt hk).1
    have hxD := hxA.later (Below.refl _ wA).drew
    have hbD : Below w.heap.size w wA.drew := hbA.drew
    obtain ⟨yy, yf⟩ : (∀ i, wA.drew.cell? ⟨w.heap.size, i, none⟩ = (stA 0 0 0 0 0 0)[i]?) ∧ ∀ i, wA.drew.frozen? ⟨w.heap.size, i, none⟩ = false := ⟨fun i => hxD.read i, hxD.free⟩
    have y0 : wA.drew.cell? ⟨w.heap.size, 0, none⟩ = some (.int .i64 0) := yy 0
    have y1 : wA.drew.cell? ⟨w.heap.size, 1, none⟩ = some (.int .i64 0) := yy 1
    have y2 : wA.drew.cell? ⟨w.heap.size, 2, none⟩ = some (.int .i64 0) := yy 2
    have y3 : wA.drew.cell? ⟨w.heap.size, 3, none⟩ = some (.int .i64 0) := yy 3
    have y4 : wA.drew.cell? ⟨w.heap.size, 4, none⟩ = some (.int .i64 0) := yy 4
    have y5 : wA.drew.cell? ⟨w.heap.size, 5, none⟩ = some (.int .i64 0) := yy 5
    have x0 := yf 0
    have x1 := yf 1
    have x2 := yf 2
    have x3 := yf 3
    have x4 := yf 4
    have x5 := yf 5
    have HX := Lib.hid (fun (a b c d e f : Int) => six_put (w := w) hxD hbD (Nat.le_refl _) a b c d e f rfl)
    have HWA := Lib.hid hwA
    have HIX := Lib.hid (fun (j : Nat) (hj : j < 5) W => lpA_at c hj W)
    have HT : ∀ j, j < 5 → lpT c (j + 1) = lpT c j + c j := fun j _ => rfl
    have htb : ∀ j, j ≤ 5 → 0 ≤ lpT c j ∧ lpT c j ≤ 9999 * j := fun j hj => by
      have b0 := hcb 0
      have b1 := hcb 1
      have b2 := hcb 2
      have b3 := hcb 3
      have b4 := hcb 4
      rcases (by omega : j = 0 ∨ j = 1 ∨ j = 2 ∨ j = 3 ∨ j = 4 ∨ j = 5) with rfl | rfl | rfl | rfl | rfl | rfl <;> simp only [lpT] <;> omega
    have HTT := Lib.hid (And.intro HT htb)
    have HCB := Lib.hid hcb
    have hw4 : IntKind.i64.wrap (c 4 + s.r k) = c 4 + s.r k := IntWalk.i64_in _ (by have := hcb 4; omega)
    have hk0 : (0 : Int) ≤ (k : Int) := by omega
    have hk2 : (k : Int) < 32 := by omega
    unfold lpA at HIX
    clear h hb9 hf e0 e1 e2 e3 e4 hc hcj hwA hbA hxA hA hAd f1 hxD hbD yy yf HT htb hc0 hcb
    generalize s.r k = rr at *
    generalize lfBy s.l k = bb at *
    have HD0 := Lib.hid (And.intro g3 (And.intro g4 (And.intro g5 g7)))
    clear g3 g4 g5 g7
    unfold stA at HWA
    go_enter Try.func13, Try.ntmps13
    go_wp2_with fail
    (with_reducible refine (HFL.out _).mono ?_); rintro e w1 ⟨rfl, rfl⟩
    rw [HWA.out]
    go_wp2
    go_loopw [6, 22] (fun s6 s22 wr => ∃ j : Nat, j ≤ 5 ∧ s22 = .int .i64 j ∧ s6 = .int .i64 (lpT c j) ∧ Hid (wr = wA)) (fun _ s22 _ => 5 - (intOf s22).toNat)
    case atStart => exact ⟨0, by omega, rfl, rfl, Lib.hid rfl⟩
    case round =>
      obtain ⟨j, hj, rfl, rfl, HW⟩ := hrel
      obtain rfl := HW.out
      by_cases hlt : j < 5
      · have hlt' : (j : Int) < 5 := by omega
        have hix := HIX.out j hlt
        have h1 := HTT.out.1 j hlt
        have h2 := HTT.out.2 j hj
        have h3 := HCB.out j
        have hwj : IntKind.i64.wrap (lpT c j + c j) = lpT c (j + 1) := by rw [h1]; exact IntWalk.i64_in _ (by omega)
        clear h1 h2 h3 HTT
        generalize lpT c j = t0 at *
        generalize c j = cj at *
        go_wp2
        go_roundw
        case rel => exact ⟨j + 1, by omega, by go_num, by first | rfl | go_num, by first | exact Lib.hid rfl | exact Lib.hid trivial⟩
        case measure => simp [intOf]; omega
      · obtain rfl : j = 5 := by omega
        obtain ⟨g3, g4, g5, g7⟩ := HD0.out
        obtain ⟨tt, htt⟩ : ∃ tt, lpT c 5 = tt := ⟨_, rfl⟩
        rw [htt]
        have HXX := Lib.hid (HX.out k tt (c 3) (c 4 + rr) bb 0)
        have HTQ := Lib.hid htt
        clear htt a0 a1 a2 a3 a4 HX HIX HTT HCB HWA HW HD0
        obtain ⟨wB, hwB⟩ : ∃ wB, wr.drew = wB := ⟨_, rfl⟩
        rw [hwB] at HXX g3 g4 g5 g7 y0 y1 y2 y3 y4 y5 x0 x1 x2 x3 x4 x5
        have HWB := Lib.hid hwB
        clear hwB
        obtain ⟨c3, hc3⟩ : ∃ c3, c 3 = c3 := ⟨_, rfl⟩
        obtain ⟨c4, hc4⟩ : ∃ c4, c 4 = c4 := ⟨_, rfl⟩
        rw [hc3] at g3 HXX
        rw [hc4] at g4 HXX hw4
        have HC3 := Lib.hid hc3
        have HC4 := Lib.hid hc4
        clear hc3 hc4
        go_wp2_with fail
        refine wp_region_looseS 51 (by kernel_rfl) (by kernel_rfl) (StC (wB) ((((((wB.setCell ⟨w.heap.size, 0, none⟩ (.int .i64 (k : Nat))).setCell ⟨w.heap.size, 1, none⟩ (.int .i64 tt)).setCell ⟨w.heap.size, 2, none⟩ (.int .i64 c3)).setCell ⟨w.heap.size, 3, none⟩ (.int .i64 (c4 + rr))).setCell ⟨w.heap.size, 4, none⟩ (.int .i64 bb)).setCell ⟨w.heap.size, 5, none⟩ (.int .i64 0)) (fun i => [.int .i64 (k : Nat), .int .i64 tt, .pointer (some ⟨R, 1 + k * 8, none⟩), .pointer (some ⟨R, 1 + k * 8, none⟩), .pointer (some ⟨R, 1 + k * 8, none⟩), .pointer (some ⟨R, 1 + k * 8 + 3, none⟩), .int .i64 c3, .pointer (some ⟨R, 1 + k * 8, none⟩), .pointer (some ⟨R, 1 + k * 8, none⟩), .pointer (some ⟨R, 1 + k * 8, none⟩), .pointer (some ⟨R, 1 + k * 8 + 4, none⟩), .int .i64 c4, .pointer (some ⟨R, 1 + k * 8, none⟩), .pointer (some ⟨R, 1 + k * 8, none⟩), .pointer (some ⟨R, 1 + k * 8 + 5, none⟩), .int .i64 rr, .int .i64 (c4 + rr), .pointer (some ⟨R, 1 + k * 8, none⟩), .pointer (some ⟨R, 1 + k * 8, none⟩), .pointer (some ⟨R, 1 + k * 8 + 7, none⟩), .int .i64 bb, .agg #[.int .i64 (k : Nat), .int .i64 tt, .int .i64 c3, .int .i64 (c4 + rr), .int .i64 bb, .int .i64 0]].getD i undef) 22) rfl (by rw [HWB.out]; exact StC.start) ?_ ?_
        · simp only [OblAllS]
          refine ⟨?_, ?_, ?_, ?_, ?_, ?_, ?_, ?_, ?_, ?_, ?_, ?_, ?_, ?_, ?_, ?_, ?_, ?_, ?_, ?_, ?_, ?_, ?_, trivial⟩
          · intro L wx vals hi hu hcl hC
            simp [ClosedL, UpL, predL, predE, Region.binds] at hcl
            have hst : L 22 = false := by clear hC; cases h : L 22 with | false => rfl | true => exfalso; clear HXX HFL HWB; first | (simp_all; done) | grind
            obtain rfl := hC.a hst
            have HCx := Lib.hid hC
            clear hC hcl hu hi hst
            simp only [fillA, if_true, Act.put]
            simp
            go_wp2
            exact ⟨rfl, HCx.out.quiet (by decide) rfl⟩
          · intro L wx vals hi hu hcl hC
            simp [ClosedL, UpL, predL, predE, Region.binds] at hcl
            have hst : L 22 = false := by clear hC; cases h : L 22 with | false => rfl | true => exfalso; clear HXX HFL HWB; first | (simp_all; done) | grind
            obtain rfl := hC.a hst
            have HCx := Lib.hid hC
            clear hC hcl hu hi hst
            simp only [fillA, if_true, Act.put]
            simp
            go_wp2
            exact ⟨rfl, HCx.out.quiet (by decide) rfl⟩
          · intro L wx vals hi hu hcl hC
            simp [ClosedL, UpL, predL, predE, Region.binds] at hcl
            have hst : L 22 = false := by clear hC; cases h : L 22 with | false => rfl | true => exfalso; clear HXX HFL HWB; first | (simp_all; done) | grind
            obtain rfl := hC.a hst
            have HCx := Lib.hid hC
            clear hC hcl hu hi hst
            simp only [fillA, if_true, Act.put]
            simp
            go_wp2
            exact ⟨rfl, HCx.out.quiet (by decide) rfl⟩
          · intro L wx vals hi hu hcl hC
            simp [ClosedL, UpL, predL, predE, Region.binds] at hcl
            simp [predL, predE, Region.binds, UpL] at hu
            have hst : L 22 = false := by clear hC; cases h : L 22 with | false => rfl | true => exfalso; clear HXX HFL HWB; first | (simp_all; done) | grind
            have e2 : vals 2 = .pointer (some ⟨R, 1 + k * 8, none⟩) := hC.v 2 (by decide) (by simp [hu])
            obtain rfl := hC.a hst
            have HCx := Lib.hid hC
            clear hC hcl hu hi hst
            simp only [fillA, if_true, Act.put]
            simp
            simp only [e2]
            clear e2
            go_wp2
            exact ⟨rfl, HCx.out.quiet (by decide) rfl⟩
          · intro L wx vals hi hu hcl hC
            simp [ClosedL, UpL, predL, predE, Region.binds] at hcl
            simp [predL, predE, Region.binds, UpL] at hu
            have hst : L 22 = false := by clear hC; cases h : L 22 with | false => rfl | true => exfalso; clear HXX HFL HWB; first | (simp_all; done) | grind
            have e3 : vals 3 = .pointer (some ⟨R, 1 + k * 8, none⟩) := hC.v 3 (by decide) (by simp [hu])
            obtain rfl := hC.a hst
            have HCx := Lib.hid hC
            clear hC hcl hu hi hst
            simp only [fillA, if_true, Act.put]
            simp
            simp only [e3]
            clear e3
            go_wp2
            exact ⟨rfl, HCx.out.quiet (by decide) rfl⟩
          · intro L wx vals hi hu hcl hC
            simp [ClosedL, UpL, predL, predE, Region.binds] at hcl
            simp [predL, predE, Region.binds, UpL] at hu
            have hst : L 22 = false := by clear hC; cases h : L 22 with | false => rfl | true => exfalso; clear HXX HFL HWB; first | (simp_all; done) | grind
            have e4 : vals 4 = .pointer (some ⟨R, 1 + k * 8, none⟩) := hC.v 4 (by decide) (by simp [hu])
            obtain rfl := hC.a hst
            have HCx := Lib.hid hC
            clear hC hcl hu hi hst
            simp only [fillA, if_true, Act.put]
            simp
            simp only [e4]
            clear e4
            go_wp2
            exact ⟨rfl, HCx.out.quiet (by decide) rfl⟩
          · intro L wx vals hi hu hcl hC
            simp [ClosedL, UpL, predL, predE, Region.binds] at hcl
            simp [predL, predE, Region.binds, UpL] at hu
            have hst : L 22 = false := by clear hC; cases h : L 22 with | false => rfl | true => exfalso; clear HXX HFL HWB; first | (simp_all; done) | grind
            have e5 : vals 5 = .pointer (some ⟨R, 1 + k * 8 + 3, none⟩) := hC.v 5 (by decide) (by simp [hu])
            obtain rfl := hC.a hst
            have HCx := Lib.hid hC
            clear hC hcl hu hi hst
            simp only [fillA, if_true, Act.put]
            simp
            simp only [e5]
            clear e5
            go_wp2
            exact ⟨rfl, HCx.out.quiet (by decide) rfl⟩
          · intro L wx vals hi hu hcl hC
            simp [ClosedL, UpL, predL, predE, Region.binds] at hcl
            have hst : L 22 = false := by clear hC; cases h : L 22 with | false => rfl | true => exfalso; clear HXX HFL HWB; first | (simp_all; done) | grind
            obtain rfl := hC.a hst
            have HCx := Lib.hid hC
            clear hC hcl hu hi hst
            simp only [fillA, if_true, Act.put]
            simp
            go_wp2
            exact ⟨rfl, HCx.out.quiet (by decide) rfl⟩
          · intro L wx vals hi hu hcl hC
            simp [ClosedL, UpL, predL, predE, Region.binds] at hcl
            simp [predL, predE, Region.binds, UpL] at hu
            have hst : L 22 = false := by clear hC; cases h : L 22 with | false => rfl | true => exfalso; clear HXX HFL HWB; first | (simp_all; done) | grind
            have e7 : vals 7 = .pointer (some ⟨R, 1 + k * 8, none⟩) := hC.v 7 (by decide) (by simp [hu])
            obtain rfl := hC.a hst
            have HCx := Lib.hid hC
            clear hC hcl hu hi hst
            simp only [fillA, if_true, Act.put]
            simp
            simp only [e7]
            clear e7
            go_wp2
            exact ⟨rfl, HCx.out.quiet (by decide) rfl⟩
          · intro L wx vals hi hu hcl hC
            simp [ClosedL, UpL, predL, predE, Region.binds] at hcl
            simp [predL, predE, Region.binds, UpL] at hu
            have hst : L 22 = false := by clear hC; cases h : L 22 with | false => rfl | true => exfalso; clear HXX HFL HWB; first | (simp_all; done) | grind
            have e8 : vals 8 = .pointer (some ⟨R, 1 + k * 8, none⟩) := hC.v 8 (by decide) (by simp [hu])
            obtain rfl := hC.a hst
            have HCx := Lib.hid hC
            clear hC hcl hu hi hst
            simp only [fillA, if_true, Act.put]
            simp
            simp only [e8]
            clear e8
            go_wp2
            exact ⟨rfl, HCx.out.quiet (by decide) rfl⟩
          · intro L wx vals hi hu hcl hC
            simp [ClosedL, UpL, predL, predE, Region.binds] at hcl
            simp [predL, predE, Region.binds, UpL] at hu
            have hst : L 22 = false := by clear hC; cases h : L 22 with | false => rfl | true => exfalso; clear HXX HFL HWB; first | (simp_all; done) | grind
            have e9 : vals 9 = .pointer (some ⟨R, 1 + k * 8, none⟩) := hC.v 9 (by decide) (by simp [hu])
            obtain rfl := hC.a hst
            have HCx := Lib.hid hC
            clear hC hcl hu hi hst
            simp only [fillA, if_true, Act.put]
            simp
            simp only [e9]
            clear e9
            go_wp2
            exact ⟨rfl, HCx.out.quiet (by decide) rfl⟩
          · intro L wx vals hi hu hcl hC
            simp [ClosedL, UpL, predL, predE, Region.binds] at hcl
            simp [predL, predE, Region.binds, UpL] at hu
            have hst : L 22 = false := by clear hC; cases h : L 22 with | false => rfl | true => exfalso; clear HXX HFL HWB; first | (simp_all; done) | grind
            have e10 : vals 10 = .pointer (some ⟨R, 1 + k * 8 + 4, none⟩) := hC.v 10 (by decide) (by simp [hu])
            obtain rfl := hC.a hst
            have HCx := Lib.hid hC
            clear hC hcl hu hi hst
            simp only [fillA, if_true, Act.put]
            simp
            simp only [e10]
            clear e10
            go_wp2
            exact ⟨rfl, HCx.out.quiet (by decide) rfl⟩
          · intro L wx vals hi hu hcl hC
            simp [ClosedL, UpL, predL, predE, Region.binds] at hcl
            have hst : L 22 = false := by clear hC; cases h : L 22 with | false => rfl | true => exfalso; clear HXX HFL HWB; first | (simp_all; done) | grind
            obtain rfl := hC.a hst
            have HCx := Lib.hid hC
            clear hC hcl hu hi hst
            simp only [fillA, if_true, Act.put]
            simp
            go_wp2
            exact ⟨rfl, HCx.out.quiet (by decide) rfl⟩
          · intro L wx vals hi hu hcl hC
            simp [ClosedL, UpL, predL, predE, Region.binds] at hcl
            simp [predL, predE, Region.binds, UpL] at hu
            have hst : L 22 = false := by clear hC; cases h : L 22 with | false => rfl | true => exfalso; clear HXX HFL HWB; first | (simp_all; done) | grind
            have e12 : vals 12 = .pointer (some ⟨R, 1 + k * 8, none⟩) := hC.v 12 (by decide) (by simp [hu])
            obtain rfl := hC.a hst
            have HCx := Lib.hid hC
            clear hC hcl hu hi hst
            simp only [fillA, if_true, Act.put]
            simp
            simp only [e12]
            clear e12
            go_wp2
            exact ⟨rfl, HCx.out.quiet (by decide) rfl⟩
          · intro L wx vals hi hu hcl hC
            simp [ClosedL, UpL, predL, predE, Region.binds] at hcl
            simp [predL, predE, Region.binds, UpL] at hu
            have hst : L 22 = false := by clear hC; cases h : L 22 with | false => rfl | true => exfalso; clear HXX HFL HWB; first | (simp_all; done) | grind
            have e13 : vals 13 = .pointer (some ⟨R, 1 + k * 8, none⟩) := hC.v 13 (by decide) (by simp [hu])
            obtain rfl := hC.a hst
            have HCx := Lib.hid hC
            clear hC hcl hu hi hst
            simp only [fillA, if_true, Act.put]
            simp
            simp only [e13]
            clear e13
            go_wp2
            exact ⟨rfl, HCx.out.quiet (by decide) rfl⟩
          · intro L wx vals hi hu hcl hC
            simp [ClosedL, UpL, predL, predE, Region.binds] at hcl
            simp [predL, predE, Region.binds, UpL] at hu
            have hst : L 22 = false := by clear hC; cases h : L 22 with | false => rfl | true => exfalso; clear HXX HFL HWB; first | (simp_all; done) | grind
            have e14 : vals 14 = .pointer (some ⟨R, 1 + k * 8 + 5, none⟩) := hC.v 14 (by decide) (by simp [hu])
            obtain rfl := hC.a hst
            have HCx := Lib.hid hC
            clear hC hcl hu hi hst
            simp only [fillA, if_true, Act.put]
            simp
            simp only [e14]
            clear e14
            go_wp2
            exact ⟨rfl, HCx.out.quiet (by decide) rfl⟩
          · intro L wx vals hi hu hcl hC
            simp [ClosedL, UpL, predL, predE, Region.binds] at hcl
            simp [predL, predE, Region.binds, UpL] at hu
            have hst : L 22 = false := by clear hC; cases h : L 22 with | false => rfl | true => exfalso; clear HXX HFL HWB; first | (simp_all; done) | grind
            have e11 : vals 11 = .int .i64 c4 := hC.v 11 (by decide) (by simp [hu])
            have e15 : vals 15 = .int .i64 rr := hC.v 15 (by decide) (by simp [hu])
            obtain rfl := hC.a hst
            have HCx := Lib.hid hC
            clear hC hcl hu hi hst
            simp only [fillA, if_true, Act.put]
            simp
            simp only [e11, e15]
            clear e11 e15
            go_wp2
            exact ⟨rfl, HCx.out.quiet (by decide) rfl⟩
          · intro L wx vals hi hu hcl hC
            simp [ClosedL, UpL, predL, predE, Region.binds] at hcl
            have hst : L 22 = false := by clear hC; cases h : L 22 with | false => rfl | true => exfalso; clear HXX HFL HWB; first | (simp_all; done) | grind
            obtain rfl := hC.a hst
            have HCx := Lib.hid hC
            clear hC hcl hu hi hst
            simp only [fillA, if_true, Act.put]
            simp
            go_wp2
            exact ⟨rfl, HCx.out.quiet (by decide) rfl⟩
          · intro L wx vals hi hu hcl hC
            simp [ClosedL, UpL, predL, predE, Region.binds] at hcl
            simp [predL, predE, Region.binds, UpL] at hu
            have hst : L 22 = false := by clear hC; cases h : L 22 with | false => rfl | true => exfalso; clear HXX HFL HWB; first | (simp_all; done) | grind
            have e17 : vals 17 = .pointer (some ⟨R, 1 + k * 8, none⟩) := hC.v 17 (by decide) (by simp [hu])
            obtain rfl := hC.a hst
            have HCx := Lib.hid hC
            clear hC hcl hu hi hst
            simp only [fillA, if_true, Act.put]
            simp
            simp only [e17]
            clear e17
            go_wp2
            exact ⟨rfl, HCx.out.quiet (by decide) rfl⟩
          · intro L wx vals hi hu hcl hC
            simp [ClosedL, UpL, predL, predE, Region.binds] at hcl
            simp [predL, predE, Region.binds, UpL] at hu
            have hst : L 22 = false := by clear hC; cases h : L 22 with | false => rfl | true => exfalso; clear HXX HFL HWB; first | (simp_all; done) | grind
            have e18 : vals 18 = .pointer (some ⟨R, 1 + k * 8, none⟩) := hC.v 18 (by decide) (by simp [hu])
            obtain rfl := hC.a hst
            have HCx := Lib.hid hC
            clear hC hcl hu hi hst
            simp only [fillA, if_true, Act.put]
            simp
            simp only [e18]
            clear e18
            go_wp2
            exact ⟨rfl, HCx.out.quiet (by decide) rfl⟩
          · intro L wx vals hi hu hcl hC
            simp [ClosedL, UpL, predL, predE, Region.binds] at hcl
            simp [predL, predE, Region.binds, UpL] at hu
            have hst : L 22 = false := by clear hC; cases h : L 22 with | false => rfl | true => exfalso; clear HXX HFL HWB; first | (simp_all; done) | grind
            have e19 : vals 19 = .pointer (some ⟨R, 1 + k * 8 + 7, none⟩) := hC.v 19 (by decide) (by simp [hu])
            obtain rfl := hC.a hst
            have HCx := Lib.hid hC
            clear hC hcl hu hi hst
            simp only [fillA, if_true, Act.put]
            simp
            simp only [e19]
            clear e19
            go_wp2
            exact ⟨rfl, HCx.out.quiet (by decide) rfl⟩
          · intro L wx vals hi hu hcl hC
            simp [ClosedL, UpL, predL, predE, Region.binds] at hcl
            simp [predL, predE, Region.binds, UpL] at hu
            have hst : L 22 = false := by clear hC; cases h : L 22 with | false => rfl | true => exfalso; clear HXX HFL HWB; first | (simp_all; done) | grind
            have e0 : vals 0 = .int .i64 (k : Nat) := hC.v 0 (by decide) (by simp [hu])
            have e1 : vals 1 = .int .i64 tt := hC.v 1 (by decide) (by simp [hu])
            have e6 : vals 6 = .int .i64 c3 := hC.v 6 (by decide) (by simp [hu])
            have e16 : vals 16 = .int .i64 (c4 + rr) := hC.v 16 (by decide) (by simp [hu])
            have e20 : vals 20 = .int .i64 bb := hC.v 20 (by decide) (by simp [hu])
            obtain rfl := hC.a hst
            have HCx := Lib.hid hC
            clear hC hcl hu hi hst
            simp only [fillA, if_true, Act.put]
            simp
            simp only [e0, e1, e6, e16, e20]
            clear e0 e1 e6 e16 e20
            go_wp2
            exact ⟨rfl, HCx.out.quiet (by decide) rfl⟩
          · intro L wx vals hi hu hcl hC
            simp [ClosedL, UpL, predL, predE, Region.binds] at hcl
            simp [predL, predE, Region.binds, UpL] at hu
            have hst : L 22 = false := hi
            have e21 : vals 21 = .agg #[.int .i64 (k : Nat), .int .i64 tt, .int .i64 c3, .int .i64 (c4 + rr), .int .i64 bb, .int .i64 0] := hC.v 21 (by decide) (by simp [hu])
            obtain rfl := hC.a hst
            have HCx := Lib.hid hC
            clear hC hcl hu hi hst
            simp only [fillA, if_true, Act.put]
            simp
            simp only [e21]
            clear e21
            go_wp2
            exact ⟨rfl, HCx.out.write⟩
        · intro wz vals U hC hall
          have hz := hC.b (hall 22 (by simp))
          subst hz
          simp only [fillA, if_true, Act.put]
          simp
          clear hC hall g3 g4 g5 g7
          generalize vals 0 = t0 at *
          generalize vals 1 = t1 at *
          generalize vals 2 = t2 at *
          generalize vals 3 = t3 at *
          generalize vals 4 = t4 at *
          generalize vals 5 = t5 at *
          generalize vals 6 = t6 at *
          generalize vals 7 = t7 at *
          generalize vals 8 = t8 at *
          generalize vals 9 = t9 at *
          generalize vals 10 = t10 at *
          generalize vals 11 = t11 at *
          generalize vals 12 = t12 at *
          generalize vals 13 = t13 at *
          generalize vals 14 = t14 at *
          generalize vals 15 = t15 at *
          generalize vals 16 = t16 at *
          generalize vals 17 = t17 at *
          generalize vals 18 = t18 at *
          generalize vals 19 = t19 at *
          generalize vals 20 = t20 at *
          generalize vals 21 = t21 at *
          obtain ⟨hcell, hbl⟩ := HXX.out
          have k0 := (hcell 0).trans (rfl : _ = some (Value.int .i64 k))
          have k1 := (hcell 1).trans (rfl : _ = some (Value.int .i64 tt))
          have k2 := (hcell 2).trans (rfl : _ = some (Value.int .i64 c3))
          have k3 := (hcell 3).trans (rfl : _ = some (Value.int .i64 (c4 + rr)))
          have k4 := (hcell 4).trans (rfl : _ = some (Value.int .i64 bb))
          have k5 := (hcell 5).trans (rfl : _ = some (Value.int .i64 0))
          clear HXX hcell
          go_wp2
          exact bodyPost_ret (v := .agg #[.int .i64 k, .int .i64 tt, .int .i64 c3, .int .i64 (c4 + rr), .int .i64 bb, .int .i64 0]) (by simp [results, Try.results13, go_sem, k0, k1, k2, k3, k4, k5]) rfl ⟨by rw [HTQ.out, HC3.out, HC4.out]; rfl, hbl⟩
end Go.Proofs.Ytkhngfadhfomoaa

