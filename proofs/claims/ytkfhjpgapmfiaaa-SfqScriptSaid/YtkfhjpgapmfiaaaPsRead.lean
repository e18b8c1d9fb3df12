/-
  Layer 13: contracts of the program's New, Time, Rebased, Tags, isTag, least, Select.
-/
import Derived.Test.YtkfhjpgapmfiaaaPsMem
import Derived.Test.YtkfhjpgapmfiaaaTgProg
namespace Go.Proofs.Ytkfhjpgapmfiaaa
open Go.ChangeShapes Go.WideShapes Go.ChangeAt Go.RowKit
set_option linter.unusedVariables false

/-- What New leaves: a reference of its own. -/
def PsNew (a : Int) (w : World) (e : Ending) (w' : World) : Prop := ∃ T R, e = .returned (.tuple #[.pointer (some ⟨R, 0, none⟩), .int .i64 0]) ∧ PsO T R (Sf.new a) w' ∧ (∀ k, T k → w.heap.size ≤ k) ∧ Below w.heap.size w w'
theorem psnew_any {a : Int} (h : 1 ≤ a ∧ a ≤ 1099511627776) (w : World) : Calls Try.prog 10 #[.int .i64 a] w (PsNew a w) := by
  have e0 : actF (Sf.new a) = fun _ => none := by funext k; refine act_no ?_; unfold Sf.here Sf.new; simp
  have m1 := MapI.made w
  have m2 := MapI.made (w.alloc (.map #[] 0))
  have m1' := ((m1.keep (w' := (w.alloc (.map #[] 0)).alloc (.map #[] 0)) ((MapKept.heap_alloc (w.alloc (.map #[] 0)) _).2 _ m1.lt)).keep (w' := ((w.alloc (.map #[] 0)).alloc (.map #[] 0)).alloc (.cells #[.int .i64 a, .map (some w.heap.size), .map (some (w.heap.size + 1)), .int .i64 0, .int .i64 0] 61)) ((MapKept.heap_alloc _ _).2 _ (by simp; omega)))
  have m2' := m2.keep (w' := ((w.alloc (.map #[] 0)).alloc (.map #[] 0)).alloc (.cells #[.int .i64 a, .map (some w.heap.size), .map (some (w.heap.size + 1)), .int .i64 0, .int .i64 0] 61)) ((MapKept.heap_alloc _ _).2 _ (by simp))
  rw [World.size_alloc] at m2'
  rw [← e0] at m1'
  have hw : Whole (((w.alloc (.map #[] 0)).alloc (.map #[] 0)).alloc (.cells #[.int .i64 a, .map (some w.heap.size), .map (some (w.heap.size + 1)), .int .i64 0, .int .i64 0] 61)) (w.heap.size + 1 + 1) 61 #[.int .i64 a, .map (some w.heap.size), .map (some (w.heap.size + 1)), .int .i64 0, .int .i64 0] := by
    have := Whole.fresh ((w.alloc (.map #[] 0)).alloc (.map #[] 0)) 61 #[.int .i64 a, .map (some w.heap.size), .map (some (w.heap.size + 1)), .int .i64 0, .int .i64 0]
    simpa using this
  have HF := Lib.hid (show PsNew a w (.returned (.tuple #[.pointer (some ⟨w.heap.size + 1 + 1, 0, none⟩), .int .i64 0])) (((w.alloc (.map #[] 0)).alloc (.map #[] 0)).alloc (.cells #[.int .i64 a, .map (some w.heap.size), .map (some (w.heap.size + 1)), .int .i64 0, .int .i64 0] 61)) from
    ⟨fun k => w.heap.size ≤ k ∧ k < w.heap.size + 3, w.heap.size + 1 + 1, rfl, ⟨SfOk.new h, fun k hk => by simp; omega, by omega, w.heap.size, w.heap.size + 1, by omega, by omega, ⟨hw, m1', ⟨_, m2', fun n hn => rfl⟩, by omega⟩⟩, (fun k hk => hk.1), (((Below.refl _ _).alloc (Nat.le_refl _) _).alloc (by simp) _).alloc (by simp; omega) _⟩)
  obtain ⟨h1, h2⟩ := h
  clear m1 m2 m1' m2' hw e0
  have hmm := @run_makeMap Try.prog
  go_enter Try.func10, Try.ntmps10
  go_wp2
  go_ret2
  exact HF.out
theorem psnew_no {a : Int} (h : ¬ (1 ≤ a ∧ a ≤ 1099511627776)) (w : World) : Calls Try.prog 10 #[.int .i64 a] w fun e w' => e = .returned (.tuple #[.pointer none, .int .i64 1]) ∧ w = w' := by
  rcases (by omega : a < 1 ∨ (¬ a < 1 ∧ 1099511627776 < a)) with h1 | ⟨h1, h2⟩
  all_goals
    clear h
    go_enter Try.func10, Try.ntmps10
    go_wp2
    go_ret2
    exact ⟨rfl, rfl⟩
section
variable {T : Nat → Prop} {R : Nat} {s : Sf} {w : World}
theorem pstime_any (h : PsO T R s w) : Calls Try.prog 25 #[.pointer (some ⟨R, 0, none⟩)] w fun e w' => e = .returned (.int .i64 s.now) ∧ w = w' := by
  obtain ⟨_, _, _, a, o, _, _, hw⟩ := h
  obtain ⟨_, _, _, c3, _, _⟩ := hw.cells
  clear hw
  go_enter Try.func25, Try.ntmps25
  go_wp2
  go_ret
  exact ⟨rfl, rfl⟩
theorem psaway_any (h : PsO T R s w) : Calls Try.prog 33 #[.pointer (some ⟨R, 0, none⟩)] w fun e w' => e = .returned (.int .i64 s.away) ∧ w = w' := by
  obtain ⟨_, _, _, a, o, _, _, hw⟩ := h
  obtain ⟨_, _, _, _, c4, _⟩ := hw.cells
  clear hw
  go_enter Try.func33, Try.ntmps33
  go_wp2
  go_ret
  exact ⟨rfl, rfl⟩
end
/-- The active flows' tags below n, in ascending order. -/
def tgl (s : Sf) : Nat → List Tg
  | 0 => []
  | n + 1 => if s.on n = true then tgl s n ++ [s.tag n] else tgl s n
theorem tgl_on {s : Sf} {n : Nat} (h : s.on n = true) : tgl s (n + 1) = tgl s n ++ [s.tag n] := by rw [tgl, if_pos h]
theorem tgl_off {s : Sf} {n : Nat} (h : s.on n = false) : tgl s (n + 1) = tgl s n := by rw [tgl, if_neg (by simp [h])]
theorem tgl_le (s : Sf) : ∀ n, (tgl s n).length ≤ n
  | 0 => Nat.le_refl _
  | n + 1 => by
    have := tgl_le s n
    rw [tgl]; split
    · rw [List.length_append]; simp; omega
    · omega
theorem tgl_mem (s : Sf) (t : Tg) : ∀ n, t ∈ tgl s n ↔ ∃ f, f < n ∧ s.on f = true ∧ t = s.tag f
  | 0 => by simp [tgl]
  | n + 1 => by
    have ih := tgl_mem s t n
    cases h : s.on n with
    | true =>
      rw [tgl_on h, List.mem_append, ih, List.mem_singleton]
      constructor
      · rintro (⟨f, h1, h2⟩ | rfl)
        · exact ⟨f, by omega, h2⟩
        · exact ⟨n, by omega, h, rfl⟩
      · rintro ⟨f, h1, h2, h3⟩
        by_cases e : f = n
        · subst e; exact .inr h3
        · exact .inl ⟨f, by omega, h2, h3⟩
    | false =>
      rw [tgl_off h, ih]
      constructor
      · rintro ⟨f, h1, h2⟩; exact ⟨f, by omega, h2⟩
      · rintro ⟨f, h1, h2, h3⟩
        by_cases e : f = n
        · subst e; rw [h] at h2; cases h2
        · exact ⟨f, by omega, h2, h3⟩
theorem tgl_up (s : Sf) : ∀ n, UpF (tgl s n)
  | 0 => List.Pairwise.nil
  | n + 1 => by
    have ih := tgl_up s n
    rw [tgl]; split
    · refine up_split.2 ⟨ih, List.pairwise_singleton _ _, fun a ha b hb => ?_⟩
      obtain ⟨f, h1, _, rfl⟩ := (tgl_mem s a n).1 ha
      rw [List.mem_singleton] at hb; subst hb
      simp only [Sf.tag]; omega
    · exact ih
theorem tgl_rep (s : Sf) : RepL (tgl s 32) s := ⟨tgl_up s 32, fun t => tgl_mem s t 32⟩
set_option maxRecDepth 100000 in
set_option maxHeartbeats 2000000 in
theorem pstags_any {T : Nat → Prop} {R : Nat} {s : Sf} {w : World} (h : PsO T R s w) : Calls Try.prog 24 #[.pointer (some ⟨R, 0, none⟩)] w (GotT (tgl s 32) w) := by
  obtain ⟨_, _, _, a, o, _, _, hw⟩ := h
  obtain ⟨_, c1, _, _, _, _⟩ := hw.cells
  have HW := Lib.hid hw
  have hRl := hw.lts.1
  clear hw
  unfold GotT
  go_enter Try.func24, Try.ntmps24
  go_wp2_with fail
  go_loopw [3, 7] (fun s3 s7 wr => ∃ (k m : Nat) (A' : Option Addr) (c' : Nat), k ≤ 32 ∧ s7 = .int .i64 k ∧ s3 = .slice A' m c' ∧ m ≤ k ∧ Hid (m = (tgl s k).length) ∧ Hid (wr.ownsRow w.heap.size 52 3 (.slice A' m c') m (srs csT (tgl s k))) ∧ Hid (Below w.heap.size w wr)) (fun _ s7 _ => 32 - (intOf s7).toNat)
  case atStart => exact ⟨0, 0, none, 0, by omega, rfl, rfl, Nat.le_refl _, Lib.hid rfl, Lib.hid (World.ownsRow_nil _ _ _ _), Lib.hid (Below.refl _ _)⟩
  case round =>
    obtain ⟨k, m, A', c', hk, rfl, rfl, hmk, HM, HR, HB⟩ := hrel
    have hws := HB.out.size
    have d1 := (HB.out.cell (p := ⟨R, 1, none⟩) hRl).trans c1
    by_cases hlt : k < 32
    · have hact := (HW.out.later HB.out).act
      cases ho : s.on k
      · have hl := act_look_no hact (k := k) (by omega) (by rw [here_is hlt, ho])
        have e1 := tgl_off ho
        have hHM : Hid (m = (tgl s (k + 1)).length) := Lib.hid (by rw [e1]; exact HM.out)
        have hHR : Hid ((wr.alloc (.cells #[.int .i64 0, .int .i64 0, .int .i64 0] 52)).ownsRow w.heap.size 52 3 (.slice A' m c') m (srs csT (tgl s (k + 1)))) := Lib.hid (by rw [e1]; exact HR.out.alloc _)
        have hHB := Lib.hid (HB.out.alloc hws (.cells #[.int .i64 0, .int .i64 0, .int .i64 0] 52))
        clear e1 HM HR HB hact ho
        go_wp2
        go_roundw
        case rel => exact ⟨k + 1, m, A', c', by omega, by go_num, rfl, by omega, hHM, hHR, hHB⟩
        case measure => simp [intOf]; omega
      · have hl := act_look hact hlt ho
        have e1 := tgl_on ho
        obtain ⟨x, hx⟩ : ∃ x, s.wt k = x := ⟨_, rfl⟩
        obtain ⟨y, hy⟩ : ∃ y, s.st k = y := ⟨_, rfl⟩
        have et : s.tag k = ⟨k, x, y⟩ := by unfold Sf.tag; rw [hx, hy]
        rw [hx, hy] at hl
        have hHM : Hid (m + 1 = (tgl s (k + 1)).length) := Lib.hid (by rw [e1, List.length_append, ← HM.out]; rfl)
        have ho1 := (HR.out.alloc (.cells #[.int .i64 k, .int .i64 x, .int .i64 y] 52)).alloc (.cells #[.int .i64 k, .int .i64 x, .int .i64 y] 52)
        obtain ⟨v2, w2, hrun, own2, grw2, _⟩ := run_append_one (P := Try.prog) 49 49 Try.underlying49 info_tg rfl (by decide) ho1 ⟨(wr.alloc (.cells #[.int .i64 k, .int .i64 x, .int .i64 y] 52)).heap.size, 0, none⟩ (csT_len ⟨k, x, y⟩) (newCells (wr.alloc (.cells #[.int .i64 k, .int .i64 x, .int .i64 y] 52)) (csT ⟨k, x, y⟩) 52) (csT_one _) (by omega) (by decide) (by simp; omega)
        obtain ⟨A2, c2', rfl⟩ := ow_shape own2
        have hB2 : Below w.heap.size w w2 := below_grew ((HB.out.alloc hws _).alloc (by simp; omega) _) (Nat.le_refl _) grw2 (fun k hk => by have := row_own ho1 k hk; omega)
        have HHR := Lib.hid (show w2.ownsRow w.heap.size 52 3 (.slice A2 (m + 1) c2') (m + 1) (srs csT (tgl s (k + 1))) by rw [e1, et, srs_snoc]; exact own2)
        have HB2 := Lib.hid hB2
        rw [World.size_alloc] at hrun
        clear e1 et hx hy HM HR HB hact ho own2 grw2 ho1 hB2
        go_wp2_with (at_builtin; go_loud (refine wpList_append_run rfl (.tmp 20) (.tmp 22) 49 rfl rfl rfl hrun ?_))
        go_roundw
        case rel => exact ⟨k + 1, m + 1, A2, c2', by omega, by go_num, rfl, by omega, hHM, HHR, HB2⟩
        case measure => simp [intOf]; omega
    · obtain rfl : k = 32 := by omega
      have hm := HM.out
      have hro := HR.out
      have HF := Lib.hid (show ∃ A c, Ending.returned (.slice A' m c') = .returned (.slice A (tgl s 32).length c) ∧ SrAt csT 3 wr w.heap.size wr.heap.size A (tgl s 32) ∧ Below w.heap.size w wr from ⟨A', c', by rw [hm], SrAt.own csT_len hro hm, HB.out⟩)
      clear hm hro HM HR HB
      go_wp2
      go_ret
      exact HF.out
theorem pistag_any (t : Tg) (w : World) : Calls Try.prog 36 #[aggT t] w (Calm (.bool (vaB [t])) w) := by
  obtain ⟨f, x, y⟩ := t
  have hw : Whole (((w.alloc (.cells #[.int .i64 f, .int .i64 x, .int .i64 y] 52))).alloc (.cells #[.int .i64 f, .int .i64 x, .int .i64 y] 52)) (w.heap.size + 1) 52 #[.int .i64 f, .int .i64 x, .int .i64 y] := by
    have := Whole.fresh (w.alloc (.cells #[.int .i64 f, .int .i64 x, .int .i64 y] 52)) 52 #[.int .i64 f, .int .i64 x, .int .i64 y]
    simpa using this
  have ha := SrAt.whole3 (M := [(⟨f, x, y⟩ : Tg)]) (B := 0) hw (Nat.zero_le _)
  have HV := validT_any _ 1 [(⟨f, x, y⟩ : Tg)] 0 _ _ (Nat.le_refl _) (by simp) ha
  have HB := Lib.hid (((Below.refl w.heap.size w).alloc (Nat.le_refl _) (.cells #[.int .i64 f, .int .i64 x, .int .i64 y] 52)).alloc (by simp) (.cells #[.int .i64 f, .int .i64 x, .int .i64 y] 52))
  obtain ⟨v, hv⟩ : ∃ v, vaB [(⟨f, x, y⟩ : Tg)] = v := ⟨_, rfl⟩
  rw [hv, show [(⟨f, x, y⟩ : Tg)].length = 1 from rfl] at HV
  rw [hv]
  unfold Calm at HV ⊢
  have HV := Lib.hid HV
  unfold aggT
  clear hv ha hw
  go_enter Try.func36, Try.ntmps36
  go_wp2_with fail
  (with_reducible refine HV.out.mono ?_); rintro e w' ⟨rfl, hb⟩
  have HF := Lib.hid (HB.out.trans (hb.mono (by simp; omega)))
  clear hb
  go_wp2
  go_ret
  exact ⟨rfl, HF.out⟩
theorem ps_least {s : Sf} (hs : SfOk s) {n : Nat} (hn : s.Sel n) : ∃ m, ∃ hm : m < (tgl s 32).length, ltI (tgl s 32) = (m : Int) ∧ (tgl s 32)[m] = s.tag n := by
  have h := tgl_rep s
  obtain ⟨i, hi, _⟩ := h.place hn.1 hn.2.1
  have h0 : 0 < (tgl s 32).length := by omega
  obtain ⟨f, hf, hk, e⟩ := h.least h0
  have := hf.only hn
  subst this
  exact ⟨_, hk, lt_yes (h.valid hs.wt hs.st) h0, e⟩
set_option maxHeartbeats 1000000 in
theorem psleast_any {T : Nat → Prop} {R : Nat} {s : Sf} {w : World} (h : PsO T R s w) {n : Nat} (hn : s.Sel n) : Calls Try.prog 37 #[.pointer (some ⟨R, 0, none⟩)] w (Calm (aggT (s.tag n)) w) := by
  have HT := pstags_any (h.below ((Below.refl w.heap.size w).alloc (Nat.le_refl _) (.cells #[.int .i64 0, .int .i64 0, .int .i64 0] 52)))
  unfold GotT at HT
  have HT := Lib.hid HT
  obtain ⟨m, hm, e1, e2⟩ := ps_least h.ok hn
  have hm' : (m : Int) < (tgl s 32).length := by omega
  have hle := tgl_le s 32
  have HB0 := Lib.hid ((Below.refl w.heap.size w).alloc (Nat.le_refl _) (.cells #[.int .i64 0, .int .i64 0, .int .i64 0] 52))
  have hWH := Lib.hid (Whole.fresh w 52 #[.int .i64 0, .int .i64 0, .int .i64 0])
  have HL := Lib.hid (fun (A : Option Addr) (c : Nat) (W : World) (B : Nat) (ha : SrAt csT 3 W B W.heap.size A (tgl s 32)) => leastT_any A c (tgl s 32) B _ W (Nat.le_refl _) (by omega) ha)
  have HTG := Lib.hid (fun (A : Option Addr) (W : World) (B : Nat) (ha : SrAt csT 3 W B W.heap.size A (tgl s 32)) => ha.tg hm)
  rw [e1] at HL
  rw [e2] at HTG
  unfold Calm at HL ⊢
  unfold aggT
  simp only [Sf.tag] at HTG ⊢
  obtain ⟨N, hN⟩ : ∃ N, (tgl s 32).length = N := ⟨_, rfl⟩
  rw [hN] at HT HL hm' hle
  clear hN e1 e2 hm h hn
  go_enter Try.func37, Try.ntmps37
  go_wp2_with fail
  (with_reducible refine HT.out.mono ?_); rintro e w1 ⟨A, c, rfl, ha, hb⟩
  have HL2 := Lib.hid (HL.out A c w1 _ ha)
  obtain ⟨b, off, rfl, _, hbw, d0, d1, d2⟩ := HTG.out A w1 _ ha
  have HB1 := Lib.hid (HB0.out.trans (hb.mono (by simp)))
  have hW1 := hWH.out.later (w' := w1) (hb.mono (by simp))
  have hz1 := hb.size
  have hne : w.heap.size ≠ b := by
    have := (HTG.out (some ⟨b, off, none⟩) w1 _ ha)
    obtain ⟨b', off', e, h1, _⟩ := this
    simp only [Option.some.injEq, Addr.mk.injEq] at e
    obtain ⟨rfl, _⟩ := e
    simp at h1; omega
  clear HL HTG HT hb ha
  go_wp2_with fail
  (with_reducible refine HL2.out.mono ?_); rintro e w2 ⟨rfl, hb⟩
  have c0 := (hb.cell (p := ⟨b, off + m * 3, none⟩) hbw).trans d0
  have c1 := (hb.cell (p := ⟨b, off + m * 3 + 1, none⟩) hbw).trans d1
  have c2 := (hb.cell (p := ⟨b, off + m * 3 + 2, none⟩) hbw).trans d2
  have hW2 := hW1.later hb
  have f0 := hW2.free
  have y0 := hW2.read 0
  have y1 := hW2.read 1
  have y2 := hW2.read 2
  simp at y0 y1 y2
  have hlt2 := hW2.size_lt
  have HF := Lib.hid ((((HB1.out.trans (hb.mono (by simp at hz1; omega))).setCell (p := ⟨w.heap.size, 0, none⟩) (Nat.le_refl _) (.int .i64 n)).setCell (p := ⟨w.heap.size, 1, none⟩) (Nat.le_refl _) (.int .i64 (s.wt n))).setCell (p := ⟨w.heap.size, 2, none⟩) (Nat.le_refl _) (.int .i64 (s.st n)))
  have HW3 := Lib.hid (((hW2.put 0 (.int .i64 n)).put 1 (.int .i64 (s.wt n))).put 2 (.int .i64 (s.st n)))
  clear hb d0 d1 d2 HB1 HB0 HL2 hW1 hW2 hWH
  go_wp2
  have hW3 := HW3.out
  have z0 := hW3.read 0
  have z1 := hW3.read 1
  have z2 := hW3.read 2
  simp at z0 z1 z2
  have HF2 := HF.out
  clear HF HW3 hW3
  generalize ((w2.setCell ⟨w.heap.size, 0, none⟩ (.int .i64 n)).setCell ⟨w.heap.size, 1, none⟩ (.int .i64 (s.wt n))).setCell ⟨w.heap.size, 2, none⟩ (.int .i64 (s.st n)) = w3 at *
  exact bodyPost_ret (v := .agg #[.int .i64 n, .int .i64 (s.wt n), .int .i64 (s.st n)]) (by simp [results, Try.results37, go_sem, z0, z1, z2]) rfl ⟨rfl, HF2⟩
theorem fld_flow (x y z : Int) (w : World) : (Instr.field 52 (.agg #[.int .i64 x, .int .i64 y, .int .i64 z]) 0).run Try.prog w = .ok (.int .i64 x) w := by kernel_rfl
theorem fld_start (x y z : Int) (w : World) : (Instr.field 52 (.agg #[.int .i64 x, .int .i64 y, .int .i64 z]) 2).run Try.prog w = .ok (.int .i64 z) w := by kernel_rfl
set_option maxRecDepth 100000 in
set_option maxHeartbeats 1000000 in
theorem psselect_any {T : Nat → Prop} {R : Nat} {s : Sf} {w : World} (h : PsO T R s w) {f g : Int} (ha : SelA s f g) :
    Calls Try.prog 20 #[.pointer (some ⟨R, 0, none⟩)] w (Calm (.tuple #[.int .i64 f, .int .i64 g]) w) := by
  have h' := h
  obtain ⟨hs, _, _, a, o, _, _, hw⟩ := h
  obtain ⟨_, c1, _, _, _, _⟩ := hw.cells
  obtain ⟨N, hlen, hN, hz⟩ := hw.act.len (P := Try.prog) (T := 58) (K := 3) (E := 52) Try.underlying58 3
  rw [act_idle] at hz
  unfold Calm
  rcases ha with ⟨hi, rfl, rfl⟩ | ⟨n, hn, rfl, rfl⟩
  · have h0 := hz.2 hi
    subst h0
    rw [show ((0 : Nat) : Int) = 0 from rfl] at hlen
    have HB := Lib.hid (Below.refl w.heap.size w)
    clear hz hw hs h' hi
    go_enter Try.func20, Try.ntmps20
    go_wp2
    exact bodyPost_ret (v := .tuple #[.int .i64 0, .int .i64 5]) (by simp [results, Try.results20, go_sem]) rfl ⟨rfl, HB.out⟩
  · have h0 : N ≠ 0 := fun e => by
      have := (hz.1 e) n hn.1
      rw [hn.2.1] at this; cases this
    have hb : ((N : Int) == 0) = false := by simpa using h0
    have HL := psleast_any h' hn
    unfold Calm aggT at HL
    simp only [Sf.tag] at HL
    have HL := Lib.hid HL
    have hfd := fld_flow n (s.wt n) (s.st n)
    clear hz hw hs h' hn h0
    go_enter Try.func20, Try.ntmps20
    go_wp2_with fail
    (with_reducible refine HL.out.mono ?_); rintro e w' ⟨rfl, hb⟩
    have HB := Lib.hid hb
    clear hb
    go_wp2
    go_ret2
    exact ⟨rfl, HB.out⟩
end Go.Proofs.Ytkfhjpgapmfiaaa

