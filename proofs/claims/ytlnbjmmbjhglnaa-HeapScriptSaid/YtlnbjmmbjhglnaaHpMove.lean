/-
  Layer 4: contracts of the heap's own moves: rise, sink, settle.
-/
import Derived.Test.YtlnbjmmbjhglnaaHpOps
import Derived.Deep.LoopGhost
namespace Go.Proofs.Ytlnbjmmbjhglnaa
open Go.ChangeShapes Go.WideShapes Go.ChangeAt Go.RowKit
set_option linter.unusedVariables false

/-- A heap's memory in w that holds M; since w0 no old block but the heap's own has turned. -/
def St (C H PB : Nat) (v : Value) (cap n : Nat) (M : Int → Option Int) (w0 w : World) (E : Nat → Int × Int) (P : Nat → Int) : Prop :=
  HeapW w C H PB v cap n E P ∧ PosOk E n P ∧ Cont E n M ∧ Chg (foot H PB v) w0 w
theorem St.below {C H PB cap n : Nat} {v : Value} {M : Int → Option Int} {w0 w w' : World} {E : Nat → Int × Int} {P : Nat → Int} (h : St C H PB v cap n M w0 w E P) (hb : Below w.heap.size w w') : St C H PB v cap n M w0 w' E P :=
  ⟨h.1.below hb, h.2.1, h.2.2.1, h.2.2.2.trans (Chg.of_below hb)⟩
theorem St.swapped {C H PB cap n : Nat} {v : Value} {M : Int → Option Int} {w0 w w' : World} {E : Nat → Int × Int} {P : Nat → Int} (h : St C H PB v cap n M w0 w E P) {i k : Nat} (hi : i < n) (hk : k < n)
    (h1 : HeapW w' C H PB v cap n (sw E i k) (up1 (up1 P (E k).1.toNat i) (E i).1.toNat k)) (h2 : Chg (foot H PB v) w w') : St C H PB v cap n M w0 w' (sw E i k) (up1 (up1 P (E k).1.toNat i) (E i).1.toNat k) :=
  ⟨h1, h.2.1.swap_ hi hk, h.2.2.1.swap_ hi hk, h.2.2.2.trans h2⟩
def RoseTo (C H PB : Nat) (v : Value) (cap n : Nat) (M : Int → Option Int) (K0 : Prop) (w0 : World) (e : Ending) (w' : World) : Prop :=
  ∃ (i : Nat) (E : Nat → Int × Int) (P : Nat → Int), e = .returned (.int .i64 i) ∧ i < n ∧ St C H PB v cap n M w0 w' E P ∧ Exc E n i ∧ Up E i ∧ (K0 → Kids E n i)
set_option maxHeartbeats 2000000 in
theorem rise_any {w0 w : World} {C H PB cap n : Nat} {v : Value} {M : Int → Option Int} {E : Nat → Int × Int} {P : Nat → Int} (h : St C H PB v cap n M w0 w E P) {i : Nat} (hi : i < n) (hx : Exc E n i) (K0 : Prop) (hk0 : K0 → Kids E n i) :
    Calls Try.prog 36 #[.pointer (some ⟨H, 0, none⟩), .int .i64 i] w (RoseTo C H PB v cap n M K0 w0) := by
  have hn4 : n ≤ 4096 := by have := h.1.len; omega
  have H0 := Lib.hid h
  have HX := Lib.hid hx
  have HK := Lib.hid hk0
  clear h hx hk0
  go_enter Try.func36, Try.ntmps36
  go_wp2_with fail
  go_loopw [1] (fun s wr => ∃ (j : Nat) (E : Nat → Int × Int) (P : Nat → Int), s = .int .i64 j ∧ j < n ∧ St C H PB v cap n M w0 wr E P ∧ Exc E n j ∧ (K0 → Kids E n j)) (fun s _ => (intOf s).toNat)
  case atStart => exact ⟨i, E, P, rfl, hi, H0.out, HX.out, HK.out⟩
  case round =>
    obtain ⟨j, E1, P1, rfl, hj, hs, hx, hk⟩ := hrel
    clear H0 HX HK hi
    have HS := Lib.hid hs
    have HX := Lib.hid hx
    have HK := Lib.hid hk
    clear hs hx hk
    by_cases h0 : 0 < j
    · have hp1 : (j - 1) / 2 < j := by omega
      have ep : ((j : Int) - 1) / 2 = (((j - 1) / 2 : Nat) : Int) := by omega
      have HB := before_any HS.out.1 hj (show (j - 1) / 2 < n by omega)
      by_cases hl : lt2 (E1 j) (E1 ((j - 1) / 2))
      · rw [decide_eq_true hl] at HB
        have HR := Lib.hid (rise_step HX.out h0 hj hl)
        have HW := Lib.hid (fun (W : World) (hb : Below wr.heap.size wr W) => swap_any (HS.out.1.below hb) HS.out.2.1 hj (show (j - 1) / 2 < n by omega))
        generalize (j - 1) / 2 = p at *
        have HB' := Lib.hid HB
        clear HB hl
        go_wp2_with fail
        (with_reducible refine HB'.out.mono ?_)
        rintro e w1 ⟨rfl, hb1⟩
        have HW' := Lib.hid (HW.out _ hb1)
        have HS' := Lib.hid (HS.out.below hb1)
        clear HW HS hb1
        go_wp2_with fail
        (with_reducible refine HW'.out.mono ?_)
        rintro e w2 ⟨rfl, hw2, hc2⟩
        have HS2 := Lib.hid (HS'.out.swapped hj (by omega) hw2 hc2)
        clear hw2 hc2 HS' HW'
        go_wp2
        go_roundw
        case rel => exact ⟨p, _, _, rfl, by omega, HS2.out, HR.out.1, fun _ => HR.out.2⟩
        case measure => simp [intOf]; omega
      · rw [decide_eq_false hl] at HB
        have HB' := Lib.hid HB
        have HF := Lib.hid (fun (W : World) (hb : Below wr.heap.size wr W) => (⟨j, E1, P1, rfl, hj, HS.out.below hb, HX.out, fun _ => le2_of_not hl, HK.out⟩ : RoseTo C H PB v cap n M K0 w0 (.returned (.int .i64 j)) W))
        generalize (j - 1) / 2 = p at *
        clear HB hl HS HX HK
        go_wp2_with fail
        (with_reducible refine HB'.out.mono ?_)
        rintro e w1 ⟨rfl, hb1⟩
        go_wp2
        go_ret
        exact HF.out _ hb1
    · obtain rfl : j = 0 := by omega
      have HF := Lib.hid (⟨0, E1, P1, rfl, hj, HS.out, HX.out, fun h => by omega, HK.out⟩ : RoseTo C H PB v cap n M K0 w0 (.returned (.int .i64 (0 : Nat))) wr)
      clear HS HX HK
      go_wp2
      go_ret
      exact HF.out
def SankTo (C H PB : Nat) (v : Value) (cap n : Nat) (M : Int → Option Int) (w0 : World) (e : Ending) (w' : World) : Prop :=
  ∃ (E : Nat → Int × Int) (P : Nat → Int), e = .returned (.tuple #[]) ∧ St C H PB v cap n M w0 w' E P ∧ Hp E n
/-- What the search for the first of an entry and its children knows behind the children before d. -/
def Seek (E : Nat → Int × Int) (n j f d : Nat) : Prop :=
  f < n ∧ 2 * j + 1 ≤ d ∧ d ≤ 2 * j + 3 ∧ (f = j ∨ (2 * j + 1 ≤ f ∧ f < d ∧ lt2 (E f) (E j))) ∧ le2 (E f) (E j) ∧ ∀ c, 2 * j + 1 ≤ c → c < d → c < n → le2 (E f) (E c)
theorem Seek.start {E : Nat → Int × Int} {n j : Nat} (hj : j < n) : Seek E n j j (2 * j + 1) := ⟨hj, by omega, by omega, .inl rfl, le2_refl _, fun c h1 h2 => by omega⟩
theorem Seek.take {E : Nat → Int × Int} {n j f d : Nat} (h : Seek E n j f d) (hd : d ≤ 2 * j + 2) (hn : d < n) (hl : lt2 (E d) (E f)) : Seek E n j d (d + 1) := by
  obtain ⟨h1, h2, h3, h4, h5, h6⟩ := h
  refine ⟨hn, by omega, by omega, .inr ⟨h2, by omega, lt2_le hl h5⟩, le2_trans (le2_of_lt hl) h5, fun c c1 c2 c3 => ?_⟩
  rcases (by omega : c = d ∨ c < d) with rfl | h
  · exact le2_refl _
  · exact le2_trans (le2_of_lt hl) (h6 c c1 h c3)
theorem Seek.leave {E : Nat → Int × Int} {n j f d : Nat} (h : Seek E n j f d) (hd : d ≤ 2 * j + 2) (hl : ¬ lt2 (E d) (E f)) : Seek E n j f (d + 1) := by
  obtain ⟨h1, h2, h3, h4, h5, h6⟩ := h
  refine ⟨h1, by omega, by omega, ?_, h5, fun c c1 c2 c3 => ?_⟩
  · rcases h4 with h | ⟨a, b, c⟩
    · exact .inl h
    · exact .inr ⟨a, by omega, c⟩
  · rcases (by omega : c = d ∨ c < d) with rfl | h
    · exact le2_of_not hl
    · exact h6 c c1 h c3
theorem Seek.done {E : Nat → Int × Int} {n j f d : Nat} (h : Seek E n j f d) (hd : d = 2 * j + 3 ∨ n ≤ d) : ∀ c, 0 < c → c < n → (c - 1) / 2 = j → le2 (E f) (E c) := by
  obtain ⟨h1, h2, h3, h4, h5, h6⟩ := h
  intro c c0 cn cj
  exact h6 c (by omega) (by omega) cn
theorem mul2_lt {n j : Nat} (hn : n ≤ 4096) (hj : j < n) : IntKind.i64.wrap (2 * (j : Int)) = 2 * (j : Int) := IntWalk.i64_in _ (by omega)
set_option maxRecDepth 100000 in
set_option maxHeartbeats 4000000 in
theorem sink_any {w0 w : World} {C H PB cap n : Nat} {v : Value} {M : Int → Option Int} {E : Nat → Int × Int} {P : Nat → Int} (h : St C H PB v cap n M w0 w E P) {i : Nat} (hi : i < n) (hx : Exc E n i) (hu : Up E i) :
    Calls Try.prog 48 #[.pointer (some ⟨H, 0, none⟩), .int .i64 i] w (SankTo C H PB v cap n M w0) := by
  have hn4 : n ≤ 4096 := by have := h.1.len; omega
  have H0 := Lib.hid h
  have HX := Lib.hid hx
  have HU := Lib.hid hu
  clear h hx hu
  go_enter Try.func48, Try.ntmps48
  go_wp2_with fail
  go_loopw [1] (fun s wr => ∃ (j : Nat) (E : Nat → Int × Int) (P : Nat → Int), s = .int .i64 j ∧ j < n ∧ St C H PB v cap n M w0 wr E P ∧ Exc E n j ∧ Up E j) (fun s _ => n - (intOf s).toNat)
  case atStart => exact ⟨i, E, P, rfl, hi, H0.out, HX.out, HU.out⟩
  case round =>
    obtain ⟨wo, rfl⟩ : ∃ wo : World, wo = wr := ⟨_, rfl⟩
    obtain ⟨j, E1, P1, rfl, hj, hs, hx, hu⟩ := hrel
    clear H0 HX HU hi
    obtain ⟨_, c1, _, _⟩ := hs.1.cells
    obtain ⟨A, c, rfl⟩ := hs.1.ents.shape
    have hlt := (hs.1.lt H (.inl rfl)).2
    have HS := Lib.hid hs
    have HX := Lib.hid hx
    have HU := Lib.hid hu
    clear hs hx hu
    go_wp2_with fail
    go_loopw [4, 5] (fun f c wr => ∃ (q d : Nat), f = .int .i64 q ∧ c = .int .i64 d ∧ Hid (Seek E1 n j q d) ∧ Below wo.heap.size wo wr) (fun _ c _ => 2 * j + 3 - (intOf c).toNat)
    case atStart => exact ⟨j, 2 * j + 1, rfl, by go_num, Lib.hid (Seek.start hj), Below.refl _ _⟩
    case round =>
      obtain ⟨q, d, rfl, rfl, hq, hb⟩ := hrel
      have hq1 : q < n := hq.out.1
      have hd1 : 2 * j + 1 ≤ d := hq.out.2.1
      have hd2 : d ≤ 2 * j + 3 := hq.out.2.2.1
      have c1r : wr.cell? ⟨H, 1, none⟩ = some (.slice A n c) := (hb.cell (p := ⟨H, 1, none⟩) hlt).trans c1
      have HS1 := Lib.hid (HS.out.below hb)
      have HBB := Lib.hid hb
      clear c1 HS
      by_cases h1 : d ≤ 2 * j + 2
      · have h1' : (d : Int) ≤ 2 * (j : Int) + 2 := by omega
        by_cases h2 : d < n
        · have h2' : (d : Int) < (n : Int) := by omega
          have HB := before_any HS1.out.1 h2 hq1
          by_cases hl : lt2 (E1 d) (E1 q)
          · rw [decide_eq_true hl] at HB
            have HB' := Lib.hid HB
            have HQ := Lib.hid (hq.out.take h1 h2 hl)
            clear HB hl hq HS1 HX HU hb
            go_wp2_with fail
            (with_reducible refine HB'.out.mono ?_)
            rintro e w1 ⟨rfl, hb1⟩
            have HB1 := Lib.hid (HBB.out.trans (hb1.mono HBB.out.size))
            clear hb1
            go_wp2
            go_roundw
            case rel => exact ⟨d, d + 1, rfl, by go_num, HQ, HB1.out⟩
            case measure => simp [intOf]; omega
          · rw [decide_eq_false hl] at HB
            have HB' := Lib.hid HB
            have HQ := Lib.hid (hq.out.leave h1 hl)
            clear HB hl hq HS1 HX HU hb
            go_wp2_with fail
            (with_reducible refine HB'.out.mono ?_)
            rintro e w1 ⟨rfl, hb1⟩
            have HB1 := Lib.hid (HBB.out.trans (hb1.mono HBB.out.size))
            clear hb1
            go_wp2
            go_roundw
            case rel => exact ⟨q, d + 1, rfl, by go_num, HQ, HB1.out⟩
            case measure => simp [intOf]; omega
        · have h2' : (n : Int) ≤ (d : Int) := by omega
          have HQ := hq.out.done (.inr (by omega))
          have HQ4 := hq.out.2.2.2.1
          by_cases hqj : q = j
          · subst hqj
            have HF : Hid (SankTo C H PB (.slice A n c) cap n M w0 (.returned (.tuple #[])) wr) := Lib.hid (show SankTo C H PB (.slice A n c) cap n M w0 (.returned (.tuple #[])) wr from ⟨E1, P1, rfl, HS1.out, hp_of HX.out HU.out HQ⟩)
            have ht : ((q : Int) == (q : Int)) = true := by simp
            clear HQ HQ4 hq HS1 HX HU hb HBB
            go_wp2
            go_end0
            exact HF.out
          · have ht : ((q : Int) == (j : Int)) = false := beq_eq_false_iff_ne.2 (by omega)
            have hb1 : 2 * j + 1 ≤ q ∧ q < d ∧ lt2 (E1 q) (E1 j) := by
              rcases HQ4 with h | h
              · exact absurd h hqj
              · exact h
            have hjq : j < q := by omega
            have HR := Lib.hid (sink_step HX.out HU.out (show 0 < q by omega) hq1 (show (q - 1) / 2 = j by omega) hb1.2.2 HQ)
            have HW := Lib.hid (swap_any HS1.out.1 HS1.out.2.1 hj hq1)
            clear HQ HQ4 hq HX HU hb HBB hb1
            go_wp2_with fail
            (with_reducible refine HW.out.mono ?_)
            rintro e w2 ⟨rfl, hw2, hc2⟩
            have HS2 := Lib.hid (HS1.out.swapped hj hq1 hw2 hc2)
            clear hw2 hc2 HS1 HW
            go_wp2
            go_roundw
            case rel => exact ⟨q, _, _, rfl, hq1, HS2.out, HR.out.1, HR.out.2⟩
            case measure => simp [intOf]; omega
      · have h1' : 2 * (j : Int) + 2 < (d : Int) := by omega
        have HQ := hq.out.done (.inl (by omega))
        have HQ4 := hq.out.2.2.2.1
        by_cases hqj : q = j
        · subst hqj
          have HF : Hid (SankTo C H PB (.slice A n c) cap n M w0 (.returned (.tuple #[])) wr) := Lib.hid (show SankTo C H PB (.slice A n c) cap n M w0 (.returned (.tuple #[])) wr from ⟨E1, P1, rfl, HS1.out, hp_of HX.out HU.out HQ⟩)
          have ht : ((q : Int) == (q : Int)) = true := by simp
          clear HQ HQ4 hq HS1 HX HU hb HBB
          go_wp2
          go_end0
          exact HF.out
        · have ht : ((q : Int) == (j : Int)) = false := beq_eq_false_iff_ne.2 (by omega)
          have hb1 : 2 * j + 1 ≤ q ∧ q < d ∧ lt2 (E1 q) (E1 j) := by
            rcases HQ4 with h | h
            · exact absurd h hqj
            · exact h
          have hjq : j < q := by omega
          have HR := Lib.hid (sink_step HX.out HU.out (show 0 < q by omega) hq1 (show (q - 1) / 2 = j by omega) hb1.2.2 HQ)
          have HW := Lib.hid (swap_any HS1.out.1 HS1.out.2.1 hj hq1)
          clear HQ HQ4 hq HX HU hb HBB hb1
          go_wp2_with fail
          (with_reducible refine HW.out.mono ?_)
          rintro e w2 ⟨rfl, hw2, hc2⟩
          have HS2 := Lib.hid (HS1.out.swapped hj hq1 hw2 hc2)
          clear hw2 hc2 HS1 HW
          go_wp2
          go_roundw
          case rel => exact ⟨q, _, _, rfl, hq1, HS2.out, HR.out.1, HR.out.2⟩
          case measure => simp [intOf]; omega
set_option maxHeartbeats 1000000 in
theorem settle_any {w0 w : World} {C H PB cap n : Nat} {v : Value} {M : Int → Option Int} {E : Nat → Int × Int} {P : Nat → Int} (h : St C H PB v cap n M w0 w E P) {i : Nat} (hi : i < n) (hx : Exc E n i) :
    Calls Try.prog 37 #[.pointer (some ⟨H, 0, none⟩), .int .i64 i] w (SankTo C H PB v cap n M w0) := by
  have HR := Lib.hid (rise_any h hi hx False (fun h => h.elim))
  clear h hx
  go_enter Try.func37, Try.ntmps37
  go_wp2_with fail
  (with_reducible refine HR.out.mono ?_)
  rintro e w1 ⟨j, E1, P1, rfl, hj, hs, hx1, hu1, _⟩
  have HS := Lib.hid (sink_any hs hj hx1 hu1)
  clear hs hx1 hu1
  go_wp2_with fail
  (with_reducible refine HS.out.mono ?_)
  rintro e w2 ⟨E2, P2, rfl, hs2, hp2⟩
  go_wp2
  go_end0
  exact ⟨E2, P2, rfl, hs2, hp2⟩
end Go.Proofs.Ytlnbjmmbjhglnaa
