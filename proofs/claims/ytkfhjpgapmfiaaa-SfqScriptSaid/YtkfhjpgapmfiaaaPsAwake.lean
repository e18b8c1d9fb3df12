/-
  Layer 13's law: awake.
-/
import Derived.Test.YtkfhjpgapmfiaaaPsHelp
namespace Go.Proofs.Ytkfhjpgapmfiaaa
open Go.ChangeShapes Go.WideShapes Go.ChangeAt Go.RowKit
set_option linter.unusedVariables false

/-- A row beside. -/
def XK (X : (Nat → Prop) → World → Prop) (b : Nat) (t : TypeId) (cs : Array Value) (T : Nat → Prop) (w : World) : Prop := X T w ∧ Whole w b t cs ∧ ¬ T b
theorem XK.kx {X : (Nat → Prop) → World → Prop} {b : Nat} {t : TypeId} {cs : Array Value} (h : Kx X) : Kx (XK X b t cs) := by
  intro T T' w w' hT hx hc ht
  refine ⟨h T T' w w' hT hx.1 hc ht, hx.2.1.carry (hc.block b hx.2.1.size_lt hx.2.2), fun e => ?_⟩
  rcases ht b e with h1 | h1
  · exact hx.2.2 h1
  · have := hx.2.1.size_lt; omega
theorem SO.row {X : (Nat → Prop) → World → Prop} {R : Nat} {s : Sf} {w : World} (hX : Kx X) (h : SO X R s w) (t : TypeId) (cs : Array Value) : SO (XK X w.heap.size t cs) R s (w.alloc (.cells cs t)) := by
  obtain ⟨T, h1, h2⟩ := h
  have hb := (Below.refl w.heap.size w).alloc (Nat.le_refl _) (.cells cs t)
  exact ⟨T, h1.below hb, hX T T w _ h1.lt h2 (Chg.of_below hb) (fun k hk => .inl hk), Whole.fresh w t cs, fun e => by have := h1.lt _ e; omega⟩
theorem SO.rowAt {X : (Nat → Prop) → World → Prop} {R b : Nat} {s : Sf} {w : World} {t : TypeId} {cs : Array Value} (h : SO (XK X b t cs) R s w) : Whole w b t cs := by obtain ⟨T, _, _, h2, _⟩ := h; exact h2
theorem SO.norow {X : (Nat → Prop) → World → Prop} {R b : Nat} {s : Sf} {w : World} {t : TypeId} {cs : Array Value} (h : SO (XK X b t cs) R s w) : SO X R s w := by obtain ⟨T, h1, h2, _⟩ := h; exact ⟨T, h1, h2⟩
def awR : Array Value := #[.int .i64 0, .int .i64 1, .int .i64 1, .int .i64 0, .int .i64 1, .int .i64 1]
theorem awR_at {k : Nat} (h : k < 6) : awR[k]? = some (.int .i64 ((awF.getD k 0 : Nat) : Int)) := by
  rcases (by omega : k = 0 ∨ k = 1 ∨ k = 2 ∨ k = 3 ∨ k = 4 ∨ k = 5) with rfl | rfl | rfl | rfl | rfl | rfl <;> rfl
set_option maxRecDepth 100000 in
set_option maxHeartbeats 4000000 in
theorem awake13_any (w : World) : Calls Try.prog 16 #[] w (Calm (.bool true) w) := by
  have HN := Lib.hid (psnew_any (a := 1099511627776) (by omega) w)
  obtain ⟨s0, j1, j2, j3, j4⟩ := aw_joined
  have HJ := Lib.hid (And.intro j1 (And.intro j2 (And.intro j3 j4)))
  unfold Calm
  clear j1 j2 j3 j4
  go_enter Try.func16, Try.ntmps16
  go_wp2_with fail
  (with_reducible refine HN.out.mono ?_); rintro e w1 hnew
  obtain ⟨R, rfl, hso⟩ := SO.newA hnew
  have HC1 := hso.join XA.kx (f := ((0 : Nat) : Int)) (by omega) 1
  rw [HJ.out.1, show ((0 : Nat) : Int) = 0 from rfl] at HC1
  have HC1 := Lib.hid HC1
  clear hnew hso HN
  go_wp2_with fail
  (with_reducible refine HC1.out.mono ?_); rintro e w2 ⟨rfl, hso⟩
  have HC2 := hso.join XA.kx (f := ((1 : Nat) : Int)) (by omega) 2
  rw [show jnT (Sf.new 1099511627776) 0 1 = jnT (Sf.new 1099511627776) ((0 : Nat) : Int) 1 from rfl, HJ.out.2.1, HJ.out.2.2.1, show ((1 : Nat) : Int) = 1 from rfl] at HC2
  have HC2 := Lib.hid HC2
  clear hso HC1
  go_wp2_with fail
  (with_reducible refine HC2.out.mono ?_); rintro e w3 ⟨rfl, hso⟩
  have hrow := hso.row XA.kx 3 awR
  unfold awR at hrow
  have HS := Lib.hid hrow
  have HA := Lib.hid HJ.out.2.2.2
  obtain ⟨b, hb⟩ : ∃ b, w3.heap.size = b := ⟨_, rfl⟩
  clear hso HC2 hrow HJ
  go_wp2_with fail
  rw [hb] at HS
  clear hb
  go_loopw [4] (fun s4 wr => ∃ (k : Nat) (s : Sf), k ≤ 6 ∧ s4 = .int .i64 k ∧ Hid (Aw k s) ∧ Hid (SO (XK (XA w) b 3 #[.int .i64 0, .int .i64 1, .int .i64 1, .int .i64 0, .int .i64 1, .int .i64 1]) R s wr)) (fun s4 _ => 6 - (intOf s4).toNat)
  case atStart => exact ⟨0, s0, by omega, rfl, HA, HS⟩
  case round =>
    obtain ⟨k, s, hk, rfl, HA2, HS2⟩ := hrel
    clear HA HS
    by_cases hlt : k < 6
    · have hsel := aw_sel HA2.out hlt
      have hnx := fun t => aw_next (t := t) HA2.out hlt
      have hcell := HS2.out.rowAt.read k
      have haw := HA2.out.away
      have hff := awR_at hlt
      unfold awR at hff
      rw [hff] at hcell
      obtain ⟨f, hf⟩ : ∃ f, awF.getD k 0 = f := ⟨_, rfl⟩
      rw [hf] at hsel hnx hcell
      have HFE := Lib.hid hf
      have HSL := Lib.hid (HS2.out.select (XK.kx XA.kx) (f := f) (g := 0) (.inr ⟨f, hsel, rfl, rfl⟩))
      have hf32 := hsel.1
      have HNX := Lib.hid hnx
      have hkk : (k : Int) < 6 := by omega
      clear hf hff hsel hnx hcell HA2 HS2
      go_wp2_with fail
      (with_reducible refine HSL.out.mono ?_); rintro e w4 ⟨rfl, hso⟩
      have hcell := hso.rowAt.read k
      have hff := awR_at hlt
      unfold awR at hff
      rw [hff, HFE.out] at hcell
      have HCH := Lib.hid (hso.charge (XK.kx XA.kx) (f := (f : Int)) (by omega) 100 (by omega))
      have hce := (HNX.out s).1
      rw [hce] at HCH
      clear hce hff hso HSL haw
      have hne : ((f : Int) != (f : Int)) = false := by simp
      go_wp2_with fail
      (with_reducible refine HCH.out.mono ?_); rintro e w5 ⟨rfl, t, ht, hso⟩
      have HA3 := Lib.hid ((HNX.out t).2 ht)
      have HS3 := Lib.hid hso
      clear ht hso HCH HNX hcell
      go_wp2
      go_roundw
      case rel => exact ⟨k + 1, t, by omega, by go_num, HA3, HS3⟩
      case measure => simp [intOf]; omega
    · obtain rfl : k = 6 := by omega
      have HF := Lib.hid HS2.out.norow.bel
      clear HS2 HA2
      go_wp2
      go_ret
      exact ⟨rfl, HF.out⟩
end Go.Proofs.Ytkfhjpgapmfiaaa

