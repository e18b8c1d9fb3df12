/-
  Layer 5: contracts of the ring's New and Items. Every input.
-/
import Derived.Test.YtijdfkdfojiffaaRgOps
namespace Go.Proofs.Ytijdfkdfojiffaa
open Go.ChangeShapes Go.WideShapes Go.ChangeAt Go.RowKit
set_option linter.unusedVariables false

/-- What New answers to a permitted capacity. -/
def RgNew (cap : Nat) (w : World) (e : Ending) (w' : World) : Prop :=
  ∃ H g : Nat, e = .returned (.tuple #[.pointer (some ⟨H, 0, none⟩), .int .i64 0]) ∧ RingO w.heap.size H g cap 0 (fun _ => 0) w' ∧ Below w.heap.size w w'
set_option maxHeartbeats 1000000 in
theorem rgnew_ok (cap : Nat) (w : World) (h1 : 1 ≤ cap) (h2 : cap ≤ 4096) : Calls Try.prog 27 #[.int .i64 cap] w (RgNew cap w) := by
  have i1 : ¬ (cap : Int) < 1 := by omega
  have i2 : ¬ 4096 < (cap : Int) := by omega
  obtain ⟨i0, hii, hz0, hz1, hz2⟩ := info_parts infoInt
  go_enter Try.func27, Try.ntmps27
  go_wp2_with (at_make; refine wpList_make_full _ rfl _ _ 22 rfl w.heap.size 3 i0 (.int .i64 0) 1 Try.underlying22 hii hz0 hz1 .i64 .i64 _ _ cap rfl rfl rfl rfl (by rw [hz2]; omega) (by unfold maxLen; omega) (Nat.le_refl _) ?_; intro w3 hown hg)
  have hb : Below w.heap.size w w3 := (Below.refl w.heap.size w).grown hg (Nat.le_refl _) (by intro k hk; cases hk)
  have hr := Row.of_make (cap := 0) hown
  have hlt := hr.lt
  have HF := Lib.hid (show RgNew cap w (.returned (.tuple #[.pointer (some ⟨w3.heap.size, 0, none⟩), .int .i64 0])) _ from
    ⟨w3.heap.size, w.heap.size, rfl, ⟨0, fun _ => 0, ⟨(MapKept.heap_alloc w3 (.cells #[.slice (some ⟨w.heap.size, 0, none⟩) cap cap, .int .i64 0, .int .i64 0] 71)).1, hr.alloc _, by omega, by omega⟩, fun i hi => by omega, hb.size, Nat.le_refl _⟩, hb.alloc hb.size _⟩)
  clear hown hg hb hr hlt
  go_ret2
  exact HF.out
theorem rgnew_bad (x : Int) (w : World) (h : x < 1 ∨ 4096 < x) : Calls Try.prog 27 #[.int .i64 x] w fun e w' => e = .returned (.tuple #[.pointer none, .int .i64 1]) ∧ w = w' := by
  rcases (by omega : x < 1 ∨ (¬ x < 1 ∧ 4096 < x)) with h1 | ⟨h1, h2⟩
  all_goals
    go_enter Try.func27, Try.ntmps27
    go_wp2
    go_ret2
    exact ⟨rfl, rfl⟩
/-- What Items answers. -/
def RgItems (C H g cap n : Nat) (L : Nat → Int) (w : World) (e : Ending) (w' : World) : Prop :=
  ∃ (A : Option Addr) (c : Nat), e = .returned (.slice A n c) ∧ (A = some ⟨w.heap.size, 0, none⟩ ∧ c = n ∧ Row w' w.heap.size 3 n L) ∧ Nums w' w.heap.size w'.heap.size A n L ∧ Below w.heap.size w w'
set_option maxHeartbeats 4000000 in
theorem rgitems_any {w : World} {C H g cap n : Nat} {L : Nat → Int} (h : RingO C H g cap n L w) :
    Calls Try.prog 36 #[.pointer (some ⟨H, 0, none⟩)] w (RgItems C H g cap n L w) := by
  obtain ⟨f, X, h, hX, l1, l2⟩ := h
  have hl := h.len
  obtain ⟨d0, _, d2, _, _⟩ := h.cells
  have hHl := h.lt H (.inl rfl)
  have hgl := h.lt g (.inr rfl)
  have HW := Lib.hid h
  have HX := Lib.hid hX
  obtain ⟨i0, hii, hz0, hz1, hz2⟩ := info_parts infoInt
  have D0 := Lib.hid d0
  clear h hX d0
  go_enter Try.func36, Try.ntmps36
  go_wp2_with (at_make; refine wpList_make_full _ rfl _ _ 22 rfl w.heap.size 3 i0 (.int .i64 0) 1 Try.underlying22 hii hz0 hz1 .i64 .i64 _ _ n rfl rfl rfl rfl (by rw [hz2]; omega) (by unfold maxLen; omega) (Nat.le_refl _) ?_; intro w3 hown hg; have HR0 := Lib.hid (Row.of_make (cap := 0) hown); have HB0 := Lib.hid ((Below.refl w.heap.size w).grown hg (Nat.le_refl _) (by intro k hk; cases hk)); clear hown hg hii hz0 hz1 hz2 d2)
  go_loopw [12] (fun s wr => ∃ (k : Nat) (Y : Nat → Int), k ≤ n ∧ s = .int .i64 k ∧ Hid (Row wr w.heap.size 3 n Y) ∧ Hid (∀ j, j < k → Y j = L j) ∧ Hid (Below w.heap.size w wr)) (fun s _ => n - (intOf s).toNat)
  case atStart => exact ⟨0, fun _ => 0, Nat.zero_le _, rfl, HR0, (fun j hj => by omega), HB0⟩
  case round =>
    obtain ⟨k, Y, hk, rfl, HR, HY, HB⟩ := hrel
    clear HR0 HB0
    by_cases hlt : k < n
    · have hlt' : (k : Int) < n := by omega
      obtain ⟨p, hp⟩ : ∃ p, (f + k) % cap = p := ⟨_, rfl⟩
      have hpl : p < cap := by rw [← hp]; exact Nat.mod_lt _ (by omega)
      have hpl' : (p : Int) < cap := by omega
      have c0 := (HB.out.cell (p := ⟨H, 0, none⟩) hHl).trans D0.out
      have cp := (HB.out.cell (p := ⟨g, p, none⟩) hgl).trans (HW.out.row.cell hpl)
      rw [← hp, HX.out k hlt, hp] at cp
      have co := HR.out.cell hlt
      have zo := HR.out.frozen k
      have HC := Lib.hid (fun W hb => cell_any (HW.out.below (w' := W) hb) (k : Int) k p rfl (by omega) hp)
      have HN := Lib.hid (fun q => Row.set_ (HR.out.drewN q) hlt (L k))
      have HZ := Lib.hid (fun q => (Below_drewN HB.out q).setCell (p := ⟨w.heap.size, k, none⟩) (Nat.le_refl _) (.int .i64 (L k)))
      have HV : Hid (∀ j, j < k + 1 → upd Y k (L k) j = L j) := Lib.hid (fun j hj => by
        rcases (by omega : j < k ∨ j = k) with h1 | rfl
        · rw [upd_ne (by omega)]; exact HY.out j h1
        · rw [upd_at])
      clear hp
      go_wp2_with fail
      go_region_with (go_at_call 43; (with_reducible refine (HC.out _ (by repeat (first | exact HB.out | refine Below.drew ?_ | refine Below_drewN ?_ _))).mono ?_); rintro e w1 ⟨rfl, q1, rfl⟩)
      all_goals
        clear HC HR HB HY
        go_wp2
        go_roundw
        case rel => exact ⟨k + 1, _, by omega, by go_num, HN.out _, HV, HZ.out _⟩
        case measure => simp [intOf]; omega
    · obtain rfl : k = n := by omega
      have HF := Lib.hid (show RgItems C H g cap k L w (.returned (.slice (some ⟨w.heap.size, 0, none⟩) k k)) wr from
        ⟨_, _, rfl, ⟨rfl, rfl, HR.out.same HY.out⟩, ((HR.out.same HY.out).nums).wider (Nat.le_refl _) (by have := HR.out.lt; omega), HB.out⟩)
      clear HR HB HY
      go_wp2
      go_ret
      exact HF.out
end Go.Proofs.Ytijdfkdfojiffaa

