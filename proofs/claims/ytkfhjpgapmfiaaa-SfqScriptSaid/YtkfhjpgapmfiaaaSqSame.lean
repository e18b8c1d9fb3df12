/-
  Layer 13: the statement's 'same': the tags, the virtual time and what has been subtracted are the same. Written by gen_sqsame.py.
-/
import Derived.Test.YtkfhjpgapmfiaaaRfRef
import Derived.Test.YtkfhjpgapmfiaaaPsRead
import Derived.Test.YtkfhjpgapmfiaaaLoose
namespace Go.Proofs.Ytkfhjpgapmfiaaa
open Go.ChangeShapes Go.WideShapes Go.ChangeAt Go.RowKit
set_option linter.unusedVariables false

structure Gs where
  A : Option Addr
  c : Nat
structure SmC (w0 : World) (l : List Tg) (γ : Gs) (L : Nat → Bool) (w : World) : Prop where
  b : Below w0.heap.size w0 w
  t : L 1 = true → ∃ L1 B1, SrAt csT 3 w L1 B1 γ.A l ∧ B1 ≤ w.heap.size
section
variable {w0 w w' : World} {l : List Tg} {γ : Gs} {L : Nat → Bool}
theorem SmC.start (γ : Gs) : SmC w0 l γ (fun _ => false) w0.drew := ⟨(Below.refl _ _).drew, fun h => by cases h⟩
theorem SmC.quiet (h : SmC w0 l γ L w) {i : Nat} (hi : 1 ≠ i) : SmC w0 l γ (setL L i) w := ⟨h.b, by rw [setL_ne hi]; exact h.t⟩
theorem SmC.calm (h : SmC w0 l γ L w) {i : Nat} (hi : 1 ≠ i) (hb : Below w.heap.size w w') : SmC w0 l γ (setL L i) w' := by
  refine ⟨h.b.trans (hb.mono h.b.size), fun k => ?_⟩
  rw [setL_ne hi] at k
  obtain ⟨L1, B1, h1, h2⟩ := h.t k
  exact ⟨L1, B1, h1.keep fun b o k1 k2 => hb.cell (p := ⟨b, o, none⟩) (by simp only; omega), Nat.le_trans h2 hb.size⟩
theorem SmC.tags (h : SmC w0 l γ L w) {A2 : Option Addr} {c2 : Nat} (hb : Below w.heap.size w w') (ha : SrAt csT 3 w' w.heap.size w'.heap.size A2 l) : SmC w0 l ⟨A2, c2⟩ (setL L 1) w' :=
  ⟨h.b.trans (hb.mono h.b.size), fun _ => ⟨_, _, ha, Nat.le_refl _⟩⟩
end
def SmV (R S n : Nat) (A : Option Addr) (c : Nat) (nw aw : Int) (γ : Gs) (i : Nat) (v : Value) (_ : World) : Prop :=
  match i with
  | 0 => v = .pointer (some ⟨R, 0, none⟩)
  | 1 => v = .slice γ.A n γ.c
  | 2 => v = .pointer (some ⟨S, 0, none⟩)
  | 3 => v = .pointer (some ⟨S, 0, none⟩)
  | 4 => v = .pointer (some ⟨S, 1, none⟩)
  | 5 => v = .slice A n c
  | 6 => v = .bool true
  | 7 => v = .bool true
  | 8 => v = .pointer (some ⟨R, 0, none⟩)
  | 9 => v = .int .i64 nw
  | 10 => v = .pointer (some ⟨S, 0, none⟩)
  | 11 => v = .pointer (some ⟨S, 0, none⟩)
  | 12 => v = .pointer (some ⟨S, 3, none⟩)
  | 13 => v = .int .i64 nw
  | 14 => v = .bool true
  | 15 => v = .bool true
  | 16 => v = .bool true
  | 17 => v = .pointer (some ⟨R, 0, none⟩)
  | 18 => v = .int .i64 aw
  | 19 => v = .pointer (some ⟨S, 0, none⟩)
  | 20 => v = .pointer (some ⟨S, 0, none⟩)
  | 21 => v = .pointer (some ⟨S, 4, none⟩)
  | 22 => v = .int .i64 aw
  | 23 => v = .bool true
  | 24 => v = .bool true
  | 25 => v = .bool true
  | _ => True
theorem SmV.k {R S n : Nat} {A : Option Addr} {c : Nat} {nw aw : Int} {γ γ' : Gs} {i : Nat} {v : Value} {w w' : World} (hi : i ≠ 1) (h : SmV R S n A c nw aw γ i v w) : SmV R S n A c nw aw γ' i v w' := by
  unfold SmV at h ⊢
  split at h <;> first | exact h | exact absurd rfl hi | trivial
set_option maxRecDepth 100000 in
set_option maxHeartbeats 8000000 in
theorem same_any {T Q : Nat → Prop} {R S : Nat} {s : Sf} {w : World} (h1 : PsO T R s w) (h2 : RsO Q S s w) :
    Calls Try.prog 13 #[.pointer (some ⟨R, 0, none⟩), .pointer (some ⟨S, 0, none⟩)] w (Calm (.bool true) w) := by
  obtain ⟨hs, r, ⟨hT, hTR, vL, vO, hw⟩, hr⟩ := h2
  have hLe : r.L = tgl s 32 := hr.rep.only (tgl_rep s)
  have hrn : r.now = s.now := hr.1.2.2.2.1
  have hrw : r.away = s.away := hr.1.2.2.2.2.1
  obtain ⟨A, c, rfl, hlc, hcm⟩ := hw.lsL.shape
  have hSlt := hw.blk.size_lt
  obtain ⟨_, c1, _, c3, c4, _⟩ := hw.cells
  rw [hLe] at c1
  rw [hrn] at c3
  rw [hrw] at c4
  obtain ⟨n, hn⟩ : ∃ n, (tgl s 32).length = n := ⟨_, rfl⟩
  have hn32 := tgl_le s 32
  rw [hn] at c1 hn32
  obtain ⟨nw, hnw⟩ : ∃ nw, s.now = nw := ⟨_, rfl⟩
  obtain ⟨aw, haw⟩ : ∃ aw, s.away = aw := ⟨_, rfl⟩
  rw [hnw] at c3
  rw [haw] at c4
  have HN := Lib.hid hn
  have HS1 := Lib.hid (fun (W : World) (hb : Below w.heap.size w W) => show W.cell? ⟨S, 1, none⟩ = some (.slice A n c) from (hb.cell (p := ⟨S, 1, none⟩) hSlt).trans c1)
  have HS3 := Lib.hid (fun (W : World) (hb : Below w.heap.size w W) => show W.cell? ⟨S, 3, none⟩ = some (.int .i64 nw) from (hb.cell (p := ⟨S, 3, none⟩) hSlt).trans c3)
  have HS4 := Lib.hid (fun (W : World) (hb : Below w.heap.size w W) => show W.cell? ⟨S, 4, none⟩ = some (.int .i64 aw) from (hb.cell (p := ⟨S, 4, none⟩) hSlt).trans c4)
  have HTG := Lib.hid (fun (W : World) (hb : Below w.heap.size w W) => pstags_any (h1.below hb))
  have HTI := Lib.hid (fun (W : World) (hb : Below w.heap.size w W) => show Calls Try.prog 25 #[.pointer (some ⟨R, 0, none⟩)] W (fun e w' => e = .returned (.int .i64 nw) ∧ W = w') from hnw ▸ pstime_any (h1.below hb))
  have HRB := Lib.hid (fun (W : World) (hb : Below w.heap.size w W) => show Calls Try.prog 33 #[.pointer (some ⟨R, 0, none⟩)] W (fun e w' => e = .returned (.int .i64 aw) ∧ W = w') from haw ▸ psaway_any (h1.below hb))
  have HEQ := Lib.hid (fun (W : World) (A2 : Option Addr) (c2 : Nat) (hb : Below w.heap.size w W) (h9 : ∃ L1 B1, SrAt csT 3 W L1 B1 A2 (tgl s 32) ∧ B1 ≤ W.heap.size) => show Calls Try.prog 26 #[.slice A2 n c2, .slice A n c] W (fun e w' => e = .returned (.bool true) ∧ Below W.heap.size W w') from by
    obtain ⟨L1, B1, k1, _⟩ := h9
    have k2 := (hw.lsL.keep fun b hb9 => hb.block b (hT b hb9)).at_ rfl
    rw [hLe] at k2
    have k3 := equalTg_any A2 A c2 c (tgl s 32) L1 B1 _ _ W (by omega) k1 k2
    unfold Calm at k3
    rw [hn] at k3
    exact k3)
  unfold GotT at HTG
  clear h1 hs hr hw hT hTR hLe hrn hrw hnw haw hn hlc hcm c1 c3 c4
  unfold Calm
  go_enter Try.func13, Try.ntmps13
  go_wp2_with fail
  refine wp_region_looseG 30 (by kernel_rfl) (by kernel_rfl) (SmC w (tgl s 32)) (SmV R S n A c nw aw) ⟨none, 0⟩ rfl (SmC.start _) ?_ ?_
  · simp only [OblAllG]
    refine ⟨?_, ?_, ?_, ?_, ?_, ?_, ?_, ?_, ?_, ?_, ?_, ?_, ?_, ?_, ?_, ?_, ?_, ?_, ?_, ?_, ?_, ?_, ?_, ?_, ?_, ?_, trivial⟩
    · intro γ U wx vals hi hu hcl hC hp
      have HCx := Lib.hid hC
      simp only [fillA, if_true, Act.put]
      simp
      clear hp hC hcl hu hi
      go_wp2
      exact ⟨rfl, γ, HCx.out.quiet (by decide), rfl, fun _ _ _ h => h⟩
    · intro γ U wx vals hi hu hcl hC hp
      simp [predL, predE, Region.binds, UpL] at hu
      simp [predL, predE, Region.binds, PreV, SmV] at hp
      have HL := Lib.hid (HTG.out wx hC.b)
      have HCx := Lib.hid hC
      simp only [fillA, if_true, Act.put]
      simp
      simp only [hp]
      clear hp hC hcl hu
      go_wp2_with fail
      (with_reducible refine HL.out.mono ?_); rintro e w9 ⟨A2, c2, rfl, hat, hb⟩
      have HM := Lib.hid (HCx.out.tags (A2 := A2) (c2 := c2) hb hat)
      simp only [HN.out]
      clear hat hb
      go_wp2
      exact ⟨rfl, _, HM.out, rfl, fun jj u hj h => SmV.k (fun e => by rw [e, hi] at hj; cases hj) h⟩
    · intro γ U wx vals hi hu hcl hC hp
      have HCx := Lib.hid hC
      simp only [fillA, if_true, Act.put]
      simp
      clear hp hC hcl hu hi
      go_wp2
      exact ⟨rfl, γ, HCx.out.quiet (by decide), rfl, fun _ _ _ h => h⟩
    · intro γ U wx vals hi hu hcl hC hp
      simp [predL, predE, Region.binds, UpL] at hu
      simp [predL, predE, Region.binds, PreV, SmV] at hp
      have HCx := Lib.hid hC
      simp only [fillA, if_true, Act.put]
      simp
      simp only [hp]
      clear hp hC hcl hu hi
      go_wp2
      exact ⟨rfl, γ, HCx.out.quiet (by decide), rfl, fun _ _ _ h => h⟩
    · intro γ U wx vals hi hu hcl hC hp
      simp [predL, predE, Region.binds, UpL] at hu
      simp [predL, predE, Region.binds, PreV, SmV] at hp
      have HCx := Lib.hid hC
      simp only [fillA, if_true, Act.put]
      simp
      simp only [hp]
      clear hp hC hcl hu hi
      go_wp2
      exact ⟨rfl, γ, HCx.out.quiet (by decide), rfl, fun _ _ _ h => h⟩
    · intro γ U wx vals hi hu hcl hC hp
      simp [predL, predE, Region.binds, UpL] at hu
      simp [predL, predE, Region.binds, PreV, SmV] at hp
      have k1 := HS1.out wx hC.b
      have HCx := Lib.hid hC
      simp only [fillA, if_true, Act.put]
      simp
      simp only [hp]
      clear hp hC hcl hu hi
      go_wp2
      exact ⟨rfl, γ, HCx.out.quiet (by decide), rfl, fun _ _ _ h => h⟩
    · intro γ U wx vals hi hu hcl hC hp
      simp [predL, predE, Region.binds, UpL] at hu
      simp [predL, predE, Region.binds, PreV, SmV] at hp
      have HL := Lib.hid (HEQ.out wx γ.A γ.c hC.b (hC.t (by simp [hu])))
      have HCx := Lib.hid hC
      simp only [fillA, if_true, Act.put]
      simp
      simp only [hp]
      clear hp hC hcl hu hi
      go_wp2_with fail
      (with_reducible refine HL.out.mono ?_); rintro e w9 ⟨rfl, hb⟩
      have HM := Lib.hid (HCx.out.calm (i := 6) (by decide) hb)
      clear hb
      go_wp2
      exact ⟨rfl, γ, HM.out, rfl, fun _ _ _ h => h⟩
    · intro γ U wx vals hi hu hcl hC hp
      simp [predL, predE, Region.binds, UpL] at hu
      simp [predL, predE, Region.binds, PreV, SmV] at hp
      have HCx := Lib.hid hC
      simp only [fillA, if_true, Act.put]
      simp
      simp only [hp]
      clear hp hC hcl hu hi
      go_wp2
      exact ⟨rfl, γ, HCx.out.quiet (by decide), rfl, fun _ _ _ h => h⟩
    · intro γ U wx vals hi hu hcl hC hp
      simp [predL, predE, Region.binds, UpL] at hu
      simp [predL, predE, Region.binds, PreV, SmV] at hp
      have HCx := Lib.hid hC
      simp only [fillA, if_true, Act.put]
      simp
      simp only [hp]
      clear hp hC hcl hu hi
      go_wp2
      exact ⟨rfl, γ, HCx.out.quiet (by decide), rfl, fun _ _ _ h => h⟩
    · intro γ U wx vals hi hu hcl hC hp
      simp [predL, predE, Region.binds, UpL] at hu
      simp [predL, predE, Region.binds, PreV, SmV] at hp
      have HL := Lib.hid (HTI.out wx hC.b)
      have HCx := Lib.hid hC
      simp only [fillA, if_true, Act.put]
      simp
      simp only [hp]
      clear hp hC hcl hu hi
      go_wp2_with fail
      (with_reducible refine HL.out.mono ?_); rintro e w9 ⟨rfl, rfl⟩
      go_wp2
      exact ⟨rfl, γ, HCx.out.quiet (by decide), rfl, fun _ _ _ h => h⟩
    · intro γ U wx vals hi hu hcl hC hp
      simp [predL, predE, Region.binds, UpL] at hu
      simp [predL, predE, Region.binds, PreV, SmV] at hp
      have HCx := Lib.hid hC
      simp only [fillA, if_true, Act.put]
      simp
      simp only [hp]
      clear hp hC hcl hu hi
      go_wp2
      exact ⟨rfl, γ, HCx.out.quiet (by decide), rfl, fun _ _ _ h => h⟩
    · intro γ U wx vals hi hu hcl hC hp
      simp [predL, predE, Region.binds, UpL] at hu
      simp [predL, predE, Region.binds, PreV, SmV] at hp
      have HCx := Lib.hid hC
      simp only [fillA, if_true, Act.put]
      simp
      simp only [hp]
      clear hp hC hcl hu hi
      go_wp2
      exact ⟨rfl, γ, HCx.out.quiet (by decide), rfl, fun _ _ _ h => h⟩
    · intro γ U wx vals hi hu hcl hC hp
      simp [predL, predE, Region.binds, UpL] at hu
      simp [predL, predE, Region.binds, PreV, SmV] at hp
      have HCx := Lib.hid hC
      simp only [fillA, if_true, Act.put]
      simp
      simp only [hp]
      clear hp hC hcl hu hi
      go_wp2
      exact ⟨rfl, γ, HCx.out.quiet (by decide), rfl, fun _ _ _ h => h⟩
    · intro γ U wx vals hi hu hcl hC hp
      simp [predL, predE, Region.binds, UpL] at hu
      simp [predL, predE, Region.binds, PreV, SmV] at hp
      have k1 := HS3.out wx hC.b
      have HCx := Lib.hid hC
      simp only [fillA, if_true, Act.put]
      simp
      simp only [hp]
      clear hp hC hcl hu hi
      go_wp2
      exact ⟨rfl, γ, HCx.out.quiet (by decide), rfl, fun _ _ _ h => h⟩
    · intro γ U wx vals hi hu hcl hC hp
      simp [predL, predE, Region.binds, UpL] at hu
      simp [predL, predE, Region.binds, PreV, SmV] at hp
      have HCx := Lib.hid hC
      simp only [fillA, if_true, Act.put]
      simp
      simp only [hp]
      clear hp hC hcl hu hi
      go_wp2
      exact ⟨rfl, γ, HCx.out.quiet (by decide), rfl, fun _ _ _ h => h⟩
    · intro γ U wx vals hi hu hcl hC hp
      simp [predL, predE, Region.binds, UpL] at hu
      simp [predL, predE, Region.binds, PreV, SmV] at hp
      have HCx := Lib.hid hC
      simp only [fillA, if_true, Act.put]
      simp
      simp only [hp]
      clear hp hC hcl hu hi
      go_wp2
      exact ⟨rfl, γ, HCx.out.quiet (by decide), rfl, fun _ _ _ h => h⟩
    · intro γ U wx vals hi hu hcl hC hp
      simp [predL, predE, Region.binds, UpL] at hu
      simp [predL, predE, Region.binds, PreV, SmV] at hp
      have HCx := Lib.hid hC
      simp only [fillA, if_true, Act.put]
      simp
      simp only [hp]
      clear hp hC hcl hu hi
      go_wp2
      exact ⟨rfl, γ, HCx.out.quiet (by decide), rfl, fun _ _ _ h => h⟩
    · intro γ U wx vals hi hu hcl hC hp
      simp [predL, predE, Region.binds, UpL] at hu
      simp [predL, predE, Region.binds, PreV, SmV] at hp
      have HCx := Lib.hid hC
      simp only [fillA, if_true, Act.put]
      simp
      simp only [hp]
      clear hp hC hcl hu hi
      go_wp2
      exact ⟨rfl, γ, HCx.out.quiet (by decide), rfl, fun _ _ _ h => h⟩
    · intro γ U wx vals hi hu hcl hC hp
      simp [predL, predE, Region.binds, UpL] at hu
      simp [predL, predE, Region.binds, PreV, SmV] at hp
      have HL := Lib.hid (HRB.out wx hC.b)
      have HCx := Lib.hid hC
      simp only [fillA, if_true, Act.put]
      simp
      simp only [hp]
      clear hp hC hcl hu hi
      go_wp2_with fail
      (with_reducible refine HL.out.mono ?_); rintro e w9 ⟨rfl, rfl⟩
      go_wp2
      exact ⟨rfl, γ, HCx.out.quiet (by decide), rfl, fun _ _ _ h => h⟩
    · intro γ U wx vals hi hu hcl hC hp
      simp [predL, predE, Region.binds, UpL] at hu
      simp [predL, predE, Region.binds, PreV, SmV] at hp
      have HCx := Lib.hid hC
      simp only [fillA, if_true, Act.put]
      simp
      simp only [hp]
      clear hp hC hcl hu hi
      go_wp2
      exact ⟨rfl, γ, HCx.out.quiet (by decide), rfl, fun _ _ _ h => h⟩
    · intro γ U wx vals hi hu hcl hC hp
      simp [predL, predE, Region.binds, UpL] at hu
      simp [predL, predE, Region.binds, PreV, SmV] at hp
      have HCx := Lib.hid hC
      simp only [fillA, if_true, Act.put]
      simp
      simp only [hp]
      clear hp hC hcl hu hi
      go_wp2
      exact ⟨rfl, γ, HCx.out.quiet (by decide), rfl, fun _ _ _ h => h⟩
    · intro γ U wx vals hi hu hcl hC hp
      simp [predL, predE, Region.binds, UpL] at hu
      simp [predL, predE, Region.binds, PreV, SmV] at hp
      have HCx := Lib.hid hC
      simp only [fillA, if_true, Act.put]
      simp
      simp only [hp]
      clear hp hC hcl hu hi
      go_wp2
      exact ⟨rfl, γ, HCx.out.quiet (by decide), rfl, fun _ _ _ h => h⟩
    · intro γ U wx vals hi hu hcl hC hp
      simp [predL, predE, Region.binds, UpL] at hu
      simp [predL, predE, Region.binds, PreV, SmV] at hp
      have k1 := HS4.out wx hC.b
      have HCx := Lib.hid hC
      simp only [fillA, if_true, Act.put]
      simp
      simp only [hp]
      clear hp hC hcl hu hi
      go_wp2
      exact ⟨rfl, γ, HCx.out.quiet (by decide), rfl, fun _ _ _ h => h⟩
    · intro γ U wx vals hi hu hcl hC hp
      simp [predL, predE, Region.binds, UpL] at hu
      simp [predL, predE, Region.binds, PreV, SmV] at hp
      have HCx := Lib.hid hC
      simp only [fillA, if_true, Act.put]
      simp
      simp only [hp]
      clear hp hC hcl hu hi
      go_wp2
      exact ⟨rfl, γ, HCx.out.quiet (by decide), rfl, fun _ _ _ h => h⟩
    · intro γ U wx vals hi hu hcl hC hp
      simp [predL, predE, Region.binds, UpL] at hu
      simp [predL, predE, Region.binds, PreV, SmV] at hp
      have HCx := Lib.hid hC
      simp only [fillA, if_true, Act.put]
      simp
      simp only [hp]
      clear hp hC hcl hu hi
      go_wp2
      exact ⟨rfl, γ, HCx.out.quiet (by decide), rfl, fun _ _ _ h => h⟩
    · intro γ U wx vals hi hu hcl hC hp
      simp [predL, predE, Region.binds, UpL] at hu
      simp [predL, predE, Region.binds, PreV, SmV] at hp
      have HCx := Lib.hid hC
      simp only [fillA, if_true, Act.put]
      simp
      simp only [hp]
      clear hp hC hcl hu hi
      go_wp2
      exact ⟨rfl, γ, HCx.out.quiet (by decide), rfl, fun _ _ _ h => h⟩
  · intro γ w8 vals U hC hall hV
    have e25 := hV 25 (by simp)
    simp only [SmV] at e25
    have HB := Lib.hid hC.b
    simp only [fillA, if_true, Act.put]
    simp
    simp only [e25]
    clear hV hC hall e25
    go_wp2
    go_ret
    exact ⟨rfl, HB.out⟩
end Go.Proofs.Ytkfhjpgapmfiaaa

