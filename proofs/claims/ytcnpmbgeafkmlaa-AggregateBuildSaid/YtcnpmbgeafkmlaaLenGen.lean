/-
  The generator's Length (package airsharegen).
-/
import Derived.Test.YtcnpmbgeafkmlaaWhl
import Derived.Lib.Hide
namespace Go.Proofs.Ytcnpmbgeafkmlaa
open Go.ChangeShapes Go.WideShapes Go.ChangeAt Go.RowKit
set_option linter.unusedVariables false

/-- What Length answers. -/
def GaveLen (B : Nat) (a : Option Addr) (len cap k : Nat) (w : World) (e : Ending) (w' : World) : Prop :=
  ∃ x : Int, 1 ≤ x ∧ x ≤ 4096 ∧ e = .returned (.int .i64 x) ∧ Gen B a len cap (k + 1) w' ∧ Only B w w'
theorem pickN {B : Nat} {w w' : World} {L : List Int} {cs : Array Value} {t : TypeId} (hcs : cs = (L.map (Value.int .i64)).toArray) (ho : Only B (w.alloc (.cells cs t)) w') (hB : B < w.heap.size) {n : Nat} (hn : n < L.length) :
    ∃ x, x ∈ L ∧ w'.cell? ⟨w.heap.size, n, none⟩ = some (.int .i64 x) := by
  refine ⟨L[n], List.getElem_mem _, ?_⟩
  rw [ho.cell (by simp) (by omega)]
  have e := (MapKept.heap_alloc w (.cells cs t)).1
  have e2 : cs[n]? = some (.int .i64 L[n]) := by rw [hcs, List.getElem?_toArray, List.getElem?_map, List.getElem?_eq_getElem hn]; rfl
  simp only [World.cell?, e]
  simpa using e2
def lenL : List Int := [100, 1, 60, 1500, 4096, 100, 700]
theorem lenL_bd {x : Int} (h : x ∈ lenL) : 1 ≤ x ∧ x ≤ 4096 := by
  simp only [lenL, List.mem_cons, List.not_mem_nil, or_false] at h; omega
theorem length_any (B : Nat) (a : Option Addr) (len cap k : Nat) (w : World) (hg : Gen B a len cap k w) (hk : k ≤ 1000000000) :
    Calls Try.prog 18 #[.pointer (some ⟨B, 0, none⟩)] w (GaveLen B a len cap k w) := by
  go_enter Try.func18, Try.ntmps18
  go_wp2_with fail
  refine (next_any B a len cap k 7 _ (by decide) (by decide) hk (hg.alloc _)).mono ?_
  rintro e w' ⟨r, r0, r1, rfl, hg', ho⟩
  obtain ⟨n, rfl⟩ := Int.eq_ofNat_of_zero_le r0
  obtain ⟨x, hx, hc⟩ := pickN (L := lenL) rfl ho hg.lt (n := n) (by show n < 7; omega)
  have hO := Lib.hid ((Only.alloc B w _).trans ho)
  have hg' := Lib.hid hg'
  have HX := Lib.hid (lenL_bd hx)
  clear ho hg hx
  have hn : n ≤ 6 := by omega
  go_wp2
  go_ret
  exact ⟨_, HX.out.1, HX.out.2, rfl, hg'.out, hO.out⟩
/-! ### (WtGen) The generator's Weight (package airsharegen). -/
def wtL : List Int := [1, 2, 1, 3, 4, 16, 7, 1, 5]
theorem wtL_bd {x : Int} (h : x ∈ wtL) : 1 ≤ x ∧ x ≤ 16 := by
  simp only [wtL, List.mem_cons, List.not_mem_nil, or_false] at h; omega
theorem pickW {B : Nat} {w w' : World} {L : List Int} {cs : Array Value} {t : TypeId} (hcs : cs = (L.map (Value.int .i64)).toArray) (ho : Only B (w.alloc (.cells cs t)) w') (hB : B < w.heap.size) {n : Nat} (hn : n < L.length) :
    ∃ x, x ∈ L ∧ w'.cell? ⟨w.heap.size, n, none⟩ = some (.int .i64 x) := by
  refine ⟨L[n], List.getElem_mem _, ?_⟩
  rw [ho.cell (by simp) (by omega)]
  have e := (MapKept.heap_alloc w (.cells cs t)).1
  have e2 : cs[n]? = some (.int .i64 L[n]) := by rw [hcs, List.getElem?_toArray, List.getElem?_map, List.getElem?_eq_getElem hn]; rfl
  simp only [World.cell?, e]
  simpa using e2
/-- What Weight answers. -/
def GaveW (B : Nat) (a : Option Addr) (len cap k : Nat) (w0 w : World) (e : Ending) (w' : World) : Prop :=
  ∃ x : Int, 1 ≤ x ∧ x ≤ 16 ∧ e = .returned (.int .i64 x) ∧ Has B a len cap (k + 1) w0 w' ∧ Only B w w'
end Go.Proofs.Ytcnpmbgeafkmlaa

