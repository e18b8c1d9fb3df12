/-
  The generator's Name and Good (package airsharegen): a string out of a list.
-/
import Derived.Test.YtgojbomdkdlclaaGen
import Derived.WalkKit
import Derived.WalkSpells
namespace Go.Proofs.Ytgojbomdkdlclaa
open Go.ChangeShapes Go.WideShapes Go.ChangeAt Go.RowKit
set_option linter.unusedVariables false

def nameL : List ByteArray := [⟨#[97]⟩, ⟨#[97, 110, 110]⟩, ⟨#[65, 110, 110]⟩, ⟨#[65, 78, 78]⟩, ⟨#[98, 45, 49]⟩, ⟨#[195, 132, 98]⟩, ⟨#[195, 164, 98]⟩, ⟨#[206, 145, 120]⟩, ⟨#[206, 177, 120]⟩, ⟨#[97, 46, 98, 95, 99]⟩, ⟨#[195, 151]⟩, ⟨#[122, 57]⟩, ⟨#[]⟩, ⟨#[97, 32, 98]⟩, ⟨#[97, 42]⟩, ⟨#[255]⟩, ⟨#[239, 191, 189]⟩, ⟨#[97, 97, 97, 97, 97, 97, 97, 97, 97, 97, 97, 97, 97, 97, 97, 97, 97, 97, 97, 97, 97, 97, 97, 97]⟩, ⟨#[97, 97, 97, 97, 97, 97, 97, 97, 97, 97, 97, 97, 97, 97, 97, 97, 97, 97, 97, 97, 97, 97, 97, 97, 97]⟩, ⟨#[240, 159, 152, 128]⟩]
def goodL : List ByteArray := [⟨#[97]⟩, ⟨#[97, 110, 110]⟩, ⟨#[65, 110, 110]⟩, ⟨#[98, 45, 49]⟩, ⟨#[195, 132, 98]⟩, ⟨#[206, 177, 120]⟩, ⟨#[97, 46, 98, 95, 99]⟩, ⟨#[122, 57]⟩]
/-- What Name and Good answer: a string of a list; one more number has been taken. -/
def PickS (L : List ByteArray) (B : Nat) (a : Option Addr) (len cap k : Nat) (w : World) (e : Ending) (w' : World) : Prop :=
  ∃ x, x ∈ L ∧ e = .returned (.string x) ∧ Gen B a len cap (k + 1) w' ∧ Only B w w'
theorem pickS {B : Nat} {w w' : World} {L : List ByteArray} {cs : Array Value} {t : TypeId} (hcs : cs = (L.map Value.string).toArray) (ho : Only B (w.alloc (.cells cs t)) w') (hB : B < w.heap.size) {n : Nat} (hn : n < L.length) :
    ∃ x, x ∈ L ∧ w'.cell? ⟨w.heap.size, n, none⟩ = some (.string x) := by
  refine ⟨L[n], List.getElem_mem _, ?_⟩
  rw [ho.cell (by simp) (by omega)]
  have e := (MapKept.heap_alloc w (.cells cs t)).1
  have e2 : cs[n]? = some (.string L[n]) := by rw [hcs, List.getElem?_toArray, List.getElem?_map, List.getElem?_eq_getElem hn]; rfl
  simp only [World.cell?, e]
  simpa using e2
set_option maxRecDepth 100000 in
theorem name_any (B : Nat) (a : Option Addr) (len cap k : Nat) (w : World) (hg : Gen B a len cap k w) (hk : k ≤ 1000000000) :
    Calls Try.prog 20 #[.pointer (some ⟨B, 0, none⟩)] w (PickS nameL B a len cap k w) := by
  go_enter Try.func20, Try.ntmps20
  go_wp2_with fail
  refine (next_any B a len cap k 20 _ (by decide) (by decide) hk (hg.alloc _)).mono ?_
  rintro e w' ⟨r, r0, r1, rfl, hg', ho⟩
  obtain ⟨n, rfl⟩ := Int.eq_ofNat_of_zero_le r0
  obtain ⟨x, hx, hc⟩ := pickS (L := nameL) rfl ho hg.lt (n := n) (by show n < 20; omega)
  have hO := (Only.alloc B w _).trans ho
  have HX := (⟨hx⟩ : PLift (x ∈ nameL))
  clear ho hg hx
  have hn : n ≤ 19 := by omega
  go_wp2
  go_ret
  exact ⟨_, HX.down, rfl, hg', hO⟩
/-- The same, said of choices that a caller keeps. -/
def GaveName (B : Nat) (a : Option Addr) (len cap k : Nat) (w0 w : World) (e : Ending) (w' : World) : Prop :=
  ∃ x, x ∈ nameL ∧ e = .returned (.string x) ∧ Has B a len cap (k + 1) w0 w' ∧ Only B w w'
theorem has_name (B : Nat) (a : Option Addr) (len cap k : Nat) (w0 w : World) (h : Has B a len cap k w0 w) (hk : k ≤ 1000000000) :
    Calls Try.prog 20 #[.pointer (some ⟨B, 0, none⟩)] w (GaveName B a len cap k w0 w) :=
  (name_any B a len cap k w h.1 hk).mono fun _ _ ⟨x, hx, he, hg, ho⟩ => ⟨x, hx, he, ⟨hg, h.2.trans (ho.below (by have := h.1.lt; omega))⟩, ho⟩
/-- The same, said of choices that a caller keeps. -/
def GaveGood (B : Nat) (a : Option Addr) (len cap k : Nat) (w0 w : World) (e : Ending) (w' : World) : Prop :=
  ∃ x, x ∈ goodL ∧ e = .returned (.string x) ∧ Has B a len cap (k + 1) w0 w' ∧ Only B w w'
theorem name_size {x : ByteArray} (h : x ∈ nameL) : x.size ≤ 25 := by
  have : (nameL.all fun x => decide (x.size ≤ 25)) = true := by decide +kernel
  simpa using List.all_eq_true.1 this x h
theorem good_size {x : ByteArray} (h : x ∈ goodL) : x.size ≤ 25 := by
  have : (goodL.all fun x => decide (x.size ≤ 25)) = true := by decide +kernel
  simpa using List.all_eq_true.1 this x h
end Go.Proofs.Ytgojbomdkdlclaa

