/-
  Layer 3: the contract of fillRound (package shares).
-/
import Derived.Test.YtbhgkifalihheaaShFill
namespace Go.Proofs.Ytbhgkifalihheaa
open Go.ChangeShapes Go.WideShapes Go.ChangeAt Go.RowKit
set_option linter.unusedVariables false

/-- Block g holds just m pairs of which the first k are known. -/
def PRow (w : World) (g : Nat) (t : TypeId) (m k : Nat) (I V : Nat → Int) : Prop := ∃ cs, Whole w g t cs ∧ cs.size = m * 2 ∧ ∀ j, j < k * 2 → cs[j]? = some (prs I V j)
section
variable {w w' : World} {g m k : Nat} {t : TypeId} {I V : Nat → Int}
theorem PRow.free (h : PRow w g t m k I V) (o : Nat) : w.frozen? ⟨g, o, none⟩ = false := by obtain ⟨cs, hb, _⟩ := h; exact hb.free o
theorem PRow.has (h : PRow w g t m k I V) {o : Nat} (ho : o < m * 2) : ∃ v, w.cell? ⟨g, o, none⟩ = some v := by
  obtain ⟨cs, hb, hs, _⟩ := h
  exact ⟨cs[o]'(by omega), by rw [hb.read, Array.getElem?_eq_getElem]⟩
theorem PRow.lt (h : PRow w g t m k I V) : g < w.heap.size := by obtain ⟨cs, hb, _⟩ := h; exact hb.size_lt
theorem PRow.push (h : PRow w g t m k I V) (hk : k < m) : PRow ((w.setCell ⟨g, k * 2, none⟩ (.int .i64 (I k))).setCell ⟨g, k * 2 + 1, none⟩ (.int .i64 (V k))) g t m (k + 1) I V := by
  obtain ⟨cs, hb, hs, hx⟩ := h
  refine ⟨_, (hb.put _ _).put _ _, by simpa using hs, fun j hj => ?_⟩
  rcases (by omega : j = k * 2 + 1 ∨ j = k * 2 ∨ j < k * 2) with rfl | rfl | h
  · rw [Array.getElem?_setIfInBounds, if_pos rfl, if_pos (by simp; omega), prs_odd]
  · rw [Array.getElem?_setIfInBounds, if_neg (by omega), Array.getElem?_setIfInBounds, if_pos rfl, if_pos (by omega), prs_even]
  · rw [Array.getElem?_setIfInBounds, if_neg (by omega), Array.getElem?_setIfInBounds, if_neg (by omega)]; exact hx j h
theorem PRow.prs_ (h : PRow w g t m m I V) : Prs w g (g + 1) (some ⟨g, 0, none⟩) m I V := by
  obtain ⟨cs, hb, hs, hx⟩ := h
  exact fun j hj => ⟨g, 0, rfl, Nat.le_refl _, by omega, by rw [Nat.zero_add, hb.read, hx j hj]⟩
theorem PRow.of_make {base : Nat} {z : Array Value} (hown : w.ownsRow base t 2 (.slice (some ⟨g, 0, none⟩) m m) m (madeCells z (m * 2)).toList) : PRow w g t m 0 I V := by
  obtain ⟨h1, h2⟩ := hown
  rcases h2 with ⟨h2, _⟩ | ⟨g', cap', cur, hv, _, hh, hn, _, hc, htake⟩
  · simp at h2
  · simp only [Value.slice.injEq, Option.some.injEq, Addr.mk.injEq, and_true, true_and] at hv
    obtain ⟨rfl, rfl⟩ := hv
    exact ⟨cur, hh, hc, fun j hj => by omega⟩
end
set_option maxHeartbeats 4000000 in
theorem fillRound_any (r a : Int) (A O D : Option Addr) (n ca cd co g : Nat) (I V G C : Nat → Int) (w : World) (a1 : a ≤ 9223372036854775807) (hval : VParts n I V) (hi : Fits n I) (hcap : VCaps n C) (hok : FillOk C n a (G, r)) (hne : ¬ fillEnd C n (G, r))
    (hG : Row w g 2 n G) (hp : Prs w 0 g A n I V) (hd : Nums w 0 g D n C) (ho : Nums w (g + 1) w.heap.size O (opens G C n).length (fun k => (opAt G C n k : Int))) :
    Calls Try.prog 32 #[.int .i64 r, .slice A n ca, .slice O (opens G C n).length co, .slice (some ⟨g, 0, none⟩) n n, .slice D n cd] w
      fun e w' => e = .returned (.int .i64 (fillRnd C V n (G, r)).2) ∧ Row w' g 2 n (fillRnd C V n (G, r)).1 ∧ Only g w w' := by
  have hw := fun i hi => (hval.2 i hi).2.2
  obtain ⟨f1, f2, f3, f4, f5⟩ := round_facts a1 hval.1 hw hok hne
  have hlt := opens_lt G C n
  have hgl := hG.lt
  simp only [] at f1 f2 f3 f4 f5
  have HRN : Hid (fillRnd C V n (G, r) = fillTo C (opAt G C n) (spl r (fun k => V (opAt G C n k)) (opens G C n).length) G r (opens G C n).length) := rfl
  rw [HRN.out]
  clear HRN
  have hval' : VParts (opens G C n).length (fun k => I (opAt G C n k)) (fun k => V (opAt G C n k)) := by
    refine ⟨by have := hval.1; omega, fun k hk => ?_⟩
    obtain ⟨p1, p2, p3, p4⟩ := hval.2 _ (f3 k hk).1
    refine ⟨p1, fun h0 => ?_, p3, p4⟩
    have h1 := hlt (k - 1) k (by omega) hk
    have hmono : ∀ q p, p < q → q < n → I p < I q := by
      intro q
      induction q with
      | zero => intro p h; omega
      | succ q ih =>
        intro p hpq hq
        have hs := (hval.2 (q + 1) hq).2.1 (by omega)
        rw [show q + 1 - 1 = q by omega] at hs
        rcases (by omega : p = q ∨ p < q) with rfl | h
        · exact hs
        · have := ih p h (by omega); omega
    exact hmono _ _ h1 (f3 k hk).1
  obtain ⟨i0, hii, hz0, hz1, hz2⟩ := info_parts info_part
  have hm64 : (opens G C n).length ≤ 64 := by have := hval.1; omega
  generalize hM : (opens G C n).length = m at *
  generalize hP : opAt G C n = at_ at *
  clear hM hP
  have hn64 := hval.1
  have HF3 := Lib.hid f3
  have HVAL := Lib.hid hval'
  have HLT := Lib.hid hlt
  have HF4 := Lib.hid f4
  have HF5 := Lib.hid f5
  have HOK := Lib.hid hok
  have HSP := Lib.hid (fun (w' : World) (A' : Option Addr) (hp' : Prs w' 0 w'.heap.size A' m (fun k => I (at_ k)) (fun k => V (at_ k))) => by
    have h := split_any r A' m m (fun k => I (at_ k)) (fun k => V (at_ k)) w' (by have := hok.2.1; simp only [] at this; omega) (by have := hok.2.2.1; simp only [] at this; omega) (by omega) (fun k hk => hi _ (f3 k hk).1) (fun k hk => by
      have h2 : 1 ≤ V (at_ k) ∧ V (at_ k) ≤ 2147483648 := (hval'.2 k hk).2.2
      show -9223372036854775808 ≤ V (at_ k) ∧ V (at_ k) ≤ 9223372036854775807
      omega) hp'
    unfold SplitTo spLen spErr at h
    rw [if_pos hval', if_pos hval', if_neg (by omega)] at h
    exact h)
  have HCAP := Lib.hid hcap
  clear f3 hval' hlt f4 f5 hok hne hw hval hcap hi
  go_enter Try.func32, Try.ntmps32
  go_wp2_with (at_make; refine wpList_make_full _ rfl _ _ 23 rfl w.heap.size 39 i0 (.agg #[.int .i64 0, .int .i64 0]) 2 Try.underlying23 hii hz0 hz1 .i64 .i64 _ _ m rfl rfl rfl rfl (by rw [hz2]; omega) (by unfold maxLen; omega) (Nat.le_refl _) ?_; intro w3 hown hg)
  have hB3 := (Below.refl w.heap.size w).grown hg (Nat.le_refl _) (by intro k hk; cases hk)
  have hrow : PRow w3 w.heap.size 39 m 0 (fun k => I (at_ k)) (fun k => V (at_ k)) := PRow.of_make hown
  clear hown hg
  obtain ⟨gt, hgt⟩ : ∃ gt, gt = w.heap.size := ⟨_, rfl⟩
  go_loopw [24] (fun i wr => ∃ k : Nat, k ≤ m ∧ i = .int .i64 k ∧ PRow wr w.heap.size 39 m k (fun k => I (at_ k)) (fun k => V (at_ k)) ∧ Below w.heap.size w wr) (fun i _ => m - (intOf i).toNat)
  case atStart => exact ⟨0, Nat.zero_le _, rfl, hrow, hB3⟩
  case round =>
    obtain ⟨k, hk, rfl, hX, hB⟩ := hrel
    clear hrow hB3
    by_cases hlt : k < m
    · obtain ⟨b, off, rfl, _, hbb, c1⟩ := Nums.at_ (Cells.below ho hB (Nat.le_refl _)) hlt
      have hat := (HF3.out k hlt).1
      obtain ⟨b2, off2, rfl, _, hbb2, c2, c3⟩ := Prs.at_ (Cells.below hp hB (by omega)) hat
      obtain ⟨z1, x1⟩ := hX.has (o := k * 2) (by omega)
      obtain ⟨z2, x2⟩ := hX.has (o := k * 2 + 1) (by omega)
      have y1 := hX.free (k * 2)
      have y2 := hX.free (k * 2 + 1)
      have hati : (at_ k : Int) < n := by omega
      have hX' := hX.push hlt
      clear hX
      go_wp2
      go_roundw
      case rel => exact ⟨k + 1, by omega, by go_num, hX', (hB.setCell (Nat.le_refl _) _).setCell (Nat.le_refl _) _⟩
      case measure => simp [intOf]; omega
    · obtain rfl : m = k := by omega
      have hpx : Prs wr 0 wr.heap.size (some ⟨w.heap.size, 0, none⟩) m (fun k => I (at_ k)) (fun k => V (at_ k)) := Cells.wider hX.prs_ (Nat.zero_le _) hX.lt
      go_wp2_with fail
      (with_reducible refine (HSP.out _ _ hpx).mono ?_)
      rintro e w5 ⟨A2, c2, rfl, hn2, hb2⟩
      have hB5 := hB.trans (hb2.mono hB.size)
      have hs5 := hb2.size
      have hsw := hB.size
      have hG5 := hG.below hB5 hgl
      have ho5 := Cells.below ho hB5 (Nat.le_refl _)
      have hd5 := Cells.below hd hB5 (by omega)
      have hO5 : Only g w w5 := ⟨hB5.os, hB5.tape, hB5.output, hB5.size, fun k hk _ => hB5.block k hk⟩
      clear hX hpx hb2 hB hG ho hd hp
      clear hgt
      generalize w.heap.size = z at *
      go_wp2_with fail
      go_loopw [0, 45] (fun q i wq => ∃ k : Nat, k ≤ m ∧ i = .int .i64 k ∧ q = .int .i64 (fillTo C at_ (spl r (fun k => V (at_ k)) m) G r k).2 ∧ Row wq g 2 n (fillTo C at_ (spl r (fun k => V (at_ k)) m) G r k).1 ∧ Only g w5 wq) (fun _ i _ => m - (intOf i).toNat)
      case atStart => exact ⟨0, Nat.zero_le _, rfl, rfl, hG5, Only.refl _ _⟩
      case round =>
        obtain ⟨k, hk, rfl, rfl, hX, hO⟩ := hrel
        clear hG5
        have hfo := fillTo_ok (C := C) (X := spl r (fun k => V (at_ k)) m) (G := G) (at_ := at_) (r := r) (a := a) (n := n) (fun k hk => (HF3.out k hk).1) HLT.out (fun k hk => (HF4.out k hk).1) HF5.out HOK.out.1 HOK.out.2.2.2 HOK.out.2.2.1 k hk
        have hfs : Hid (fillTo C at_ (spl r (fun k => V (at_ k)) m) G r (k + 1) = (upd (fillTo C at_ (spl r (fun k => V (at_ k)) m) G r k).1 (at_ k) ((fillTo C at_ (spl r (fun k => V (at_ k)) m) G r k).1 (at_ k) + min (spl r (fun k => V (at_ k)) m k) (C (at_ k) - (fillTo C at_ (spl r (fun k => V (at_ k)) m) G r k).1 (at_ k))), (fillTo C at_ (spl r (fun k => V (at_ k)) m) G r k).2 - min (spl r (fun k => V (at_ k)) m k) (C (at_ k) - (fillTo C at_ (spl r (fun k => V (at_ k)) m) G r k).1 (at_ k)))) := rfl
        by_cases hlt : k < m
        · have hat := (HF3.out k hlt).1
          have hx4 := HF4.out k hlt
          have hcp := HCAP.out _ hat
          have hgb := hfo.1 _ hat
          have hrb : (fillTo C at_ (spl r (fun k => V (at_ k)) m) G r k).2 ≤ 9223372036854775807 := by have := hfo.2.2.1; have := HOK.out.2.2.1; simp only [] at this; omega
          have hrb0 : 0 ≤ (fillTo C at_ (spl r (fun k => V (at_ k)) m) G r k).2 := by
            have h1 := hfo.2.1
            have h2 := sumTo_mono hk (fun k hk => (HF4.out k hk).1)
            have h3 := HF5.out
            omega
          have hl2 := hO.size
          obtain ⟨b1, off1, rfl, _, hbb1, c1⟩ := Nums.at_ (Cells.only ho5 hO (by omega) (by omega)) hlt
          obtain ⟨b2, off2, rfl, _, hbb2, c2'⟩ := Nums.at_ (Cells.only hn2 hO (by omega) (Nat.le_refl _)) hlt
          obtain ⟨b3, off3, rfl, _, hbb3, c3⟩ := Nums.at_ (Cells.only hd5 hO (by omega) (by omega)) hat
          have c4 := hX.cell hat
          have f4 := hX.frozen (at_ k)
          have hati : (at_ k : Int) < n := by omega
          clear hfo ho5 hn2 hd5
          generalize fillTo C at_ (spl r (fun k => V (at_ k)) m) G r k = s at *
          generalize spl r (fun k => V (at_ k)) m k = x at *
          have hat_ : at_ k < n := hat
          go_wp2
          go_region
          go_wp2
          go_roundw
          case rel => exact ⟨k + 1, by omega, by go_num, by rw [hfs.out], by rw [hfs.out]; exact (hX.set_ hat _).drew, (hO.trans (Only.setCell g _ _ _)).drew⟩
          case measure => simp [intOf]; omega
        · obtain rfl : m = k := by omega
          have hfin := hO5.trans hO
          clear hfo ho5 hn2 hd5 hfs hO hO5
          go_wp2
          go_ret
          exact ⟨rfl, hX, hfin⟩
end Go.Proofs.Ytbhgkifalihheaa
