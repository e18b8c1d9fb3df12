/-
  Layer 4: helpers of the statements: the heap beside choices, calls that succeed or fail, Equal at entries, awake.
-/
import Derived.Test.YtlnbjmmbjhglnaaHpNew
import Derived.Test.YtlnbjmmbjhglnaaGenI
import Derived.Deep.QuietTactic
import Derived.BigQuiet
namespace Go.Proofs.Ytlnbjmmbjhglnaa
open Go.ChangeShapes Go.WideShapes Go.ChangeAt Go.RowKit
set_option linter.unusedVariables false

theorem HeapO.only {C H B cap n : Nat} {S : Nat → Prop} {M : Int → Option Int} {w w' : World} (h : HeapO C H S cap n M w) (hBC : B < C) (ho : Only B w w') : HeapO C H S cap n M w' := by
  obtain ⟨PB, v, E, P, h1, h2, h3, h4, h5, h6⟩ := h
  exact ⟨PB, v, E, P, h1.keep (fun k hk => ho.block k (h1.lt k hk).2 (by have := (h1.lt k hk).1; omega)), h2, h3, h4, h5, fun k hk => by have := h6 k hk; have := ho.size; omega⟩
theorem HeapO.lo {C H cap n : Nat} {S : Nat → Prop} {M : Int → Option Int} {w : World} (h : HeapO C H S cap n M w) : ∀ k, S k → C ≤ k ∧ k < w.heap.size := by
  obtain ⟨_, _, _, _, _, _, _, _, _, h6⟩ := h; exact h6
theorem HeapO.at_ {C H cap n : Nat} {S : Nat → Prop} {M : Int → Option Int} {w : World} (h : HeapO C H S cap n M w) : S H ∧ n ≤ cap ∧ cap ≤ 4096 := by
  obtain ⟨_, _, _, _, h1, _, _, _, h5, _⟩ := h; exact ⟨h5 H (.inl rfl), h1.len⟩
theorem HeapO.mem {C H cap n : Nat} {S : Nat → Prop} {M : Int → Option Int} {w : World} (h : HeapO C H S cap n M w) : ∀ id, (M id).isSome = true → 0 ≤ id ∧ id < 4096 := by
  obtain ⟨_, _, E, _, h1, h2, h3, _, h5, _⟩ := h
  intro id hs
  obtain ⟨j, hj, he, _⟩ := h3.find hs
  have := h2.1 j hj; omega
theorem Has.trod {B : Nat} {a : Option Addr} {len cap k : Nat} {w0 w w' : World} {S : Nat → Prop} (h : Has B a len cap k w0 w) (hS : ∀ i, S i → B < i) (ht : Chg S w w') : Has B a len cap k w0 w' := by
  have hb : Below (B + 1) w w' := ht.below (by have := h.1.lt; omega) (fun i hi => by have := hS i hi; omega)
  exact ⟨h.1.kept hb, h.2.trans (hb.mono (by omega))⟩

/-! ### Calls whose outcome is known -/
section
variable {C H cap n : Nat} {S : Nat → Prop} {M : Int → Option Int} {w : World}
theorem push_good (h : HeapO C H S cap n M w) {id key : Int} (i0 : 0 ≤ id) (i1 : id < 4096) (hm : M id = none) (hn : n ≠ cap) :
    Calls Try.prog 17 #[.pointer (some ⟨H, 0, none⟩), .int .i64 id, .int .i64 key] w (HpAns C H S cap (n + 1) (putM M id key) (.int .i64 0) w) := by
  have e := push_ok (cap := cap) (n := n) (M := M) (id := id) (by omega) (by rw [hm]; simp) hn
  have := push_any h id key
  unfold pushN pushM at this
  rw [e, if_pos rfl, if_pos rfl] at this; exact this
theorem push_err (h : HeapO C H S cap n M w) {id key r : Int} (he : pushErr cap n M id = r) (hr : r ≠ 0) :
    Calls Try.prog 17 #[.pointer (some ⟨H, 0, none⟩), .int .i64 id, .int .i64 key] w (HpAns C H S cap n M (.int .i64 r) w) := by
  have := push_any h id key
  unfold pushN pushM at this
  rw [he, if_neg hr, if_neg hr] at this; exact this
theorem upd_good (h : HeapO C H S cap n M w) {id key : Int} (hm : (M id).isSome = true) :
    Calls Try.prog 18 #[.pointer (some ⟨H, 0, none⟩), .int .i64 id, .int .i64 key] w (HpAns C H S cap n (putM M id key) (.int .i64 0) w) := by
  have := upd_any h id key
  unfold updM updErr at this
  rw [if_pos hm, if_pos hm] at this; exact this
theorem upd_bad (h : HeapO C H S cap n M w) {id key : Int} (hm : ¬ (M id).isSome = true) :
    Calls Try.prog 18 #[.pointer (some ⟨H, 0, none⟩), .int .i64 id, .int .i64 key] w (HpAns C H S cap n M (.int .i64 6) w) := by
  have := upd_any h id key
  unfold updM updErr at this
  rw [if_neg hm, if_neg hm] at this; exact this
theorem rem_good (h : HeapO C H S cap n M w) {id : Int} (hm : (M id).isSome = true) :
    Calls Try.prog 21 #[.pointer (some ⟨H, 0, none⟩), .int .i64 id] w (HpAns C H S cap (n - 1) (delM M id) (.tuple #[.int .i64 ((M id).getD 0), .int .i64 0]) w) := by
  have := rem_any h id
  unfold remN remM updErr at this
  rw [if_pos hm, if_pos hm, if_pos hm] at this; exact this
theorem pop_good (h : HeapO C H S cap (n + 1) M w) {x : Int × Int} (hl : LeastM M x) :
    Calls Try.prog 20 #[.pointer (some ⟨H, 0, none⟩)] w (HpAns C H S cap n (delM M x.1) (.tuple #[.agg #[.int .i64 x.1, .int .i64 x.2], .int .i64 0]) w) := by
  have := pop_any h
  rw [popV_of hl, popM_of hl, Nat.add_sub_cancel] at this; exact this
end
/-- A further state of a heap, from w0 on: its blocks lie from C on, no other old block has turned. -/
def HpFrom (C H cap n : Nat) (M : Int → Option Int) (w0 w : World) : Prop := ∃ S, HeapO C H S cap n M w ∧ Chg (fun k => C ≤ k) w0 w
theorem HpAns.from_ {C H cap n n' : Nat} {S : Nat → Prop} {M M' : Int → Option Int} {x : Value} {w0 w w' : World} {e : Ending} (h : HeapO C H S cap n M w) (hw : Chg (fun k => C ≤ k) w0 w) (ha : HpAns C H S cap n' M' x w e w') : e = .returned x ∧ HpFrom C H cap n' M' w0 w' := by
  obtain ⟨S', rfl, h1, h2, _⟩ := ha
  exact ⟨rfl, S', h1, hw.trans (h2.wider (fun k _ hk => (h.lo k hk).1))⟩

theorem equalE_any (A B : Option Addr) (n c d : Nat) (F : Nat → Int × Int) (L1 B1 L2 B2 : Nat) (w : World) (hn : n ≤ 4096) (ha : Prs w L1 B1 A n (fun j => (F j).1) (fun j => (F j).2)) (hb : Prs w L2 B2 B n (fun j => (F j).1) (fun j => (F j).2)) :
    Calls Try.prog 13 #[.slice A n c, .slice B n d] w fun e w' => e = .returned (.bool true) ∧ Below w.heap.size w w' := by
  go_enter Try.func13, Try.ntmps13
  go_wp2
  go_loopw [5] (fun i wr => ∃ k : Nat, k ≤ n ∧ i = .int .i64 k ∧ ∃ q, wr = w.drewN q) (fun i _ => n - (intOf i).toNat)
  case atStart => exact ⟨0, Nat.zero_le _, rfl, 0, rfl⟩
  case round =>
    obtain ⟨k, hk, rfl, q, rfl⟩ := hrel
    by_cases hlt : k < n
    · obtain ⟨b, off, rfl, _, _, c1, c2⟩ := Prs.at_ ha hlt
      obtain ⟨b', off', rfl, _, _, c3, c4⟩ := Prs.at_ hb hlt
      clear ha hb
      go_wp2
      go_quiet (fail)
      go_wp2
      go_roundw
      case rel => exact ⟨k + 1, by omega, by go_num, _, rfl⟩
      case measure => simp [intOf]; omega
    · obtain rfl : n = k := by omega
      clear ha hb
      go_wp2
      go_ret
      exact ⟨rfl, Below_drewN (Below.refl _ _) q⟩
theorem sumM (M : Int → Option Int) (id k x : Int) : putM M id k x = if x = id then some k else M x := rfl
theorem awake_least : LeastM (putM (putM (putM (putM noM 3 5) 1 5) 2 4) 2 9) (1, 5) := by
  refine ⟨by simp [putM], fun id k h => ?_⟩
  unfold putM noM at h
  unfold le2
  by_cases h1 : id = 2
  · rw [if_pos h1] at h; cases h; show (5 : Int) < 9 ∨ _; omega
  · rw [if_neg h1, if_neg h1] at h
    by_cases h2 : id = 1
    · rw [if_pos h2] at h; cases h; show (5 : Int) < 5 ∨ ((5 : Int) = 5 ∧ (1 : Int) ≤ id); omega
    · rw [if_neg h2] at h
      by_cases h3 : id = 3
      · rw [if_pos h3] at h; cases h; show (5 : Int) < 5 ∨ ((5 : Int) = 5 ∧ (1 : Int) ≤ id); omega
      · rw [if_neg h3] at h; cases h
set_option maxRecDepth 100000 in
set_option maxHeartbeats 4000000 in
theorem awake_any (w : World) : Calls Try.prog 16 #[] w fun e w' => e = .returned (.bool true) ∧ Below w.heap.size w w' := by
  have HN := Lib.hid (show Calls Try.prog 9 #[.int .i64 4] w (NewAns 4 w) from hnew_ok 4 w (by decide) (by decide))
  go_enter Try.func16, Try.ntmps16
  go_wp2_with fail
  (with_reducible refine HN.out.mono ?_)
  rintro e w1 ⟨H, S, rfl, h1, hb1⟩
  have k1 : Chg (fun k => w.heap.size ≤ k) w w1 := Chg.of_below hb1
  have H1 := Lib.hid h1
  have K1 := Lib.hid k1
  have HP := Lib.hid (push_good h1 (id := 3) (key := 5) (by decide) (by decide) rfl (by decide))
  clear h1 hb1 k1
  go_wp2_with fail
  (with_reducible refine HP.out.mono ?_)
  intro e w2 ha
  obtain ⟨rfl, S2, h2, k2⟩ := ha.from_ H1.out K1.out
  have H2 := Lib.hid h2
  have K2 := Lib.hid k2
  have HP2 := Lib.hid (push_good h2 (id := 1) (key := 5) (by decide) (by decide) (by simp [putM, noM]) (by decide))
  clear h2 k2 ha
  go_wp2_with fail
  (with_reducible refine HP2.out.mono ?_)
  intro e w3 ha
  obtain ⟨rfl, S3, h3, k3⟩ := ha.from_ H2.out K2.out
  have H3 := Lib.hid h3
  have K3 := Lib.hid k3
  have HP3 := Lib.hid (push_good h3 (id := 2) (key := 4) (by decide) (by decide) (by simp [putM, noM]) (by decide))
  clear h3 k3 ha
  go_wp2_with fail
  (with_reducible refine HP3.out.mono ?_)
  intro e w4 ha
  obtain ⟨rfl, S4, h4, k4⟩ := ha.from_ H3.out K3.out
  have H4 := Lib.hid h4
  have K4 := Lib.hid k4
  have HP4 := Lib.hid (upd_good h4 (id := 2) (key := 9) (by simp [putM]))
  clear h4 k4 ha
  go_wp2_with fail
  (with_reducible refine HP4.out.mono ?_)
  intro e w5 ha
  obtain ⟨rfl, S5, h5, k5⟩ := ha.from_ H4.out K4.out
  have H5 := Lib.hid h5
  have K5 := Lib.hid k5
  have HP5 := Lib.hid (pop_good h5 awake_least)
  clear h5 k5 ha
  go_wp2_with fail
  (with_reducible refine HP5.out.mono ?_)
  intro e w6 ha
  obtain ⟨rfl, S6, h6, k6⟩ := ha.from_ H5.out K5.out
  have hB : Below w.heap.size w w6 := k6.below (Nat.le_refl _) (fun _ h => h)
  clear h6 k6 ha H1 H2 H3 H4 H5 K1 K2 K3 K4 K5
  go_wp2
  go_ret
  exact ⟨rfl, hB.alloc hB.size _⟩
end Go.Proofs.Ytlnbjmmbjhglnaa
