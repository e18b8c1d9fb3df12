/-
  Layer 17: the reference's receiver in memory; contracts of NewReceiver, take, Holds. Written by gen_rcref.py.
-/
import Derived.Test.YthmncipenjhknaaRcPlain
import Derived.Test.YthmncipenjhknaaBmOps
import Derived.Test.YthmncipenjhknaaElt
import Derived.Test.YthmncipenjhknaaLsP
import Derived.Test.YthmncipenjhknaaStA
import Derived.Deep.LoopGhost
import Derived.Deep.QuietTactic
import Derived.BigQuiet
import Derived.LoopTactic
namespace Go.Proofs.Ythmncipenjhknaa
open Go.ChangeShapes Go.WideShapes Go.ChangeAt Go.RowKit
set_option linter.unusedVariables false

def csH (x : RcE) : List Value := [.int .i64 x.q, .int .i64 x.i]
theorem rcElt : Elt csH 2 67 33 :=
  ⟨fun _ => rfl, fun a u hu => by simp [csH] at hu; rcases hu with rfl | rfl <;> rfl, by decide, Try.underlying33, .agg #[.int .i64 0, .int .i64 0], 16, by decide, by decide, by kernel_rfl⟩
def csI (x : Int) : List Value := [.int .i64 x]
theorem intElt : Elt csI 1 3 22 :=
  ⟨fun _ => rfl, fun a u hu => by simp [csI] at hu; subst hu; rfl, by decide, Try.underlying22, .int .i64 0, 8, by decide, by decide, by kernel_rfl⟩
def rrC (s : RcS) (vL : Value) : Array Value := #[.int .i64 s.w, .int .i64 s.nx, vL]
/-- The reference's receiver in block S. -/
def RrP (S : Nat) (s : RcS) : RP := fun T w => RcOk s ∧ (∀ k, T k → k < w.heap.size) ∧ T S ∧ ∃ vL, Whole w S 35 (rrC s vL) ∧ LsG csH 2 67 w T vL s.l
theorem RrP.frm {base S : Nat} {s : RcS} : Frm base (RrP S s) := by
  refine ⟨fun ⟨_, h1, _⟩ => h1, fun {T U w w'} ⟨h0, h1, h2, vL, h3, h4⟩ hc hb hs => ?_⟩
  exact ⟨h0, fun k hk => by have := h1 k hk; have := hc.size; omega, h2, vL, h3.carry (hc.block S (h1 S h2) (hs S h2)), h4.keep fun b hb => hc.block b (h1 b hb) (hs b hb)⟩
theorem RrP.later {S : Nat} {s : RcS} {T : Nat → Prop} {w w' : World} (h : RrP S s T w) (hb : Below w.heap.size w w') : RrP S s T w' :=
  (RrP.frm (base := 0)).chg (S := fun _ => False) h (Chg.of_below hb) (fun _ h => h.elim) (fun _ _ h => h)
theorem RrP.list {S : Nat} {T : Nat → Prop} {w : World} {vL : Value} {cs : Array Value} {l : List RcE} (h3 : Whole w S 35 cs) (h4 : LsG csH 2 67 w T vL l) : LsG csH 2 67 w (fun b => T b ∧ b ≠ S) vL l := by
  refine h4.typed fun b hb cur hcur => ⟨hb, fun e => ?_⟩
  subst e
  have h5 : some (Obj.cells cur 67 (0, 0)) = some (Obj.cells cs 35 (0, 0)) := Eq.trans (Eq.symm hcur) h3
  simp at h5
theorem LsG.rc {w : World} {T : Nat → Prop} {v : Value} {l : List RcE} (h : LsG csH 2 67 w T v l) {k : Nat} (hk : k < l.length) :
    ∃ b off c, v = .slice (some ⟨b, off, none⟩) l.length c ∧ l.length ≤ c ∧ T b ∧ b < w.heap.size ∧ w.cell? ⟨b, off + k * 2, none⟩ = some (.int .i64 l[k].q) ∧ w.cell? ⟨b, off + k * 2 + 1, none⟩ = some (.int .i64 l[k].i) := by
  obtain ⟨b, off, c, e1, e2, e3, e4, _, e5⟩ := h.el hk
  exact ⟨b, off, c, e1, e2, e3, e4, (e5 k hk 0 (by omega)).trans rfl, (e5 k hk 1 (by omega)).trans rfl⟩
/-- The list is a new row: what the object is. -/
theorem rr_end {S : Nat} {s s' : RcS} {T : Nat → Prop} {w u : World} {A2 : Option Addr} {n2 c2 : Nat} {vL : Value} (hok : RcOk s') (hw : s'.w = s.w) (hn : s'.nx = s.nx) (h1 : ∀ k, T k → k < w.heap.size) (h2 : T S) (hS : Whole w S 35 (rrC s vL))
    (hr : u.ownsRow w.heap.size 67 2 (.slice A2 n2 c2) n2 (srs csH s'.l)) (hl : n2 = s'.l.length) (hb : Below w.heap.size w u) :
    (∃ T', RrP S s' T' (u.setCell ⟨S, 2, none⟩ (.slice A2 n2 c2)) ∧ ∀ j, T' j → T j ∨ w.heap.size ≤ j) ∧ Chg T w (u.setCell ⟨S, 2, none⟩ (.slice A2 n2 c2)) := by
  have hSw := h1 S h2
  have hS2 := hS.carry (hb.block S hSw)
  have hsz : (u.setCell ⟨S, 2, none⟩ (.slice A2 n2 c2)).heap.size = u.heap.size := by simp [World.setCell]
  have ls := rcElt.row_ls hr hl
  have hS3 := hS2.put 2 (.slice A2 n2 c2)
  refine ⟨⟨fun k => k = S ∨ (w.heap.size ≤ k ∧ k < u.heap.size), ⟨hok, fun k hk => ?_, .inl rfl, .slice A2 n2 c2, ?_, (ls.keep fun k hk => Below.heap_setCell _ _ _ _ (by show k ≠ S; omega)).wider fun k hk => .inr hk⟩, fun k hk => ?_⟩, (Chg.of_below hb).setCell h2 2 _⟩
  · rw [hsz]
    rcases hk with rfl | hk
    · exact hS2.size_lt
    · exact hk.2
  · have e : rrC s' (.slice A2 n2 c2) = #[.int .i64 s.w, .int .i64 s.nx, .slice A2 n2 c2] := by unfold rrC; rw [hw, hn]
    rw [e]; exact hS3
  · rcases hk with rfl | hk
    · exact .inl h2
    · exact .inr hk.1
/-! ### NewReceiver -/
set_option maxHeartbeats 4000000 in
theorem rrnew_any {wi : Int} (hp : rcB wi = true) {base : Nat} : Acts 10 #[.int .i64 wi] base Emp (fun S : Nat => .tuple #[.pointer (some ⟨S, 0, none⟩), .int .i64 0]) fun S => RrP S (RcS.new wi) := by
  intro T w hT hb hs
  have hb4 := rcB_yes hp
  have hok := RcOk.new hp
  have HF := Lib.hid (show (∃ T', RrP w.heap.size (RcS.new wi) T' (w.alloc (.cells #[.int .i64 wi, .int .i64 0, .slice none 0 0] 35)) ∧ ∀ j, T' j → T j ∨ w.heap.size ≤ j) ∧ Chg T w (w.alloc (.cells #[.int .i64 wi, .int .i64 0, .slice none 0 0] 35)) from
    ⟨⟨fun j => j = w.heap.size, ⟨hok, fun j hj => by rw [hj]; simp, rfl, _, Whole.fresh w _ _, LsG.nil _ _⟩, fun j hj => .inr (by rw [hj]; exact Nat.le_refl _)⟩, (Chg.refl T w).alloc _⟩)
  obtain ⟨a1, a2⟩ := hb4
  clear hok hp
  go_enter Try.func10, Try.ntmps10
  go_wp2
  go_ret2
  exact ⟨w.heap.size, rfl, HF.out⟩
set_option maxHeartbeats 4000000 in
theorem rrnew_no {wi : Int} (hp : rcB wi = false) (w : World) : Calls Try.prog 10 #[.int .i64 wi] w (Calm (.tuple #[.pointer none, .int .i64 1]) w) := by
  have hc : wi < 1 ∨ (1 ≤ wi ∧ 64 < wi) := by
    by_cases h : 1 ≤ wi ∧ wi ≤ 64
    · rw [rcB_of h] at hp; cases hp
    · omega
  clear hp
  unfold Calm
  rcases hc with h1 | ⟨h1, h2⟩
  all_goals
    go_enter Try.func10, Try.ntmps10
    go_wp2
    go_ret2
    exact ⟨rfl, Below.refl _ _⟩
/-! ### Holds -/
theorem ho_next (l : List RcE) (i : Int) {k : Nat} (hk : k < l.length) : rcHo (l.take (k + 1)) i = (rcHo (l.take k) i || (l[k].i == i)) := by
  unfold rcHo
  rw [List.take_succ_eq_append_getElem hk, List.any_append]; simp
set_option maxRecDepth 100000 in
set_option maxHeartbeats 4000000 in
theorem rrholds_any {S : Nat} {s : RcS} {T : Nat → Prop} {w : World} (hn : s.l.length ≤ 100000) (h : RrP S s T w) (q : Int) : Calls Try.prog 37 #[.pointer (some ⟨S, 0, none⟩), .int .i64 q] w (Calm (.bool (rcHo s.l q)) w) := by
  obtain ⟨h0, h1, h2, vL, h3, h4⟩ := h
  have d3 := h3.read 2
  simp [rrC] at d3
  have HL := Lib.hid (fun k (hk : k < s.l.length) => h4.rc hk)
  obtain ⟨A, c, rfl, hcl, _⟩ := h4.shape
  clear h0 h1 h2 h3 h4
  obtain ⟨s1, s2, l⟩ := s
  simp only at hn d3 HL hcl ⊢
  have HNX := Lib.hid (fun k (hk : k < l.length) => ho_next l q hk)
  have HEN := Lib.hid (fun (h : rcHo (l.take l.length) q = false) => (by rw [List.take_length] at h; exact h : rcHo l q = false))
  have HYES := Lib.hid (fun k (hk : k < l.length) (h : (l[k].i == q) = true) => (by unfold rcHo; exact List.any_eq_true.2 ⟨l[k], List.getElem_mem hk, h⟩ : rcHo l q = true))
  generalize rcHo l q = r at *
  unfold Calm
  go_enter Try.func37, Try.ntmps37
  go_wp2_with fail
  go_loopw [5] (fun s5 wr => ∃ k : Nat, k ≤ l.length ∧ s5 = .int .i64 k ∧ Hid (rcHo (l.take k) q = false) ∧ Hid (wr = w)) (fun s5 _ => l.length - (intOf s5).toNat)
  case atStart => exact ⟨0, Nat.zero_le _, rfl, Lib.hid (by simp [rcHo]), Lib.hid rfl⟩
  case round =>
    obtain ⟨k, hk, rfl, HN, HWW⟩ := hrel
    obtain rfl := HWW.out
    by_cases hlt : k < l.length
    · have hlt' : (k : Int) < l.length := by omega
      obtain ⟨b, off, c', e1, _, _, _, q0, q1⟩ := HL.out k hlt
      obtain ⟨rfl, rfl⟩ : A = some ⟨b, off, none⟩ ∧ c = c' := by simpa using e1
      have hnx := HNX.out k hlt
      rw [HN.out, Bool.false_or] at hnx
      have HN2 := Lib.hid hnx
      have HY2 := Lib.hid (fun (h : (l[k].i == q) = true) => HYES.out k hlt h)
      generalize l[k].i = g at *
      clear HL HNX HYES HEN e1 q0 hnx
      by_cases hq : g = q
      · subst hq
        have hr := HY2.out (by simp)
        subst hr
        have hgg : (g == g) = true := by simp
        clear HN2 HY2
        go_wp2
        go_ret
        first | exact ⟨rfl, Below.refl _ _⟩ | exact Below.refl _ _
      · have hqq : (g == q) = false := by simpa using hq
        rw [hqq] at HN2
        clear HY2 HN
        go_wp2
        go_roundw
        case rel => exact ⟨k + 1, by omega, by go_num, HN2, by first | exact Lib.hid rfl | exact Lib.hid trivial⟩
        case measure => simp [intOf]; omega
    · obtain rfl : k = l.length := by omega
      have hr := HEN.out HN.out
      subst hr
      clear HL HNX HYES HN
      go_wp2
      go_ret
      exact ⟨rfl, Below.refl _ _⟩
/-! ### take -/
theorem tk_is {l : List RcE} {q : Int} {k : Nat} (hk : k < l.length) (h : l[k].q = q) (h2 : ∀ j (hj : j < l.length), j < k → l[j].q ≠ q) : rcTk l q = l[k].i ∧ rcRm l q = l.take k ++ l.drop (k + 1) := by
  have hK := rcK_is hk h h2
  refine ⟨?_, by unfold rcRm; rw [hK, if_pos hk]⟩
  have hlt9 : rcK l q < l.length := by omega
  unfold rcTk; rw [dif_pos hlt9]
  congr 2
theorem tk_none {l : List RcE} {q : Int} (h2 : ∀ j (hj : j < l.length), l[j].q ≠ q) : rcTk l q = 0 ∧ rcRm l q = l := by
  have hK := rcK_none h2
  exact ⟨rcTk_zero (by omega), by unfold rcRm; rw [if_neg (by omega)]⟩
def RcDv (R bb off n c i m k : Nat) (vD : Value) (γ : Gd) (i_ : Nat) (v : Value) (_ : World) : Prop :=
  match i_ with
  | 0 => v = .pointer (some ⟨R, 0, none⟩)
  | 1 => v = .slice (some ⟨γ.g, 0, none⟩) 0 0
  | 2 => v = .pointer (some ⟨R, 0, none⟩)
  | 3 => v = .pointer (some ⟨R, 0, none⟩)
  | 4 => v = .pointer (some ⟨R, 2, none⟩)
  | 5 => v = .slice (some ⟨bb, off, none⟩) n c
  | 6 => v = .int .i64 (i : Nat)
  | 7 => v = .slice (some ⟨bb, off, none⟩) i c
  | 8 => v = .slice γ.A1 m γ.c1
  | 9 => v = .pointer (some ⟨R, 0, none⟩)
  | 10 => v = .pointer (some ⟨R, 0, none⟩)
  | 11 => v = .pointer (some ⟨R, 2, none⟩)
  | 12 => v = .slice (some ⟨bb, off, none⟩) n c
  | 13 => v = .int .i64 (i : Nat)
  | 14 => v = .int .i64 ((i : Nat) + 1)
  | 15 => v = vD
  | 16 => v = .slice γ.A2 (m + k) γ.c2
  | 17 => v = .pointer (some ⟨R, 0, none⟩)
  | 18 => v = .pointer (some ⟨R, 2, none⟩)
  | _ => True
theorem RcDv.kg {R bb off n c i m k : Nat} {vD : Value} {γ : Gd} {z : Nat} {i_ : Nat} {v : Value} {w w' : World} (hi : i_ ≠ 1) (h : RcDv R bb off n c i m k vD γ i_ v w) : RcDv R bb off n c i m k vD { γ with g := z } i_ v w' := by
  unfold RcDv at h ⊢
  split at h <;> first | exact h | exact absurd rfl hi | trivial
theorem RcDv.kp {R bb off n c i m k : Nat} {vD : Value} {γ : Gd} {z : Option Addr} {z2 : Nat} {i_ : Nat} {v : Value} {w w' : World} (hi : i_ ≠ 8) (h : RcDv R bb off n c i m k vD γ i_ v w) : RcDv R bb off n c i m k vD { γ with A1 := z, c1 := z2 } i_ v w' := by
  unfold RcDv at h ⊢
  split at h <;> first | exact h | exact absurd rfl hi | trivial
theorem RcDv.kq {R bb off n c i m k : Nat} {vD : Value} {γ : Gd} {z : Option Addr} {z2 : Nat} {i_ : Nat} {v : Value} {w w' : World} (hi : i_ ≠ 16) (h : RcDv R bb off n c i m k vD γ i_ v w) : RcDv R bb off n c i m k vD { γ with A2 := z, c2 := z2 } i_ v w' := by
  unfold RcDv at h ⊢
  split at h <;> first | exact h | exact absurd rfl hi | trivial
theorem RcDv.ix : Ix4 1 8 16 19 := ⟨by decide, by decide, by decide, by decide, by decide, by decide⟩
set_option maxRecDepth 100000 in
set_option maxHeartbeats 16000000 in
theorem rrtake_any {S : Nat} {s : RcS} (hn : s.l.length ≤ 99999) {base : Nat} (q : Int) : Acts 33 #[.pointer (some ⟨S, 0, none⟩), .int .i64 q] base (RrP S s) (fun _ : Unit => .int .i64 (rcTk s.l q)) fun _ => RrP S { s with l := rcRm s.l q } := by
  intro T w hP hb hs
  have hP0 := hP
  obtain ⟨h0, h1, h2, vL, h3, h4⟩ := hP
  have d3 := h3.read 2
  simp [rrC] at d3
  have HL := Lib.hid (fun k (hk : k < s.l.length) => h4.rc hk)
  have HPP := Lib.hid hP0
  obtain ⟨A, c, rfl, hcl, hcm⟩ := h4.shape
  have HLS := Lib.hid h4
  have HBK := Lib.hid h3
  have HT := Lib.hid h1
  have HT2 := Lib.hid h2
  have HOK := Lib.hid h0
  clear h0 h1 h2 h3 h4 hP0 hcm hb hs
  unfold rrC at HBK
  obtain ⟨s1, s2, l⟩ := s
  simp only at hn d3 HL hcl HPP HLS HBK HOK ⊢
  have HYES := Lib.hid (fun k (hk : k < l.length) (h : l[k].q = q) (h2 : ∀ j (hj : j < l.length), j < k → l[j].q ≠ q) => tk_is hk h h2)
  have HNO := Lib.hid (fun (h2 : ∀ j (hj : j < l.length), l[j].q ≠ q) => tk_none h2)
  have HOK2 := Lib.hid (show RcOk ⟨s1, s2, rcRm l q⟩ from ⟨HOK.out.w, HOK.out.nx, fun x hx => HOK.out.e x (rcRm_mem x hx)⟩)
  generalize rcTk l q = tk at *
  generalize rcRm l q = rm at *
  go_enter Try.func33, Try.ntmps33
  go_wp2_with fail
  go_loopw [5] (fun s5 wr => ∃ k : Nat, k ≤ l.length ∧ s5 = .int .i64 k ∧ Hid (∀ j (hj : j < l.length), j < k → l[j].q ≠ q) ∧ Hid (wr = w)) (fun s5 _ => l.length - (intOf s5).toNat)
  case atStart => exact ⟨0, Nat.zero_le _, rfl, Lib.hid (fun j _ hj => by omega), Lib.hid rfl⟩
  case round =>
    obtain ⟨k, hk, rfl, HN, HWW⟩ := hrel
    obtain rfl := HWW.out
    by_cases hlt : k < l.length
    · have hlt' : (k : Int) < l.length := by omega
      obtain ⟨bb, off, c', e1, _, _, hbw, q0, q1⟩ := HL.out k hlt
      obtain ⟨rfl, rfl⟩ : A = some ⟨bb, off, none⟩ ∧ c = c' := by simpa using e1
      have HN2 := Lib.hid (fun (h : l[k].q ≠ q) j (hj : j < l.length) (hjk : j < k + 1) => (by
        rcases Nat.lt_or_ge j k with h1 | h1
        · exact HN.out j hj h1
        · obtain rfl : j = k := by omega
          exact h : l[j].q ≠ q))
      have HY2 := Lib.hid (fun (h : l[k].q = q) => HYES.out k hlt h HN.out)
      obtain ⟨xx, hxx⟩ : ∃ xx, l[k] = xx := ⟨_, rfl⟩
      have HXX := Lib.hid hxx
      rw [hxx] at q0 q1
      obtain ⟨xq, xi⟩ := xx
      simp only at q0 q1
      rw [hxx] at HN2 HY2
      simp only at HN2 HY2
      clear HNO HYES e1 HL hxx
      by_cases hq : xq = q
      · subst hq
        have hK := HY2.out rfl
        have hgg : (xq == xq) = true := by simp
        obtain ⟨hTk, hRm⟩ := hK
        subst hTk hRm
        obtain ⟨A9, c9, e9, hic9, hM⟩ := HLS.out.take (i := k) (by omega)
        obtain ⟨rfl, rfl⟩ : some (⟨bb, off, none⟩ : Addr) = A9 ∧ c = c9 := by simpa using e9
        have hNN := HLS.out.drop (i := k + 1) (by omega)
        have HEND := Lib.hid (fun (u : World) (A2 : Option Addr) (n2 c2 : Nat) hr hl hbw => rr_end (s := ⟨s1, s2, l⟩) (s' := ⟨s1, s2, l.take k ++ l.drop (k + 1)⟩) (T := T) (w := wr) (u := u) (A2 := A2) (n2 := n2) (c2 := c2) HOK2.out rfl rfl HT.out HT2.out HBK.out hr hl hbw)
        have hmM : (l.take k).length ≤ 100000 := by rw [List.length_take]; omega
        have hmN : (l.drop (k + 1)).length ≤ 100000 := by rw [List.length_drop]; omega
        clear HN2 HY2 HN HPP HLS HOK HOK2 e9 HXX
        obtain ⟨M, hMe⟩ : ∃ M, l.take k = M := ⟨_, rfl⟩
        obtain ⟨N, hNe⟩ : ∃ N, l.drop (k + 1) = N := ⟨_, rfl⟩
        rw [hMe] at hM hmM
        rw [hNe] at hNN hmN
        have HMN := Lib.hid (And.intro hMe hNe)
        clear hMe hNe
        obtain ⟨n, hn_⟩ : ∃ n, l.length = n := ⟨_, rfl⟩
        simp only [hn_] at hlt hNN hcl d3 HBK hn hlt' hic9
        clear hn_
        obtain ⟨i, hi_⟩ : ∃ i, k = i := ⟨_, rfl⟩
        subst hi_
        obtain ⟨vD, hvD⟩ : ∃ vD, dropG 2 (.slice (some ⟨bb, off, none⟩) n c) (k + 1) = vD := ⟨_, rfl⟩
        rw [hvD] at hNN
        have HVD := Lib.hid hvD
        have HLM := Lib.hid hM
        have HLN := Lib.hid hNN
        clear hvD hM hNN
        have hi0 : (0 : Int) ≤ k := by omega
        have hic : (k : Int) ≤ c := by omega
        have hwi : IntKind.i64.wrap ((k : Int) + 1) = (k : Int) + 1 := IntWalk.i64_in _ (by omega)
        go_wp2_with fail
        refine wp_region_looseG 54 (by kernel_rfl) (by kernel_rfl) (DvC csH 2 67 wr S 2 M N 1 8 16 19) (RcDv S bb off n c k M.length N.length vD) ⟨0, none, 0, none, 0⟩ rfl (DvC.start (Below.refl _ _).drew _) ?_ ?_
        · simp only [OblAllG]
          refine ⟨?_, ?_, ?_, ?_, ?_, ?_, ?_, ?_, ?_, ?_, ?_, ?_, ?_, ?_, ?_, ?_, ?_, ?_, ?_, ?_, trivial⟩
          · intro γ U wx vals hi hu hcl hC hp
            simp [ClosedL, UpL, predL, predE, Region.binds] at hcl
            have hst : U 19 = false := by clear hC hp; cases h : U 19 with | false => rfl | true => exfalso; simp_all
            have HCx := Lib.hid hC
            simp only [fillA, if_true, Act.put]
            simp
            clear hp hC hcl hu hi hst
            go_wp2
            exact ⟨rfl, γ, HCx.out.quiet (by decide) (by decide) (by decide) (by decide), rfl, fun _ _ _ h => h⟩
          · intro γ U wx vals hi hu hcl hC hp
            simp [ClosedL, UpL, predL, predE, Region.binds] at hcl
            have hst : U 19 = false := by clear hC hp; cases h : U 19 with | false => rfl | true => exfalso; simp_all
            have hpf : U 8 = false := by clear hC hp; cases h : U 8 with | false => rfl | true => exfalso; simp_all
            have hqf : U 16 = false := by clear hC hp; cases h : U 16 with | false => rfl | true => exfalso; simp_all
            have HCx := Lib.hid hC
            simp only [fillA, if_true, Act.put]
            simp
            have HM := Lib.hid (hC.mk_e rcElt RcDv.ix hpf hqf hst)
            clear hp hC hcl hu hst hpf hqf
            go_wp2
            exact ⟨rfl, _, HM.out, rfl, fun jj u hj h => RcDv.kg (fun e => by rw [e, hi] at hj; cases hj) h⟩
          · intro γ U wx vals hi hu hcl hC hp
            simp [ClosedL, UpL, predL, predE, Region.binds] at hcl
            have hst : U 19 = false := by clear hC hp; cases h : U 19 with | false => rfl | true => exfalso; simp_all
            have HCx := Lib.hid hC
            simp only [fillA, if_true, Act.put]
            simp
            clear hp hC hcl hu hi hst
            go_wp2
            exact ⟨rfl, γ, HCx.out.quiet (by decide) (by decide) (by decide) (by decide), rfl, fun _ _ _ h => h⟩
          · intro γ U wx vals hi hu hcl hC hp
            simp [ClosedL, UpL, predL, predE, Region.binds] at hcl
            simp [predL, predE, Region.binds, UpL] at hu
            simp [predL, predE, Region.binds, PreV, RcDv] at hp
            have hst : U 19 = false := by clear hC hp; cases h : U 19 with | false => rfl | true => exfalso; simp_all
            have HCx := Lib.hid hC
            simp only [fillA, if_true, Act.put]
            simp
            simp only [hp]
            clear hp hC hcl hu hi hst
            go_wp2
            exact ⟨rfl, γ, HCx.out.quiet (by decide) (by decide) (by decide) (by decide), rfl, fun _ _ _ h => h⟩
          · intro γ U wx vals hi hu hcl hC hp
            simp [ClosedL, UpL, predL, predE, Region.binds] at hcl
            simp [predL, predE, Region.binds, UpL] at hu
            simp [predL, predE, Region.binds, PreV, RcDv] at hp
            have hst : U 19 = false := by clear hC hp; cases h : U 19 with | false => rfl | true => exfalso; simp_all
            have HCx := Lib.hid hC
            simp only [fillA, if_true, Act.put]
            simp
            simp only [hp]
            clear hp hC hcl hu hi hst
            go_wp2
            exact ⟨rfl, γ, HCx.out.quiet (by decide) (by decide) (by decide) (by decide), rfl, fun _ _ _ h => h⟩
          · intro γ U wx vals hi hu hcl hC hp
            simp [ClosedL, UpL, predL, predE, Region.binds] at hcl
            simp [predL, predE, Region.binds, UpL] at hu
            simp [predL, predE, Region.binds, PreV, RcDv] at hp
            have hst : U 19 = false := by clear hC hp; cases h : U 19 with | false => rfl | true => exfalso; simp_all
            have k1 := ((HBK.out.later (hC.bel hst)).read 2)
            simp at k1
            have HCx := Lib.hid hC
            simp only [fillA, if_true, Act.put]
            simp
            simp only [hp]
            clear hp hC hcl hu hi hst
            go_wp2
            exact ⟨rfl, γ, HCx.out.quiet (by decide) (by decide) (by decide) (by decide), rfl, fun _ _ _ h => h⟩
          · intro γ U wx vals hi hu hcl hC hp
            simp [ClosedL, UpL, predL, predE, Region.binds] at hcl
            have hst : U 19 = false := by clear hC hp; cases h : U 19 with | false => rfl | true => exfalso; simp_all
            have HCx := Lib.hid hC
            simp only [fillA, if_true, Act.put]
            simp
            clear hp hC hcl hu hi hst
            go_wp2
            exact ⟨rfl, γ, HCx.out.quiet (by decide) (by decide) (by decide) (by decide), rfl, fun _ _ _ h => h⟩
          · intro γ U wx vals hi hu hcl hC hp
            simp [ClosedL, UpL, predL, predE, Region.binds] at hcl
            simp [predL, predE, Region.binds, UpL] at hu
            simp [predL, predE, Region.binds, PreV, RcDv] at hp
            have hst : U 19 = false := by clear hC hp; cases h : U 19 with | false => rfl | true => exfalso; simp_all
            have HCx := Lib.hid hC
            simp only [fillA, if_true, Act.put]
            simp
            simp only [hp]
            clear hp hC hcl hu hi hst
            go_wp2
            exact ⟨rfl, γ, HCx.out.quiet (by decide) (by decide) (by decide) (by decide), rfl, fun _ _ _ h => h⟩
          · intro γ U wx vals hi hu hcl hC hp
            simp [ClosedL, UpL, predL, predE, Region.binds] at hcl
            simp [predL, predE, Region.binds, UpL] at hu
            simp [predL, predE, Region.binds, PreV, RcDv] at hp
            have hst : U 19 = false := by clear hC hp; cases h : U 19 with | false => rfl | true => exfalso; simp_all
            have hqf : U 16 = false := by clear hC hp; cases h : U 16 with | false => rfl | true => exfalso; simp_all
            have HCx := Lib.hid hC
            simp only [fillA, if_true, Act.put]
            simp
            obtain ⟨A1, c1, w2, hrun, hX⟩ := hC.mk_p rcElt RcDv.ix (by simp [hu]) hi hqf hst HLM.out HT.out hmM
            have HM := Lib.hid hX
            simp only [hp]
            clear hp hC hcl hu hst hqf hX
            refine wpList_append_run rfl (.tmp 35) (.tmp 41) 33 rfl rfl rfl hrun ?_
            clear hrun
            go_wp2
            exact ⟨rfl, _, HM.out, rfl, fun jj u hj h => RcDv.kp (fun e => by rw [e, hi] at hj; cases hj) h⟩
          · intro γ U wx vals hi hu hcl hC hp
            simp [ClosedL, UpL, predL, predE, Region.binds] at hcl
            have hst : U 19 = false := by clear hC hp; cases h : U 19 with | false => rfl | true => exfalso; simp_all
            have HCx := Lib.hid hC
            simp only [fillA, if_true, Act.put]
            simp
            clear hp hC hcl hu hi hst
            go_wp2
            exact ⟨rfl, γ, HCx.out.quiet (by decide) (by decide) (by decide) (by decide), rfl, fun _ _ _ h => h⟩
          · intro γ U wx vals hi hu hcl hC hp
            simp [ClosedL, UpL, predL, predE, Region.binds] at hcl
            simp [predL, predE, Region.binds, UpL] at hu
            simp [predL, predE, Region.binds, PreV, RcDv] at hp
            have hst : U 19 = false := by clear hC hp; cases h : U 19 with | false => rfl | true => exfalso; simp_all
            have HCx := Lib.hid hC
            simp only [fillA, if_true, Act.put]
            simp
            simp only [hp]
            clear hp hC hcl hu hi hst
            go_wp2
            exact ⟨rfl, γ, HCx.out.quiet (by decide) (by decide) (by decide) (by decide), rfl, fun _ _ _ h => h⟩
          · intro γ U wx vals hi hu hcl hC hp
            simp [ClosedL, UpL, predL, predE, Region.binds] at hcl
            simp [predL, predE, Region.binds, UpL] at hu
            simp [predL, predE, Region.binds, PreV, RcDv] at hp
            have hst : U 19 = false := by clear hC hp; cases h : U 19 with | false => rfl | true => exfalso; simp_all
            have HCx := Lib.hid hC
            simp only [fillA, if_true, Act.put]
            simp
            simp only [hp]
            clear hp hC hcl hu hi hst
            go_wp2
            exact ⟨rfl, γ, HCx.out.quiet (by decide) (by decide) (by decide) (by decide), rfl, fun _ _ _ h => h⟩
          · intro γ U wx vals hi hu hcl hC hp
            simp [ClosedL, UpL, predL, predE, Region.binds] at hcl
            simp [predL, predE, Region.binds, UpL] at hu
            simp [predL, predE, Region.binds, PreV, RcDv] at hp
            have hst : U 19 = false := by clear hC hp; cases h : U 19 with | false => rfl | true => exfalso; simp_all
            have k1 := ((HBK.out.later (hC.bel hst)).read 2)
            simp at k1
            have HCx := Lib.hid hC
            simp only [fillA, if_true, Act.put]
            simp
            simp only [hp]
            clear hp hC hcl hu hi hst
            go_wp2
            exact ⟨rfl, γ, HCx.out.quiet (by decide) (by decide) (by decide) (by decide), rfl, fun _ _ _ h => h⟩
          · intro γ U wx vals hi hu hcl hC hp
            simp [ClosedL, UpL, predL, predE, Region.binds] at hcl
            have hst : U 19 = false := by clear hC hp; cases h : U 19 with | false => rfl | true => exfalso; simp_all
            have HCx := Lib.hid hC
            simp only [fillA, if_true, Act.put]
            simp
            clear hp hC hcl hu hi hst
            go_wp2
            exact ⟨rfl, γ, HCx.out.quiet (by decide) (by decide) (by decide) (by decide), rfl, fun _ _ _ h => h⟩
          · intro γ U wx vals hi hu hcl hC hp
            simp [ClosedL, UpL, predL, predE, Region.binds] at hcl
            simp [predL, predE, Region.binds, UpL] at hu
            simp [predL, predE, Region.binds, PreV, RcDv] at hp
            have hst : U 19 = false := by clear hC hp; cases h : U 19 with | false => rfl | true => exfalso; simp_all
            have HCx := Lib.hid hC
            simp only [fillA, if_true, Act.put]
            simp
            simp only [hp]
            clear hp hC hcl hu hi hst
            go_wp2
            exact ⟨rfl, γ, HCx.out.quiet (by decide) (by decide) (by decide) (by decide), rfl, fun _ _ _ h => h⟩
          · intro γ U wx vals hi hu hcl hC hp
            simp [ClosedL, UpL, predL, predE, Region.binds] at hcl
            simp [predL, predE, Region.binds, UpL] at hu
            simp [predL, predE, Region.binds, PreV, RcDv] at hp
            have hst : U 19 = false := by clear hC hp; cases h : U 19 with | false => rfl | true => exfalso; simp_all
            have HCx := Lib.hid hC
            simp only [fillA, if_true, Act.put]
            simp
            simp only [hp]
            clear hp hC hcl hu hi hst
            by_cases hce : k + 1 = c
            · have hvd : vD = .slice (some ⟨bb, off, none⟩) 0 0 := by rw [← HVD.out]; unfold dropG; simp only [if_pos hce]
              have hn1 : n = k + 1 := by omega
              subst hn1
              have hci : ((k + 1 : Nat) : Int) = (k : Int) + 1 := by omega
              subst hce
              go_wp2
              exact ⟨rfl, γ, HCx.out.quiet (by decide) (by decide) (by decide) (by decide), hvd.symm, fun _ _ _ h => h⟩
            · have hvd : vD = .slice (some ⟨bb, off + (k + 1) * 2, none⟩) (n - (k + 1)) (c - (k + 1)) := by rw [← HVD.out]; unfold dropG; simp only [if_neg hce, Addr.add_lit]
              have hlt9 : (k : Int) + 1 < c := by omega
              have hle9 : (k : Int) + 1 ≤ n := by omega
              go_wp2
              exact ⟨rfl, γ, HCx.out.quiet (by decide) (by decide) (by decide) (by decide), hvd.symm, fun _ _ _ h => h⟩
          · intro γ U wx vals hi hu hcl hC hp
            simp [ClosedL, UpL, predL, predE, Region.binds] at hcl
            simp [predL, predE, Region.binds, UpL] at hu
            simp [predL, predE, Region.binds, PreV, RcDv] at hp
            have hst : U 19 = false := by clear hC hp; cases h : U 19 with | false => rfl | true => exfalso; simp_all
            have HCx := Lib.hid hC
            simp only [fillA, if_true, Act.put]
            simp
            obtain ⟨A2, c2, w2, hrun, hX⟩ := hC.mk_q rcElt RcDv.ix (by simp [hu]) hi hst HLN.out HT.out hmM hmN
            have HM := Lib.hid hX
            simp only [hp]
            clear hp hC hcl hu hst hX
            refine wpList_append_run rfl (.tmp 42) (.tmp 49) 33 rfl rfl rfl hrun ?_
            clear hrun
            go_wp2
            exact ⟨rfl, _, HM.out, rfl, fun jj u hj h => RcDv.kq (fun e => by rw [e, hi] at hj; cases hj) h⟩
          · intro γ U wx vals hi hu hcl hC hp
            simp [ClosedL, UpL, predL, predE, Region.binds] at hcl
            simp [predL, predE, Region.binds, UpL] at hu
            simp [predL, predE, Region.binds, PreV, RcDv] at hp
            have hst : U 19 = false := by clear hC hp; cases h : U 19 with | false => rfl | true => exfalso; simp_all
            have HCx := Lib.hid hC
            simp only [fillA, if_true, Act.put]
            simp
            simp only [hp]
            clear hp hC hcl hu hi hst
            go_wp2
            exact ⟨rfl, γ, HCx.out.quiet (by decide) (by decide) (by decide) (by decide), rfl, fun _ _ _ h => h⟩
          · intro γ U wx vals hi hu hcl hC hp
            simp [ClosedL, UpL, predL, predE, Region.binds] at hcl
            simp [predL, predE, Region.binds, UpL] at hu
            simp [predL, predE, Region.binds, PreV, RcDv] at hp
            have hst : U 19 = false := by clear hC hp; cases h : U 19 with | false => rfl | true => exfalso; simp_all
            have HCx := Lib.hid hC
            simp only [fillA, if_true, Act.put]
            simp
            simp only [hp]
            clear hp hC hcl hu hi hst
            go_wp2
            exact ⟨rfl, γ, HCx.out.quiet (by decide) (by decide) (by decide) (by decide), rfl, fun _ _ _ h => h⟩
          · intro γ U wx vals hi hu hcl hC hp
            simp [ClosedL, UpL, predL, predE, Region.binds] at hcl
            simp [predL, predE, Region.binds, UpL] at hu
            simp [predL, predE, Region.binds, PreV, RcDv] at hp
            have hst : U 19 = false := hi
            have HCx := Lib.hid hC
            simp only [fillA, if_true, Act.put]
            simp
            have HM := Lib.hid (hC.mk_s (by simp [hu]) hst)
            have hfr := (HBK.out.later (hC.bel hst)).free
            have hrd := (HBK.out.later (hC.bel hst)).read 2
            simp at hrd
            simp only [hp]
            clear hp hC hcl hu hst
            go_wp2
            exact ⟨rfl, γ, HM.out, trivial, fun _ _ _ h => h⟩
        · intro γ wz vals U hC hall hV
          obtain ⟨u, hbu, howu, rfl⟩ := hC.ss (hall 19 (by simp))
          have HF := Lib.hid (HEND.out u γ.A2 (M.length + N.length) γ.c2 (by rw [HMN.out.1, HMN.out.2]; exact howu) (by rw [HMN.out.1, HMN.out.2]; simp) hbu)
          simp only [fillA, if_true, Act.put]
          simp
          clear hV hC hall HEND HLM HLN HVD HBK HT howu hbu
          go_wp2
          go_ret
          first | exact ⟨rfl, HF.out⟩ | exact ⟨(), rfl, HF.out⟩
      · have HN3 := Lib.hid (HN2.out hq)
        have hqq : (xq == q) = false := by simpa using hq
        clear HN2 HY2 HN
        go_wp2
        go_roundw
        case rel => exact ⟨k + 1, by omega, by go_num, HN3, by first | exact Lib.hid rfl | exact Lib.hid trivial⟩
        case measure => simp [intOf]; omega
    · obtain rfl : k = l.length := by omega
      obtain ⟨e1, e2⟩ := HNO.out (fun j hj => HN.out j hj hj)
      subst e1 e2
      have HF := Lib.hid (show (∃ T', RrP S ⟨s1, s2, rm⟩ T' wr ∧ ∀ j, T' j → T j ∨ wr.heap.size ≤ j) ∧ Chg T wr wr from ⟨⟨T, HPP.out, fun k hk => .inl hk⟩, Chg.refl _ _⟩)
      clear HL HNO HYES HN HPP HLS
      go_wp2
      go_ret
      first | exact ⟨rfl, HF.out⟩ | exact ⟨(), rfl, HF.out⟩
end Go.Proofs.Ythmncipenjhknaa

