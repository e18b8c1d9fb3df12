/-
  Layer 15: contracts of the reference's ValidPredictor, NewChannel, Predict, Announce, Observe, History.
-/
import Derived.Test.YtaohfcchejedkaaChPlain
import Derived.Test.YtaohfcchejedkaaLsG
import Derived.Test.YtaohfcchejedkaaSep
import Derived.Deep.LoopGhost
import Derived.Deep.QuietTactic
import Derived.BigQuiet
import Derived.LoopTactic
namespace Go.Proofs.Ytaohfcchejedkaa
open Go.ChangeShapes Go.WideShapes Go.ChangeAt Go.RowKit
set_option linter.unusedVariables false

def aggPd (p : Pd) : Value := .agg #[.int .i64 p.k, .int .i64 p.K, .int .i64 p.N]
theorem rvalidP_any (p : Pd) (w : World) : Calls Try.prog 11 #[aggPd p] w (Calm (.bool (pdB p)) w) := by
  obtain ⟨k, K, N⟩ := p
  have HB := Lib.hid ((Below.refl w.heap.size w).alloc (Nat.le_refl _) (.cells #[.int .i64 k, .int .i64 K, .int .i64 N] 24))
  have hno := pd_not (p := ⟨k, K, N⟩)
  have hyes := pd_of (p := ⟨k, K, N⟩)
  simp only at hno hyes
  have hc : ((k = 0 ∨ k = 2) ∧ ¬ K = 0 ∧ pdB ⟨k, K, N⟩ = false) ∨ ((k = 0 ∨ k = 2) ∧ K = 0 ∧ ¬ N = 0 ∧ pdB ⟨k, K, N⟩ = false) ∨ ((k = 0 ∨ k = 2) ∧ K = 0 ∧ N = 0 ∧ pdB ⟨k, K, N⟩ = true) ∨ ((¬ k = 0 ∧ ¬ k = 1 ∧ ¬ k = 2) ∧ pdB ⟨k, K, N⟩ = false) ∨
      (k = 1 ∧ N < 1 ∧ pdB ⟨k, K, N⟩ = false) ∨ (k = 1 ∧ 1 ≤ N ∧ 32 < N ∧ pdB ⟨k, K, N⟩ = false) ∨ (k = 1 ∧ 1 ≤ N ∧ N ≤ 32 ∧ K < 1 ∧ pdB ⟨k, K, N⟩ = false) ∨ (k = 1 ∧ 1 ≤ N ∧ N ≤ 32 ∧ 1 ≤ K ∧ N < K ∧ pdB ⟨k, K, N⟩ = false) ∨ (k = 1 ∧ 1 ≤ N ∧ N ≤ 32 ∧ 1 ≤ K ∧ K ≤ N ∧ pdB ⟨k, K, N⟩ = true) := by
    by_cases h1 : k = 0 ∨ k = 2
    · by_cases h2 : K = 0
      · by_cases h3 : N = 0
        · exact .inr (.inr (.inl ⟨h1, h2, h3, hyes (.inl ⟨h1, h2, h3⟩)⟩))
        · exact .inr (.inl ⟨h1, h2, h3, hno (by omega)⟩)
      · exact .inl ⟨h1, h2, hno (by omega)⟩
    by_cases h4 : k = 1
    · by_cases h5 : N < 1
      · exact .inr (.inr (.inr (.inr (.inl ⟨h4, h5, hno (by omega)⟩))))
      by_cases h6 : 32 < N
      · exact .inr (.inr (.inr (.inr (.inr (.inl ⟨h4, by omega, h6, hno (by omega)⟩)))))
      by_cases h7 : K < 1
      · exact .inr (.inr (.inr (.inr (.inr (.inr (.inl ⟨h4, by omega, by omega, h7, hno (by omega)⟩))))))
      by_cases h8 : N < K
      · exact .inr (.inr (.inr (.inr (.inr (.inr (.inr (.inl ⟨h4, by omega, by omega, by omega, h8, hno (by omega)⟩)))))))
      · exact .inr (.inr (.inr (.inr (.inr (.inr (.inr (.inr ⟨h4, by omega, by omega, by omega, by omega, hyes (.inr ⟨h4, by omega, by omega⟩)⟩)))))))
    · exact .inr (.inr (.inr (.inl ⟨by omega, hno (by omega)⟩)))
  unfold Calm aggPd
  clear hno hyes
  rcases hc with ⟨h1, h2, e⟩ | ⟨h1, h2, h3, e⟩ | ⟨h1, h2, h3, e⟩ | ⟨⟨h1, h2, h3⟩, e⟩ | ⟨h1, h2, e⟩ | ⟨h1, h2, h3, e⟩ | ⟨h1, h2, h3, h4, e⟩ | ⟨h1, h2, h3, h4, h5, e⟩ | ⟨h1, h2, h3, h4, h5, e⟩
  case inr.inr.inr.inl =>
    rw [e]
    clear e
    go_enter Try.func11, Try.ntmps11
    go_wp2
    go_ret
    exact ⟨rfl, HB.out⟩
  all_goals
    rw [e]
    clear e
    try subst h2
    try subst h3
    first
    | (rcases h1 with rfl | rfl
       all_goals
        go_enter Try.func11, Try.ntmps11
        go_wp2
        go_ret
        first | exact ⟨rfl, HB.out⟩ | exact ⟨ret_bool (by simp <;> omega), HB.out⟩)
    | (subst h1
       go_enter Try.func11, Try.ntmps11
       go_wp2
       go_ret
       first | exact ⟨rfl, HB.out⟩ | exact ⟨ret_bool (by simp <;> omega), HB.out⟩)
/-! ### the reference's object -/
def csB (b : Bool) : List Value := [.bool b]
theorem csB_len (b : Bool) : (csB b).length = 1 := rfl
theorem csB_one (b : Bool) : ∀ u ∈ csB b, u.oneCell' = true := by
  intro u hu; simp [csB] at hu; subst hu; rfl
theorem info_bl : (Try.prog.info? 4).map (fun i => (i.zero, i.size, i.bytes)) = some (some (.bool false), 1, 1) := by kernel_rfl
def rcC (s : Ch) (vL : Value) : Array Value := #[.int .i64 s.p.k, .int .i64 s.p.K, .int .i64 s.p.N, vL, .bool s.an, .bool s.sa, .int .i64 s.ri]
structure ChOk (s : Ch) : Prop where
  p : pdB s.p = true
  r : 0 ≤ s.ri ∧ s.ri ≤ s.l.length
theorem ChOk.new {p : Pd} (h : pdB p = true) : ChOk (Ch.new p) := ⟨h, by simp [Ch.new]⟩
theorem ChOk.ann {s : Ch} (h : ChOk s) (g : Bool) : ChOk (s.ann g) := ⟨h.p, h.r⟩
theorem ChOk.obs {s : Ch} (h : ChOk s) (g : Bool) : ChOk (s.obs g) := by
  refine ⟨h.p, ?_⟩
  have := h.r
  simp only [Ch.obs, List.length_append, List.length_singleton]
  split <;> (push_cast; omega)
/-- The reference's channel in block S. -/
def RcP (S : Nat) (s : Ch) : RP := fun T w => ChOk s ∧ (∀ k, T k → k < w.heap.size) ∧ T S ∧ ∃ vL, Whole w S 46 (rcC s vL) ∧ LsG csB 1 4 w T vL s.l
theorem RcP.frm {base S : Nat} {s : Ch} : Frm base (RcP S s) := by
  refine ⟨fun ⟨_, h1, _⟩ => h1, fun {T U w w'} ⟨h0, h1, h2, vL, h3, h4⟩ hc hb hs => ?_⟩
  exact ⟨h0, fun k hk => by have := h1 k hk; have := hc.size; omega, h2, vL, h3.carry (hc.block S (h1 S h2) (hs S h2)), h4.keep fun b hb => hc.block b (h1 b hb) (hs b hb)⟩
/-- Its list lies elsewhere than it. -/
theorem RcP.list {S : Nat} {T : Nat → Prop} {w : World} {vL : Value} {cs : Array Value} {l : List Bool} (h3 : Whole w S 46 cs) (h4 : LsG csB 1 4 w T vL l) : LsG csB 1 4 w (fun b => T b ∧ b ≠ S) vL l := by
  refine h4.typed fun b hb cur hcur => ⟨hb, fun e => ?_⟩
  subst e
  have h5 : some (Obj.cells cur 4 (0, 0)) = some (Obj.cells cs 46 (0, 0)) := Eq.trans (Eq.symm hcur) h3
  simp at h5
theorem rcnew_any {p : Pd} (hp : pdB p = true) {base : Nat} : Acts 14 #[aggPd p] base Emp (fun S : Nat => .tuple #[.pointer (some ⟨S, 0, none⟩), .int .i64 0]) fun S => RcP S (Ch.new p) := by
  intro T w hT hb hs
  have HV := rvalidP_any p
  rw [hp] at HV
  have hok := ChOk.new hp
  obtain ⟨k, K, N⟩ := p
  unfold Calm aggPd at *
  simp only at HV ⊢
  have HV := Lib.hid HV
  have HB := Lib.hid (fun (W : World) (h : Below (w.alloc (.cells #[.int .i64 k, .int .i64 K, .int .i64 N] 24)).heap.size (w.alloc (.cells #[.int .i64 k, .int .i64 K, .int .i64 N] 24)) W) =>
    And.intro ((Whole.fresh w 24 #[.int .i64 k, .int .i64 K, .int .i64 N]).later h) (((Below.refl w.heap.size w).alloc (Nat.le_refl _) _).trans (h.mono (by simp))))
  have HOK := Lib.hid hok
  clear hok hp
  go_enter Try.func14, Try.ntmps14
  go_wp2_with fail
  (with_reducible refine (HV.out _).mono ?_); rintro e w1 ⟨rfl, hb1⟩
  obtain ⟨hw, hbl⟩ := HB.out w1 hb1
  have d0 := hw.read 0
  have d1 := hw.read 1
  have d2 := hw.read 2
  simp at d0 d1 d2
  have HF := Lib.hid (show ∃ i : Nat, Ending.returned (.tuple #[.pointer (some ⟨w1.heap.size, 0, none⟩), .int .i64 0]) = .returned (.tuple #[.pointer (some ⟨i, 0, none⟩), .int .i64 0]) ∧ (∃ T', RcP i (Ch.new ⟨k, K, N⟩) T' (w1.alloc (.cells #[.int .i64 k, .int .i64 K, .int .i64 N, .slice none 0 0, .bool false, .bool false, .int .i64 0] 46)) ∧ ∀ j, T' j → T j ∨ w.heap.size ≤ j) ∧ Chg T w (w1.alloc (.cells #[.int .i64 k, .int .i64 K, .int .i64 N, .slice none 0 0, .bool false, .bool false, .int .i64 0] 46)) from
    ⟨w1.heap.size, rfl, ⟨fun j => j = w1.heap.size, ⟨HOK.out, fun j hj => by rw [hj]; simp, rfl, _, Whole.fresh w1 _ _, LsG.nil _ _⟩, fun j hj => .inr (by rw [hj]; exact hbl.size)⟩, (Chg.of_below hbl).alloc _⟩)
  clear hw hbl hb1 HB HV
  go_wp2
  go_ret2
  exact HF.out
theorem rcnew_no {p : Pd} (hp : pdB p = false) (w : World) : Calls Try.prog 14 #[aggPd p] w (Calm (.tuple #[.pointer none, .int .i64 1]) w) := by
  have HV := rvalidP_any p
  rw [hp] at HV
  obtain ⟨k, K, N⟩ := p
  unfold Calm aggPd at *
  simp only at HV ⊢
  have HV := Lib.hid HV
  have HB := Lib.hid ((Below.refl w.heap.size w).alloc (Nat.le_refl _) (.cells #[.int .i64 k, .int .i64 K, .int .i64 N] 24))
  clear hp
  go_enter Try.func14, Try.ntmps14
  go_wp2_with fail
  (with_reducible refine (HV.out _).mono ?_); rintro e w1 ⟨rfl, hb1⟩
  have HF := Lib.hid (HB.out.trans (hb1.mono (by simp)))
  clear hb1
  go_wp2
  go_ret2
  exact ⟨rfl, HF.out⟩
theorem rcann_any {S : Nat} {s : Ch} {base : Nat} (g : Bool) : Acts 16 #[.pointer (some ⟨S, 0, none⟩), .bool g] base (RcP S s) (fun _ : Unit => .tuple #[]) fun _ => RcP S (s.ann g) := by
  intro T w ⟨h0, h1, h2, vL, h3, h4⟩ hb hs
  have hl := RcP.list h3 h4
  have d0 := h3.read 4
  have d1 := h3.read 5
  have z0 := h3.free 4
  have z1 := h3.free 5
  simp [rcC] at d0 d1
  have HF := Lib.hid (show ∃ i : Unit, Ending.returned (.tuple #[]) = .returned (.tuple #[]) ∧ (∃ T', RcP S (s.ann g) T' ((w.setCell ⟨S, 4, none⟩ (.bool true)).setCell ⟨S, 5, none⟩ (.bool g)) ∧ ∀ j, T' j → T j ∨ w.heap.size ≤ j) ∧ Chg T w ((w.setCell ⟨S, 4, none⟩ (.bool true)).setCell ⟨S, 5, none⟩ (.bool g)) from
    ⟨(), rfl, ⟨T, ⟨h0.ann g, fun k hk => by have := h1 k hk; simpa [World.setCell] using this, h2, vL, (h3.put 4 (.bool true)).put 5 (.bool g), (hl.keep fun b hb => by rw [Below.heap_setCell _ _ _ _ (by simpa using hb.2), Below.heap_setCell _ _ _ _ (by simpa using hb.2)]).wider fun b hb => hb.1⟩, fun k hk => .inl hk⟩, ((Chg.refl T w).setCell h2 4 _).setCell h2 5 _⟩)
  clear h0 h1 h2 h3 h4 hl hb hs
  go_enter Try.func16, Try.ntmps16
  go_wp2
  go_end0
  obtain ⟨_, _, h2, h3⟩ := HF.out
  first | exact ⟨rfl, h2, h3⟩ | exact ⟨(), rfl, h2, h3⟩

/-! ### Predict -/
def wiK (l : List Bool) (N : Int) (i : Nat) : Int := max (N - l.length) 0 + cnt ((l.take i).drop (l.length - N.toNat))
theorem wiK_start (l : List Bool) (N : Int) : wiK l N (l.length - N.toNat) = max (N - l.length) 0 := by
  unfold wiK
  have : (l.take (l.length - N.toNat)).drop (l.length - N.toNat) = [] := List.drop_of_length_le (by rw [List.length_take]; omega)
  rw [this]; simp [cnt]
theorem wiK_next {l : List Bool} {N : Int} {i : Nat} (h1 : l.length - N.toNat ≤ i) (h2 : i < l.length) : wiK l N (i + 1) = wiK l N i + if l[i] = true then 1 else 0 := by
  unfold wiK
  rw [List.take_add_one, List.getElem?_eq_getElem h2, List.drop_append_of_le_length (by rw [List.length_take]; omega), cnt_app]
  simp only [Option.toList, cnt]
  omega
theorem wiK_end (l : List Bool) (N : Int) : wiK l N l.length = winC l N := by
  unfold wiK winC lastN
  rw [List.take_length]
theorem wiK_bd (l : List Bool) {N : Int} (h : N ≤ 32) (i : Nat) : 0 ≤ wiK l N i ∧ wiK l N i ≤ 32 + l.length := by
  have h1 := cnt_bd ((l.take i).drop (l.length - N.toNat))
  rw [List.length_drop, List.length_take] at h1
  unfold wiK; omega
set_option maxRecDepth 100000 in
set_option maxHeartbeats 4000000 in
theorem rcpred_same {S : Nat} {s : Ch} (hn : s.l.length ≤ 100000) {T : Nat → Prop} {w : World} (h : RcP S s T w) : Calls Try.prog 21 #[.pointer (some ⟨S, 0, none⟩)] w fun e w' => e = .returned (.bool (prB s)) ∧ w = w' := by
  obtain ⟨h0, h1, h2, vL, h3, h4⟩ := h
  obtain ⟨A, c, rfl, _, _⟩ := h4.shape
  have hat := h4.at_ rfl
  have d0 := h3.read 0
  have d1 := h3.read 1
  have d2 := h3.read 2
  have d3 := h3.read 3
  have d4 := h3.read 4
  have d5 := h3.read 5
  simp [rcC] at d0 d1 d2 d3 d4 d5
  have HL := Lib.hid (fun i (hi : i < s.l.length) => (by
    obtain ⟨b, off, e, _, _, hc⟩ := hat i hi
    exact ⟨b, off, e, (by have := hc 0 (by omega); rw [Nat.mul_one, Nat.add_zero] at this; exact this)⟩ : ∃ b off, A = some ⟨b, off, none⟩ ∧ w.cell? ⟨b, off + i, none⟩ = some (.bool s.l[i])))
  have hp := pd_cases h0.p
  have hw := pr_window (s := s)
  have hsd := pr_said (s := s)
  have hla := pr_last (s := s)
  have HWS := Lib.hid (wiK_start s.l s.p.N)
  have HWN := Lib.hid (fun i h1 h2 => wiK_next (l := s.l) (N := s.p.N) (i := i) h1 h2)
  have HWE := Lib.hid (wiK_end s.l s.p.N)
  have HWB := Lib.hid (fun (h : s.p.N ≤ 32) i => wiK_bd s.l h i)
  have HLA := Lib.hid (fun (h : 0 < s.l.length) => la_at h)
  have HLN := Lib.hid (fun (h : s.l = []) => (by rw [h]; rfl : laB s.l = true))
  clear hat h0 h1 h2 h3 h4
  obtain ⟨⟨k, K, N⟩, l, an, sa, ri⟩ := s
  simp only at hn d0 d1 d2 d3 d4 d5 HL hp hw hsd hla HWS HWN HWE HWB HLA HLN
  rcases hp with ⟨hk, rfl, rfl⟩ | ⟨rfl, ⟨n1, n2⟩, k1, k2⟩
  · have hcase : (k = 2 ∧ an = true ∧ prB ⟨⟨k, 0, 0⟩, l, an, sa, ri⟩ = sa) ∨ (k = 2 ∧ an = false ∧ prB ⟨⟨k, 0, 0⟩, l, an, sa, ri⟩ = laB l) ∨ (k = 0 ∧ prB ⟨⟨k, 0, 0⟩, l, an, sa, ri⟩ = laB l) := by
      rcases hk with h | h
      · exact .inr (.inr ⟨h, hla (by omega) (by omega)⟩)
      · cases an
        · exact .inr (.inl ⟨h, rfl, hla (by omega) (by simp)⟩)
        · exact .inl ⟨h, rfl, hsd h rfl⟩
    clear hla hsd hw hk HWS HWN HWE HWB
    rcases hcase with ⟨rfl, rfl, e⟩ | ⟨rfl, rfl, e⟩ | ⟨rfl, e⟩
    · rw [e]
      clear e HL HLA HLN
      go_enter Try.func21, Try.ntmps21
      go_wp2
      go_ret
      exact ⟨rfl, rfl⟩
    all_goals
      rw [e]
      clear e
      rcases Nat.eq_zero_or_pos l.length with h0 | h0
      · have hl : l = [] := List.eq_nil_of_length_eq_zero h0
        rw [HLN.out hl]
        subst hl
        simp only [List.length_nil] at *
        clear HL HLA HLN h0 hn
        go_enter Try.func21, Try.ntmps21
        go_wp2
        go_ret
        exact ⟨rfl, rfl⟩
      · rw [HLA.out h0]
        obtain ⟨b, off, rfl, hc⟩ := HL.out (l.length - 1) (by omega)
        generalize l[l.length - 1] = g at *
        obtain ⟨m, hm⟩ : ∃ m, l.length = m + 1 := ⟨l.length - 1, by omega⟩
        rw [hm] at hc d3 hn
        simp only [Nat.add_sub_cancel] at hc
        have hz : (((m + 1 : Nat) : Int) == 0) = false := by simp; omega
        have hw1 : IntKind.i64.wrap (((m + 1 : Nat) : Int) - 1) = (m : Int) := by rw [IntWalk.i64_in _ (by omega)]; omega
        clear HL HLA HLN h0 hm
        go_enter Try.func21, Try.ntmps21
        go_wp2
        go_ret
        exact ⟨rfl, rfl⟩
  · rw [hw rfl]
    clear hw hsd hla HLA HLN
    have hs1 : IntKind.i64.wrap (N - l.length) = N - l.length := IntWalk.i64_in _ (by omega)
    have hs2 : IntKind.i64.wrap ((l.length : Int) - N) = (l.length : Int) - N := IntWalk.i64_in _ (by omega)
    rcases (by omega : (l.length : Int) < N ∨ (N ≤ (l.length : Int) ∧ (l.length : Int) ≤ N) ∨ N < (l.length : Int)) with hc0 | ⟨hc0, hc1⟩ | hc0
    · have m1 : (0 : Int) < N - l.length := by omega
      have m2 : (l.length : Int) - N < 0 := by omega
      obtain ⟨a, ha⟩ : ∃ a, l.length - N.toNat = a := ⟨_, rfl⟩
      have ha0 : a = 0 := by omega
      have hst := HWS.out
      rw [ha, ha0] at hst
      rw [ha] at HWN
      subst ha0
      have HST := Lib.hid (show N - (l.length : Int) = wiK l N 0 by rw [hst]; omega)
      clear hst ha HWS
      go_enter Try.func21, Try.ntmps21
      go_wp2_with fail
      go_loopw [4, 5] (fun s4 s5 wr => ∃ i : Nat, 0 ≤ i ∧ i ≤ l.length ∧ s5 = .int .i64 i ∧ s4 = .int .i64 (wiK l N i) ∧ Hid (wr = w)) (fun _ s5 _ => l.length - (intOf s5).toNat)
      case atStart => exact ⟨0, Nat.le_refl _, by omega, rfl, by rw [HST.out], Lib.hid rfl⟩
      case round =>
        obtain ⟨i, hai, hi, rfl, rfl, HWW⟩ := hrel
        obtain rfl := HWW.out
        have hb9 := HWB.out n2 i
        by_cases hlt : i < l.length
        · have hlt' : (i : Int) < l.length := by omega
          obtain ⟨b, off, rfl, hc⟩ := HL.out i hlt
          have hnx := HWN.out i hai hlt
          have hwr : IntKind.i64.wrap (wiK l N i + 1) = wiK l N i + 1 := IntWalk.i64_in _ (by omega)
          cases hg : l[i]
          · rw [hg] at hc hnx
            have HNX := Lib.hid (show wiK l N (i + 1) = wiK l N i by rw [hnx]; simp)
            clear hnx hwr hg HWN HWB HWE HL hb9
            go_wp2
            go_roundw
            case rel => exact ⟨i + 1, by omega, by omega, by go_num, by rw [HNX.out], (by first | exact Lib.hid rfl | exact Lib.hid trivial)⟩
            case measure => simp [intOf]; omega
          · rw [hg] at hc hnx
            have HNX := Lib.hid (show wiK l N (i + 1) = wiK l N i + 1 by rw [hnx]; simp)
            clear hnx hg HWN HWB HWE HL hb9
            go_wp2
            go_roundw
            case rel => exact ⟨i + 1, by omega, by omega, by go_num, by rw [HNX.out], (by first | exact Lib.hid rfl | exact Lib.hid trivial)⟩
            case measure => simp [intOf]; omega
        · obtain rfl : i = l.length := by omega
          have HE := Lib.hid HWE.out
          clear HWN HWB HWE HL hb9
          go_wp2
          go_ret
          exact ⟨ret_bool (by rw [HE.out]), rfl⟩
    · rw [show N - (l.length : Int) = 0 by omega] at hs1
      rw [show (l.length : Int) - N = 0 by omega] at hs2
      obtain ⟨a, ha⟩ : ∃ a, l.length - N.toNat = a := ⟨_, rfl⟩
      have ha0 : a = 0 := by omega
      have hst := HWS.out
      rw [ha, ha0] at hst
      rw [ha] at HWN
      subst ha0
      have HST := Lib.hid (show (0 : Int) = wiK l N 0 by rw [hst]; omega)
      have hs1' : IntKind.i64.wrap (N - (l.length : Int)) = 0 := by rw [show N - (l.length : Int) = 0 by omega]; exact IntWalk.i64_in _ (by omega)
      have hs2' : IntKind.i64.wrap ((l.length : Int) - N) = 0 := by rw [show (l.length : Int) - N = 0 by omega]; exact IntWalk.i64_in _ (by omega)
      clear hst ha HWS hs1 hs2
      go_enter Try.func21, Try.ntmps21
      go_wp2_with fail
      go_loopw [4, 5] (fun s4 s5 wr => ∃ i : Nat, 0 ≤ i ∧ i ≤ l.length ∧ s5 = .int .i64 i ∧ s4 = .int .i64 (wiK l N i) ∧ Hid (wr = w)) (fun _ s5 _ => l.length - (intOf s5).toNat)
      case atStart => exact ⟨0, Nat.le_refl _, by omega, rfl, by rw [HST.out], Lib.hid rfl⟩
      case round =>
        obtain ⟨i, hai, hi, rfl, rfl, HWW⟩ := hrel
        obtain rfl := HWW.out
        have hb9 := HWB.out n2 i
        by_cases hlt : i < l.length
        · have hlt' : (i : Int) < l.length := by omega
          obtain ⟨b, off, rfl, hc⟩ := HL.out i hlt
          have hnx := HWN.out i hai hlt
          have hwr : IntKind.i64.wrap (wiK l N i + 1) = wiK l N i + 1 := IntWalk.i64_in _ (by omega)
          cases hg : l[i]
          · rw [hg] at hc hnx
            have HNX := Lib.hid (show wiK l N (i + 1) = wiK l N i by rw [hnx]; simp)
            clear hnx hwr hg HWN HWB HWE HL hb9
            go_wp2
            go_roundw
            case rel => exact ⟨i + 1, by omega, by omega, by go_num, by rw [HNX.out], (by first | exact Lib.hid rfl | exact Lib.hid trivial)⟩
            case measure => simp [intOf]; omega
          · rw [hg] at hc hnx
            have HNX := Lib.hid (show wiK l N (i + 1) = wiK l N i + 1 by rw [hnx]; simp)
            clear hnx hg HWN HWB HWE HL hb9
            go_wp2
            go_roundw
            case rel => exact ⟨i + 1, by omega, by omega, by go_num, by rw [HNX.out], (by first | exact Lib.hid rfl | exact Lib.hid trivial)⟩
            case measure => simp [intOf]; omega
        · obtain rfl : i = l.length := by omega
          have HE := Lib.hid HWE.out
          clear HWN HWB HWE HL hb9
          go_wp2
          go_ret
          exact ⟨ret_bool (by rw [HE.out]), rfl⟩
    · have m1 : N - (l.length : Int) < 0 := by omega
      obtain ⟨a, ha⟩ : ∃ a, l.length - N.toNat = a := ⟨_, rfl⟩
      have ha0 : (l.length : Int) - N = a := by omega
      have hst := HWS.out
      rw [ha] at hst
      rw [ha] at HWN
      have HST := Lib.hid (show (0 : Int) = wiK l N a by rw [hst]; omega)
      rw [ha0] at hs2
      have hs2' : IntKind.i64.wrap ((l.length : Int) - N) = (a : Int) := by rw [ha0]; exact IntWalk.i64_in _ (by omega)
      have m2 : (0 : Int) < (a : Int) := by omega
      have hal : a ≤ l.length := by omega
      clear hst ha HWS ha0 hs2
      go_enter Try.func21, Try.ntmps21
      go_wp2_with fail
      go_loopw [4, 5] (fun s4 s5 wr => ∃ i : Nat, a ≤ i ∧ i ≤ l.length ∧ s5 = .int .i64 i ∧ s4 = .int .i64 (wiK l N i) ∧ Hid (wr = w)) (fun _ s5 _ => l.length - (intOf s5).toNat)
      case atStart => exact ⟨a, Nat.le_refl _, by omega, rfl, by rw [HST.out], Lib.hid rfl⟩
      case round =>
        obtain ⟨i, hai, hi, rfl, rfl, HWW⟩ := hrel
        obtain rfl := HWW.out
        have hb9 := HWB.out n2 i
        by_cases hlt : i < l.length
        · have hlt' : (i : Int) < l.length := by omega
          obtain ⟨b, off, rfl, hc⟩ := HL.out i hlt
          have hnx := HWN.out i hai hlt
          have hwr : IntKind.i64.wrap (wiK l N i + 1) = wiK l N i + 1 := IntWalk.i64_in _ (by omega)
          cases hg : l[i]
          · rw [hg] at hc hnx
            have HNX := Lib.hid (show wiK l N (i + 1) = wiK l N i by rw [hnx]; simp)
            clear hnx hwr hg HWN HWB HWE HL hb9
            go_wp2
            go_roundw
            case rel => exact ⟨i + 1, by omega, by omega, by go_num, by rw [HNX.out], (by first | exact Lib.hid rfl | exact Lib.hid trivial)⟩
            case measure => simp [intOf]; omega
          · rw [hg] at hc hnx
            have HNX := Lib.hid (show wiK l N (i + 1) = wiK l N i + 1 by rw [hnx]; simp)
            clear hnx hg HWN HWB HWE HL hb9
            go_wp2
            go_roundw
            case rel => exact ⟨i + 1, by omega, by omega, by go_num, by rw [HNX.out], (by first | exact Lib.hid rfl | exact Lib.hid trivial)⟩
            case measure => simp [intOf]; omega
        · obtain rfl : i = l.length := by omega
          have HE := Lib.hid HWE.out
          clear HWN HWB HWE HL hb9
          go_wp2
          go_ret
          exact ⟨ret_bool (by rw [HE.out]), rfl⟩
end Go.Proofs.Ytaohfcchejedkaa

