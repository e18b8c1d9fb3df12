/-
  Layer 14: lists of samples: the reference's samples, the program's check, the statement's samples.
-/
import Derived.Test.YtcdeecigiijabaaFaSmp
import Derived.Test.YtcdeecigiijabaaSrApp
import Derived.Deep.LoopGhost
import Derived.LoopTactic
namespace Go.Proofs.Ytcdeecigiijabaa
open Go.ChangeShapes Go.WideShapes Go.ChangeAt Go.RowKit
set_option linter.unusedVariables false

def csP (s : Sp) : List Value := [.int .i64 s.w, .int .i64 s.b, .int .i64 s.m]
theorem csP_len (s : Sp) : (csP s).length = 3 := rfl
theorem csP_one (s : Sp) : ∀ u ∈ csP s, u.oneCell' = true := by
  intro u hu; simp [csP] at hu; rcases hu with rfl | rfl | rfl <;> rfl
theorem info_sp : (Try.prog.info? 24).map (fun i => (i.zero, i.size, i.bytes)) = some (some (.agg #[.int .i64 0, .int .i64 0, .int .i64 0]), 3, 24) := by kernel_rfl
/-- A sample that a slice holds. -/
theorem SrAt.sp {w : World} {L B : Nat} {A : Option Addr} {l : List Sp} (h : SrAt csP 3 w L B A l) {k : Nat} (hk : k < l.length) :
    ∃ b off, A = some ⟨b, off, none⟩ ∧ L ≤ b ∧ b < B ∧ w.cell? ⟨b, off + k * 3, none⟩ = some (.int .i64 l[k].w) ∧ w.cell? ⟨b, off + k * 3 + 1, none⟩ = some (.int .i64 l[k].b) ∧ w.cell? ⟨b, off + k * 3 + 2, none⟩ = some (.int .i64 l[k].m) := by
  obtain ⟨b, off, e, h1, h2, h3⟩ := h k hk
  exact ⟨b, off, e, h1, h2, h3 0 (by omega), h3 1 (by omega), h3 2 (by omega)⟩
/-! ### all valid -/
def vsB (L : List Sp) : Bool := L.all spB && decide (L.length ≤ 32)
theorem vs_bad {L : List Sp} {k : Nat} (hk : k < L.length) (h : spB L[k] = false) : vsB L = false := by
  cases hv : vsB L with
  | false => rfl
  | true =>
    unfold vsB at hv
    simp only [Bool.and_eq_true, List.all_eq_true] at hv
    have := hv.1 L[k] (List.getElem_mem hk)
    rw [h] at this; exact absurd this (by simp)
theorem vs_long {L : List Sp} (h : 32 < L.length) : vsB L = false := by
  unfold vsB
  rw [show decide (L.length ≤ 32) = false from decide_eq_false (by omega), Bool.and_false]
theorem vs_of {L : List Sp} (h : ∀ k (hk : k < L.length), spB L[k] = true) : vsB L = decide (L.length ≤ 32) := by
  have : L.all spB = true := by
    rw [List.all_eq_true]
    intro x hx
    obtain ⟨k, hk, rfl⟩ := List.getElem_of_mem hx
    exact h k hk
  unfold vsB; rw [this, Bool.true_and]
theorem vs_yes {L : List Sp} (h : vsB L = true) : (∀ k (hk : k < L.length), spB L[k] = true) ∧ L.length ≤ 32 := by
  unfold vsB at h
  simp only [Bool.and_eq_true, List.all_eq_true, decide_eq_true_eq] at h
  exact ⟨fun k hk => h.1 L[k] (List.getElem_mem hk), h.2⟩
/-- The error of a function that wants n samples. -/
def ckE (L : List Sp) (n : Nat) : Int := if vsB L = true then (if L.length < n then 5 else 0) else 1
theorem ck_bad {L : List Sp} {n : Nat} (h : vsB L = false) : ckE L n = 1 := by unfold ckE; rw [h]; rfl
theorem ck_few {L : List Sp} {n : Nat} (h : vsB L = true) (h2 : L.length < n) : ckE L n = 5 := by unfold ckE; rw [if_pos h, if_pos h2]
theorem ck_ok {L : List Sp} {n : Nat} (h : vsB L = true) (h2 : ¬ L.length < n) : ckE L n = 0 := by unfold ckE; rw [if_pos h, if_neg h2]
theorem all_more {L : List Sp} {k : Nat} (hk : k < L.length) (h : ∀ i (hi : i < L.length), i < k → spB L[i] = true) (h2 : spB L[k] = true) : ∀ i (hi : i < L.length), i < k + 1 → spB L[i] = true := fun i hi hik => by
  rcases (by omega : i < k ∨ i = k) with h1 | rfl
  · exact h i hi h1
  · exact h2
set_option maxRecDepth 100000 in
set_option maxHeartbeats 4000000 in
theorem rsamples_any (A : Option Addr) (c : Nat) (L : List Sp) (L1 B1 : Nat) (w : World) (hB1 : B1 ≤ w.heap.size) (hn : L.length ≤ 100000) (ha : SrAt csP 3 w L1 B1 A L) :
    Calls Try.prog 39 #[.slice A L.length c] w (Calm (.bool (vsB L)) w) := by
  have HA := Lib.hid (fun k (hk : k < L.length) => ha.sp hk)
  have HG := Lib.hid (fun s w => rvalidS_any s w)
  have HNO := Lib.hid (fun k (hk : k < L.length) h => vs_bad hk h)
  have HOK := Lib.hid (fun k (hk : k < L.length) (H : ∀ i (hi : i < L.length), i < k → spB L[i] = true) h => all_more hk H h)
  have HYES := Lib.hid (fun (h : ∀ k (hk : k < L.length), spB L[k] = true) => vs_of h)
  clear ha
  unfold Calm
  go_enter Try.func39, Try.ntmps39
  go_wp2
  go_loopw [3] (fun s3 wr => ∃ k : Nat, k ≤ L.length ∧ s3 = .int .i64 k ∧ Hid (∀ i (hi : i < L.length), i < k → spB L[i] = true) ∧ Hid (Below w.heap.size w wr)) (fun s3 _ => L.length - (intOf s3).toNat)
  case atStart => exact ⟨0, Nat.zero_le _, rfl, Lib.hid (fun i _ hi => by omega), Lib.hid (Below.refl _ _)⟩
  case round =>
    obtain ⟨k, hk, rfl, HK, HD⟩ := hrel
    by_cases hlt : k < L.length
    · have hlt' : (k : Int) < L.length := by omega
      obtain ⟨bb, off, rfl, _, hbb, e0, e1, e2⟩ := HA.out k hlt
      have HN := HNO.out k hlt
      have HO := HOK.out k hlt HK.out
      have HGk := HG.out L[k]
      obtain ⟨s, hs⟩ : ∃ s, L[k] = s := ⟨_, rfl⟩
      rw [hs] at e0 e1 e2 HN HO HGk
      obtain ⟨x, y, z⟩ := s
      simp only at e0 e1 e2
      have hbw : bb < w.heap.size := by omega
      have hws := HD.out.size
      have d0 : wr.cell? ⟨bb, off + k * 3, none⟩ = some (.int .i64 x) := (HD.out.cell (p := ⟨bb, off + k * 3, none⟩) hbw).trans e0
      have d1 : wr.cell? ⟨bb, off + k * 3 + 1, none⟩ = some (.int .i64 y) := (HD.out.cell (p := ⟨bb, off + k * 3 + 1, none⟩) hbw).trans e1
      have d2 : wr.cell? ⟨bb, off + k * 3 + 2, none⟩ = some (.int .i64 z) := (HD.out.cell (p := ⟨bb, off + k * 3 + 2, none⟩) hbw).trans e2
      unfold Calm aggSp at HGk
      simp only at HGk
      cases hv : spB ⟨x, y, z⟩
      · have HV := Lib.hid (HN hv)
        rw [hv] at HGk
        have HGk := Lib.hid HGk
        clear HN HO hs HA HNO HOK HYES HK e0 e1 e2 hv
        go_wp2_with fail
        (with_reducible refine (HGk.out _).mono ?_); rintro e w' ⟨rfl, hb⟩
        have HD2 := Lib.hid (HD.out.trans (hb.mono hws))
        clear hb
        go_wp2
        go_ret
        exact ⟨ret_bool HV.out.symm, HD2.out⟩
      · have HK2 := Lib.hid (HO hv)
        rw [hv] at HGk
        have HGk := Lib.hid HGk
        clear HN HO hs HA HNO HOK HYES HK e0 e1 e2 hv
        go_wp2_with fail
        (with_reducible refine (HGk.out _).mono ?_); rintro e w' ⟨rfl, hb⟩
        have HD2 := Lib.hid (HD.out.trans (hb.mono hws))
        clear hb
        go_wp2
        go_roundw
        case rel => exact ⟨k + 1, by omega, by go_num, HK2, HD2⟩
        case measure => simp [intOf]; omega
    · obtain rfl : k = L.length := by omega
      have HV := Lib.hid (HYES.out (fun i hi => HK.out i hi hi))
      clear HK HA HNO HYES HOK
      by_cases h32 : L.length ≤ 32
      · have HV2 := Lib.hid (HV.out.trans (decide_eq_true h32))
        have h32' : (L.length : Int) ≤ 32 := by omega
        clear HV
        go_wp2
        go_ret
        exact ⟨ret_bool (by first | (rw [HV2.out]; done) | (rw [HV2.out]; simp <;> omega)), HD.out⟩
      · have HV2 := Lib.hid (HV.out.trans (decide_eq_false h32))
        have h32' : (32 : Int) < L.length := by omega
        clear HV
        go_wp2
        go_ret
        exact ⟨ret_bool (by first | (rw [HV2.out]; done) | (rw [HV2.out]; simp <;> omega)), HD.out⟩
set_option maxRecDepth 100000 in
set_option maxHeartbeats 4000000 in
theorem check_any (A : Option Addr) (c : Nat) (L : List Sp) (n : Nat) (L1 B1 : Nat) (w : World) (hB1 : B1 ≤ w.heap.size) (hn : L.length ≤ 100000) (hnn : n ≤ 100) (ha : SrAt csP 3 w L1 B1 A L) :
    Calls Try.prog 30 #[.slice A L.length c, .int .i64 n] w (Calm (.int .i64 (ckE L n)) w) := by
  by_cases h32 : 32 < L.length
  · rw [ck_bad (vs_long h32)]
    have h32' : (32 : Int) < L.length := by omega
    clear ha
    unfold Calm
    go_enter Try.func30, Try.ntmps30
    go_wp2
    go_ret
    exact ⟨rfl, Below.refl _ _⟩
  have h32' : (L.length : Int) ≤ 32 := by omega
  have HA := Lib.hid (fun k (hk : k < L.length) => ha.sp hk)
  have HG := Lib.hid (fun s w => pvalidS_any s w)
  have HNO := Lib.hid (fun k (hk : k < L.length) h => (ck_bad (n := n) (vs_bad hk h)))
  have HOK := Lib.hid (fun k (hk : k < L.length) (H : ∀ i (hi : i < L.length), i < k → spB L[i] = true) h => all_more hk H h)
  have HYES := Lib.hid (fun (h : ∀ k (hk : k < L.length), spB L[k] = true) => (vs_of h).trans (decide_eq_true (by omega)))
  clear ha
  unfold Calm
  go_enter Try.func30, Try.ntmps30
  go_wp2
  go_loopw [12] (fun s3 wr => ∃ k : Nat, k ≤ L.length ∧ s3 = .int .i64 k ∧ Hid (∀ i (hi : i < L.length), i < k → spB L[i] = true) ∧ Hid (Below w.heap.size w wr)) (fun s3 _ => L.length - (intOf s3).toNat)
  case atStart => exact ⟨0, Nat.zero_le _, rfl, Lib.hid (fun i _ hi => by omega), Lib.hid (Below.refl _ _)⟩
  case round =>
    obtain ⟨k, hk, rfl, HK, HD⟩ := hrel
    by_cases hlt : k < L.length
    · have hlt' : (k : Int) < L.length := by omega
      obtain ⟨bb, off, rfl, _, hbb, e0, e1, e2⟩ := HA.out k hlt
      have HN := HNO.out k hlt
      have HO := HOK.out k hlt HK.out
      have HGk := HG.out L[k]
      obtain ⟨s, hs⟩ : ∃ s, L[k] = s := ⟨_, rfl⟩
      rw [hs] at e0 e1 e2 HN HO HGk
      obtain ⟨x, y, z⟩ := s
      simp only at e0 e1 e2
      have hbw : bb < w.heap.size := by omega
      have hws := HD.out.size
      have d0 : wr.cell? ⟨bb, off + k * 3, none⟩ = some (.int .i64 x) := (HD.out.cell (p := ⟨bb, off + k * 3, none⟩) hbw).trans e0
      have d1 : wr.cell? ⟨bb, off + k * 3 + 1, none⟩ = some (.int .i64 y) := (HD.out.cell (p := ⟨bb, off + k * 3 + 1, none⟩) hbw).trans e1
      have d2 : wr.cell? ⟨bb, off + k * 3 + 2, none⟩ = some (.int .i64 z) := (HD.out.cell (p := ⟨bb, off + k * 3 + 2, none⟩) hbw).trans e2
      have HD1 := Lib.hid (HD.out.alloc hws (.cells #[.int .i64 x, .int .i64 y, .int .i64 z] 24))
      unfold Calm aggSp at HGk
      simp only at HGk
      cases hv : spB ⟨x, y, z⟩
      · have HV := Lib.hid (HN hv)
        rw [hv] at HGk
        have HGk := Lib.hid HGk
        clear HN HO hs HA HNO HOK HYES HK e0 e1 e2 hv
        go_wp2_with fail
        (with_reducible refine (HGk.out _).mono ?_); rintro e w' ⟨rfl, hb⟩
        have HD2 := Lib.hid (HD1.out.trans (hb.mono HD1.out.size))
        clear hb
        go_wp2
        go_ret
        exact ⟨ret_int HV.out.symm, HD2.out⟩
      · have HK2 := Lib.hid (HO hv)
        rw [hv] at HGk
        have HGk := Lib.hid HGk
        clear HN HO hs HA HNO HOK HYES HK e0 e1 e2 hv
        go_wp2_with fail
        (with_reducible refine (HGk.out _).mono ?_); rintro e w' ⟨rfl, hb⟩
        have HD2 := Lib.hid (HD1.out.trans (hb.mono HD1.out.size))
        clear hb
        go_wp2
        go_roundw
        case rel => exact ⟨k + 1, by omega, by go_num, HK2, HD2⟩
        case measure => simp [intOf]; omega
    · obtain rfl : k = L.length := by omega
      have HV := Lib.hid (HYES.out (fun i hi => HK.out i hi hi))
      clear HK HA HNO HYES HOK
      by_cases hf : L.length < n
      · have HV2 := Lib.hid (ck_few HV.out hf)
        have hf' : (L.length : Int) < n := by omega
        clear HV
        go_wp2
        go_ret
        exact ⟨ret_int HV2.out.symm, HD.out⟩
      · have HV2 := Lib.hid (ck_ok (n := n) HV.out hf)
        have hf' : ¬ (L.length : Int) < n := by omega
        clear HV
        go_wp2
        go_ret
        exact ⟨ret_int HV2.out.symm, HD.out⟩
/-! ### a list is drawn -/
theorem only_below14 {B : Nat} {w w1 w2 : World} (ho : Only B w w1) (hb : Below w.heap.size w1 w2) : Only B w w2 :=
  ⟨hb.os.trans ho.os, hb.tape.trans ho.tape, hb.output.trans ho.output, Nat.le_trans ho.size hb.size, fun j hj hn => (hb.block j hj).trans (ho.block j hj hn)⟩
/-- What samples answers: a list of at most n, in a row of its own. -/
def GaveL (B : Nat) (a : Option Addr) (len cap k n : Nat) (w0 w : World) (e : Ending) (w' : World) : Prop :=
  ∃ (L : List Sp) (A' : Option Addr) (c' q : Nat), L.length ≤ n ∧ e = .returned (.slice A' L.length c') ∧ w'.ownsRow w.heap.size 24 3 (.slice A' L.length c') L.length (srs csP L) ∧ q ≤ k + 1 + 20 * n ∧ Has B a len cap q w0 w' ∧ Only B w w'
set_option maxRecDepth 100000 in
set_option maxHeartbeats 8000000 in
theorem smplist_any (B : Nat) (a : Option Addr) (len cap k n : Nat) (w0 w : World) (h : Has B a len cap k w0 w) (hk : k ≤ 10000000) (hn : n ≤ 100) :
    Calls Try.prog 13 #[.pointer (some ⟨B, 0, none⟩), .int .i64 n] w (GaveL B a len cap k n w0 w) := by
  have hB := h.1.lt
  have HX := Lib.hid (has_next B a len cap k (n + 1) w0 w h (by omega) (by omega) (by omega))
  have HSM := Lib.hid (fun k w h hk => sample_any B a len cap k w0 w h hk)
  have hwn : IntKind.i64.wrap ((n : Int) + 1) = (n : Int) + 1 := IntWalk.i64_in _ (by omega)
  clear h
  unfold GaveL
  go_enter Try.func13, Try.ntmps13
  go_wp2_with fail
  (with_reducible refine HX.out.mono ?_)
  rintro e w1 ⟨r, r0, r1, rfl, hg1, ho1⟩
  obtain ⟨rn, rfl⟩ := Int.eq_ofNat_of_zero_le r0
  have HG1 := Lib.hid hg1
  have HO1 := Lib.hid ho1
  have hrn : rn ≤ n := by omega
  clear hg1 ho1 HX hwn r0 r1
  go_wp2_with fail
  go_loopw [5, 6] (fun s5 s6 wr => ∃ (j q m : Nat) (L : List Sp) (A' : Option Addr) (c' : Nat), j + m ≤ n ∧ s6 = .int .i64 j ∧ s5 = .slice A' m c' ∧ Hid (L.length = m) ∧ q ≤ k + 1 + 20 * m ∧ Hid (wr.ownsRow w.heap.size 24 3 (.slice A' m c') m (srs csP L)) ∧ Hid (Has B a len cap q w0 wr) ∧ Hid (Only B w wr)) (fun s5 s6 _ => (intOf s6).toNat)
  case atStart => exact ⟨rn, k + 1, 0, [], none, 0, by omega, rfl, rfl, Lib.hid rfl, by omega, Lib.hid (by simpa [srs] using World.ownsRow_nil w1 w.heap.size 24 3), HG1, HO1⟩
  case round =>
    obtain ⟨j, q, m, L, A', c', hjm, rfl, rfl, hL, hq, HR, HG, HO⟩ := hrel
    by_cases hj : 0 < j
    · have hj' : (0 : Int) < j := by omega
      have HX := Lib.hid (HSM.out q wr HG.out (by omega))
      clear HG
      go_wp2_with fail
      (with_reducible refine HX.out.mono ?_)
      rintro e w2 ⟨⟨x, y, z⟩, q', rfl, hq', hg2, ho2⟩
      have HR2 := Lib.hid ((row_past HR.out ho2 (by omega)).alloc (.cells #[.int .i64 x, .int .i64 y, .int .i64 z] 24))
      have HO2 := Lib.hid ((HO.out.trans ho2).trans (Only.alloc B w2 (.cells #[.int .i64 x, .int .i64 y, .int .i64 z] 24)))
      have HG2 := Lib.hid (hg2.alloc (.cells #[.int .i64 x, .int .i64 y, .int .i64 z] 24))
      have HCL := Lib.hid (newCells w2 (csP ⟨x, y, z⟩) 24)
      have hws := Nat.le_trans HO.out.size ho2.size
      have hBw : B < w.heap.size := hB
      clear hg2 ho2 HR HO HX
      unfold aggSp
      go_wp2_with (at_builtin; go_loud (refine wpList_append_one rfl (.tmp 15) (.tmp 18) 31 rfl Try.underlying31 info_sp rfl (by decide) HR2.out rfl ⟨w2.heap.size, 0, none⟩ rfl (csP_len ⟨x, y, z⟩) HCL.out (csP_one _) (by omega) (by decide) (by simp; omega) ?_); intro v2 w5 he2 hg2 hb2; obtain ⟨A2, c2, rfl⟩ := ow_shape he2; have HE2 := Lib.hid he2; have HGR := Lib.hid hg2; clear he2 hg2 hb2)
      have hbn : Below w.heap.size (w2.alloc (.cells #[.int .i64 x, .int .i64 y, .int .i64 z] 24)) w5 := below_grew (Below.refl _ _) (by simp; omega) HGR.out (fun k e => (World.ownsRow.lt HR2.out k e).1)
      have HB5 := Lib.hid (show Has B a len cap q' w0 w5 from ⟨HG2.out.1.kept (hbn.mono (by omega)), HG2.out.2.trans (hbn.mono (by omega))⟩)
      have HO5 := Lib.hid (only_below14 HO2.out hbn)
      have hL2 : Hid ((L ++ [(⟨x, y, z⟩ : Sp)]).length = m + 1) := Lib.hid (by rw [List.length_append, hL.out]; rfl)
      rw [← srs_snoc] at HE2
      obtain ⟨j', rfl⟩ : ∃ j', j = j' + 1 := ⟨j - 1, by omega⟩
      clear hbn HGR HR2 HG2 HO2 HCL
      go_wp2
      go_roundw
      case rel => exact ⟨j', q', m + 1, _, A2, c2, by omega, by go_num, rfl, hL2, by omega, HE2, HB5, HO5⟩
      case measure => simp [intOf]
    · obtain rfl : j = 0 := by omega
      have hl := hL.out
      subst hl
      have HF := Lib.hid (And.intro HR.out (And.intro HG.out HO.out))
      clear HR HG HO hL hj
      go_wp2
      go_ret
      exact ⟨L, A', c', q, by omega, rfl, HF.out.1, by omega, HF.out.2.1, HF.out.2.2⟩
end Go.Proofs.Ytcdeecigiijabaa

