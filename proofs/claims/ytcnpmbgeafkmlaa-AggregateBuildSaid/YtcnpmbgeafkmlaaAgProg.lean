/-
  Layer 20: the program's Valid, Size, Build, Permitted and Most. Written by gen_agprog.py.
-/
import Derived.Test.YtcnpmbgeafkmlaaAgRef2
import Derived.Test.YtcnpmbgeafkmlaaAgLen
import Derived.Test.YtcnpmbgeafkmlaaAiProg
namespace Go.Proofs.Ytcnpmbgeafkmlaa
open Go.ChangeShapes Go.WideShapes Go.ChangeAt Go.RowKit
set_option linter.unusedVariables false

set_option maxHeartbeats 4000000 in
theorem pvalid20_any (p b t : Int) (w : World) : Calls Try.prog 11 #[.agg #[.int .i64 p, .int .i64 b, .int .i64 t]] w (AiB (.bool (agV p b t)) w) := by
  have N0 := Lib.hid (fun h => agV_no (p := p) (b := b) (t := t) h)
  have N1 := Lib.hid (fun h => agV_last (p := p) (b := b) (t := t) h)
  generalize agV p b t = r at *
  unfold AiB
  have hb := Lib.hid ((Below.refl w.heap.size w).alloc (Nat.le_refl _) (.cells #[.int .i64 p, .int .i64 b, .int .i64 t] 24))
  go_enter Try.func11, Try.ntmps11
  go_wp2
  all_goals
    go_ret
    first
      | exact ⟨ret_bool (N1.out (by omega)), hb.out⟩
      | exact ⟨ret_bool (N0.out (by omega)), hb.out⟩
set_option maxRecDepth 100000 in
set_option maxHeartbeats 8000000 in
theorem plok_any {A : Option Addr} {c : Nat} {L : List Int} {w : World} (h : SlI A c L w) (hn : L.length ≤ 9223372036854775807) (m : Int) : Calls Try.prog 28 #[.slice A L.length c, .int .i64 m] w fun e w' => e = .returned (.bool (agL L && decide ((L.length : Int) ≤ m))) ∧ w = w' := by
  have HV := Lib.hid (fun k (hk : k < L.length) => h.el hk)
  have HNO := Lib.hid (fun k (hk : k < L.length) (h : ¬ (1 ≤ L[k] ∧ L[k] ≤ 4096)) => agL_no hk h)
  have HYES := Lib.hid (fun h => agL_all L L.length h)
  obtain ⟨n, hn_⟩ : ∃ n, L.length = n := ⟨_, rfl⟩
  have HNN := Lib.hid hn_
  rw [hn_] at hn
  rw [hn_]
  clear h hn_
  generalize hr : agL L = r at *
  clear hr
  by_cases hm : m < (n : Int)
  · have hf : decide ((n : Int) ≤ m) = false := decide_eq_false (by omega)
    rw [hf, Bool.and_false]
    clear hf HV HNO HYES HNN
    go_enter Try.func28, Try.ntmps28
    go_wp2
    go_ret
    exact ⟨rfl, rfl⟩
  have hf : decide ((n : Int) ≤ m) = true := decide_eq_true (by omega)
  rw [hf, Bool.and_true]
  have hm' : (n : Int) ≤ m := by omega
  clear hf hm
  go_enter Try.func28, Try.ntmps28
  go_wp2_with fail
  go_loopw [13] (fun s5 wr => ∃ k : Nat, k ≤ n ∧ s5 = .int .i64 k ∧ Hid (∀ j (hj : j < L.length), j < k → 1 ≤ L[j] ∧ L[j] ≤ 4096) ∧ Hid (wr = w)) (fun s5 _ => n - (intOf s5).toNat)
  case atStart => exact ⟨0, Nat.zero_le _, rfl, Lib.hid (fun j _ hj => by omega), Lib.hid rfl⟩
  case round =>
    obtain ⟨k, hk, rfl, HN, HWW⟩ := hrel
    obtain rfl := HWW.out
    by_cases hlt : k < n
    · have hlt' : (k : Int) < n := by omega
      have hk0 : (0 : Int) ≤ k := by omega
      have hkq : k < L.length := by have := HNN.out; omega
      obtain ⟨bb, off, rfl, hbw, q0⟩ := HV.out k hkq
      have HN2 := Lib.hid (fun (h : 1 ≤ L[k] ∧ L[k] ≤ 4096) j (hj : j < L.length) (hjk : j < k + 1) => (by
        rcases Nat.lt_or_ge j k with h1 | h1
        · exact HN.out j hj h1
        · obtain rfl : j = k := by omega
          exact h : 1 ≤ L[j] ∧ L[j] ≤ 4096))
      have HX := Lib.hid (fun (h : ¬ (1 ≤ L[k] ∧ L[k] ≤ 4096)) => HNO.out k hkq h)
      generalize L[k] = g at *
      clear HV HNO HYES HN HNN
      by_cases h1 : g < 1
      · have hr := HX.out (by omega)
        subst hr
        clear HX HN2
        go_wp2
        go_ret
        exact ⟨rfl, rfl⟩
      · by_cases h2 : 4096 < g
        · have hr := HX.out (by omega)
          subst hr
          clear HX HN2
          go_wp2
          go_ret
          exact ⟨rfl, rfl⟩
        · have HN3 := Lib.hid (HN2.out (by omega))
          have h1' : 1 ≤ g := by omega
          have h2' : g ≤ 4096 := by omega
          clear HN2 HX h1 h2
          go_wp2
          go_roundw
          case rel => exact ⟨k + 1, by omega, by go_num, HN3, by first | exact Lib.hid rfl | exact Lib.hid trivial⟩
          case measure => simp [intOf]; omega
    · obtain rfl : k = n := by omega
      have hr := HYES.out fun j hj => HN.out j hj (by have := HNN.out; omega)
      subst hr
      clear HV HNO HYES HN HNN
      go_wp2
      go_ret
      exact ⟨rfl, rfl⟩
/-! ### sizes step by step -/
def agG (s g : Int) : Int := if 0 < s then s + 4 + g else s + g
def agY (S : Nat → Int) (k : Nat) : Int := if k = 0 then 0 else 4 * ((k : Int) - 1) + S k
theorem agY_step {S : Nat → Int} {k : Nat} {g : Int} (h0 : S 0 = 0) (h : S (k + 1) = S k + g) (hk : (k : Int) ≤ S k) : agG (agY S k) g = agY S (k + 1) := by
  unfold agG agY
  by_cases h1 : k = 0
  · subst h1; simp [h, h0]
  · rw [if_neg h1, if_pos (by omega), if_neg (by omega), h]; omega
theorem agY_bd {S : Nat → Int} {k : Nat} (h : (k : Int) ≤ S k) (h2 : S k ≤ 4096 * k) : 0 ≤ agY S k ∧ agY S k ≤ 4100 * k := by
  unfold agY
  by_cases h1 : k = 0
  · subst h1; simp
  · rw [if_neg h1]; omega
theorem agY_take {l : List Int} {k : Nat} (h1 : 1 ≤ k) (hk : k ≤ l.length) : agY (agS l) k = agZ (l.take k) := by
  rw [agZ_take hk]; unfold agY; rw [if_neg (by omega)]
theorem agY_all {l : List Int} (h1 : 1 ≤ l.length) : agY (agS l) l.length = agZ l := by
  have := agY_take (l := l) h1 (Nat.le_refl _); rw [List.take_length] at this; exact this
set_option maxHeartbeats 4000000 in
theorem pext_any (s g : Int) (s0 : 0 ≤ s) (s1 : s ≤ 1000000) (g0 : 0 ≤ g) (g1 : g ≤ 1000000) (w : World) : Calls Try.prog 29 #[.int .i64 s, .int .i64 g] w fun e w' => e = .returned (.int .i64 (agG s g)) ∧ w = w' := by
  have m1 : IntKind.i64.wrap (s + 4) = s + 4 := IntWalk.i64_in _ (by omega)
  have m2 : IntKind.i64.wrap (s + 4 + g) = s + 4 + g := IntWalk.i64_in _ (by omega)
  have m3 : IntKind.i64.wrap (s + g) = s + g := IntWalk.i64_in _ (by omega)
  by_cases h : 0 < s
  · have e : agG s g = s + 4 + g := if_pos h
    rw [e]
    clear e
    go_enter Try.func29, Try.ntmps29
    go_wp2
    go_ret
    exact ⟨rfl, rfl⟩
  · have e : agG s g = s + g := if_neg h
    rw [e]
    have h' : s ≤ 0 := by omega
    clear e h
    go_enter Try.func29, Try.ntmps29
    go_wp2
    go_ret
    exact ⟨rfl, rfl⟩
set_option maxRecDepth 100000 in
set_option maxHeartbeats 8000000 in
theorem psize0_any {A : Option Addr} {c : Nat} {L : List Int} {w : World} (h : SlI A c L w) (hn : L.length ≤ 100000) : Calls Try.prog 23 #[.slice A L.length c] w fun e w' => e = .returned (.tuple #[.int .i64 (agSV L), .int .i64 (agSE L)]) ∧ w = w' := by
  have HK := Lib.hid (plok_any h (by omega) 32)
  rcases agSE_cases L with ⟨h1, h2⟩ | ⟨h1, ⟨h0, h2⟩ | ⟨h0, h2⟩⟩
  · have e1 : agSV L = 0 := by unfold agSV; rw [h2]; rfl
    rw [h1] at HK
    rw [e1, h2]
    clear h1 h2 e1 h
    generalize L.length = n at *
    go_enter Try.func23, Try.ntmps23
    go_wp2_with fail
    (with_reducible refine HK.out.mono ?_); rintro e w1 ⟨rfl, rfl⟩
    go_wp2
    go_ret2
    exact ⟨rfl, rfl⟩
  · have e1 : agSV L = 0 := by unfold agSV; rw [h2]; rfl
    rw [h1] at HK
    rw [e1, h2]
    rw [h0] at HK ⊢
    clear h1 h2 e1 h
    go_enter Try.func23, Try.ntmps23
    go_wp2_with fail
    (with_reducible refine HK.out.mono ?_); rintro e w1 ⟨rfl, rfl⟩
    go_wp2
    go_ret2
    exact ⟨rfl, rfl⟩
  · have e1 : agSV L = agZ L := by unfold agSV; rw [if_pos h2]
    obtain ⟨g1, g2, _⟩ := agSE_zero.1 h2
    rw [h1] at HK
    rw [e1, h2]
    have HV := Lib.hid (fun k (hk : k < L.length) => h.el hk)
    have HAT := Lib.hid (fun k (hk : k < L.length) => agL_at g1 hk)
    have HNX := Lib.hid (fun k (hk : k < L.length) => agY_step (agS_zero L) (agS_next hk) (agS_bd g1 k (by omega)).1)
    have HBD := Lib.hid (fun k (hk : k ≤ L.length) => agY_bd (agS_bd g1 k hk).1 (agS_bd g1 k hk).2)
    have HEN := Lib.hid (show agZ L = agY (agS L) L.length from (agY_all (by omega)).symm)
    have HS0 := Lib.hid (show agY (agS L) 0 = 0 from rfl)
    obtain ⟨n, hn_⟩ : ∃ n, L.length = n := ⟨_, rfl⟩
    have HNN := Lib.hid hn_
    rw [hn_] at h0 hn g2 HK HEN
    rw [hn_]
    have hn0 : ((n : Int) == 0) = false := by simp; omega
    clear h1 h2 e1 h g1 hn_
    generalize agZ L = z at *
    generalize agY (agS L) = Y at *
    go_enter Try.func23, Try.ntmps23
    go_wp2_with fail
    (with_reducible refine HK.out.mono ?_); rintro e w1 ⟨rfl, rfl⟩
    go_wp2_with fail
    go_loopw [4, 15] (fun s4 s5 wr => ∃ k : Nat, k ≤ n ∧ s5 = .int .i64 k ∧ s4 = .int .i64 (Y k) ∧ Hid (wr = w)) (fun _ s5 _ => n - (intOf s5).toNat)
    case atStart => exact ⟨0, Nat.zero_le _, rfl, by rw [HS0.out], Lib.hid rfl⟩
    case round =>
      obtain ⟨k, hk, rfl, rfl, HWW⟩ := hrel
      obtain rfl := HWW.out
      by_cases hlt : k < n
      · have hlt' : (k : Int) < n := by omega
        have hk0 : (0 : Int) ≤ k := by omega
        have hkq : k < L.length := by have := HNN.out; omega
        obtain ⟨bb, off, rfl, hbw, q0⟩ := HV.out k hkq
        have hnx := HNX.out k hkq
        have hb1 := HBD.out k (by omega)
        have hat := HAT.out k hkq
        generalize L[k] = g at *
        have HE := pext_any (Y k) g (by omega) (by omega) (by omega) (by omega) wr
        rw [hnx] at HE
        have HE := Lib.hid HE
        clear HV HNX HBD HEN HS0 HNN hnx HAT hb1 hat
        go_wp2_with fail
        (with_reducible refine HE.out.mono ?_); rintro e w1 ⟨rfl, rfl⟩
        clear HE
        go_wp2
        go_roundw
        case rel => exact ⟨k + 1, by omega, by go_num, rfl, by first | exact Lib.hid rfl | exact Lib.hid trivial⟩
        case measure => simp [intOf]; omega
      · obtain rfl : k = n := by omega
        have hz := HEN.out
        subst hz
        clear HV HNX HBD HEN HS0 HNN HAT
        go_wp2
        go_ret2
        exact ⟨rfl, rfl⟩
/-! ### permitted -/
theorem psize_any {A : Option Addr} {c : Nat} {L : List Int} {w : World} (h : SlI A c L w) (hn : L.length ≤ 1000) : Calls Try.prog 23 #[.slice A L.length c] w (AiB (.tuple #[.int .i64 (agSV L), .int .i64 (agSE L)]) w) :=
  (psize0_any h (by omega)).mono fun e w' h => ⟨h.1, by rw [← h.2]; exact Below.refl _ _⟩
def agQ (n z p b t k o : Int) : Bool := decide (n ≤ p ∧ z ≤ b ∧ aiZ k o z ≤ t)
def agQt (n z p b t k o : Int) : Int := if agQ n z p b t k o = true then aiZ k o z else 0
theorem agQ_is {l : List Int} {p b t k o : Int} (h1 : agV p b t = true) (h2 : aiV k o = true) (hL : agL l = true) {i : Nat} (hi : 1 ≤ i) (hil : i ≤ l.length) : agP (l.take i) p b t k o = agQ i (agY (agS l) i) p b t k o := by
  have hp := agV_cases h1
  have e : (l.take i).length = i := by rw [List.length_take]; omega
  rw [agY_take hi hil]
  unfold agP agQ
  rw [decide_eq_decide, e]
  constructor
  · intro h; exact ⟨h.2.2.2.1, h.2.2.2.2.1, h.2.2.2.2.2⟩
  · intro h; exact ⟨agSE_zero.2 ⟨agL_take hL i, by omega, by omega⟩, h1, h2, h.1, h.2.1, h.2.2⟩
set_option maxRecDepth 100000 in
set_option maxHeartbeats 8000000 in
theorem pperm_any (n z p b t k o : Int) (h1 : agV p b t = true) (h2 : aiV k o = true) (hz : 0 ≤ z) (w : World) : Calls Try.prog 30 #[.int .i64 n, .int .i64 z, .agg #[.int .i64 p, .int .i64 b, .int .i64 t], .agg #[.int .i64 k, .int .i64 o]] w (AiB (.tuple #[.int .i64 (agQt n z p b t k o), .bool (agQ n z p b t k o)]) w) := by
  obtain ⟨wB, hwB, hx⟩ := Bx2.all w p b t k o
  obtain ⟨hbel, y0, y1, y2, y3, y4⟩ := hx wB (Below.refl _ _)
  have HX := Lib.hid hx
  have hp := agV_cases h1
  have HTM := Lib.hid (fun (h3 : z ≤ 262144) (W : World) => (by
    have h9 := ptime_any k o z W
    have e1 : aiTV k o z = aiZ k o z := if_pos (aiOk_mk h2 (by omega) (by omega))
    rw [e1] at h9; exact h9 : Calls Try.prog 32 #[.agg #[.int .i64 k, .int .i64 o], .int .i64 z] W (AiB (.tuple #[.int .i64 (aiZ k o z), .int .i64 (aiTE k o z)]) W)))
  have HNO := Lib.hid (fun (h : ¬ (n ≤ p ∧ z ≤ b ∧ aiZ k o z ≤ t)) => (show false = agQ n z p b t k o ∧ 0 = agQt n z p b t k o by
    have e : agQ n z p b t k o = false := decide_eq_false h
    unfold agQt; rw [e]; exact ⟨rfl, rfl⟩))
  have HYE := Lib.hid (fun (h : n ≤ p ∧ z ≤ b ∧ aiZ k o z ≤ t) => (show true = agQ n z p b t k o ∧ aiZ k o z = agQt n z p b t k o by
    have e : agQ n z p b t k o = true := decide_eq_true h
    unfold agQt; rw [e]; exact ⟨rfl, rfl⟩))
  generalize agQ n z p b t k o = q at *
  generalize agQt n z p b t k o = qt at *
  generalize aiTE k o z = te at *
  generalize aiZ k o z = zt at *
  clear h1 h2 hx
  unfold AiB at *
  have hcases : p < n ∨ (n ≤ p ∧ b < z) ∨ (n ≤ p ∧ z ≤ b) := by omega
  rcases hcases with g1 | ⟨g1, g2⟩ | ⟨g1, g2⟩
  · obtain ⟨rfl, rfl⟩ := HNO.out (by omega)
    have HF := Lib.hid hbel
    clear HNO HYE HTM HX hbel
    go_enter Try.func30, Try.ntmps30
    go_wp2
    go_ret2
    exact ⟨rfl, HF.out⟩
  · obtain ⟨rfl, rfl⟩ := HNO.out (by omega)
    have HF := Lib.hid hbel
    clear HNO HYE HTM HX hbel
    go_enter Try.func30, Try.ntmps30
    go_wp2
    go_ret2
    exact ⟨rfl, HF.out⟩
  · have HT := Lib.hid (HTM.out (by omega))
    clear HTM hbel
    go_enter Try.func30, Try.ntmps30
    go_wp2_with fail
    (with_reducible refine (HT.out _).mono ?_); rintro e w1 ⟨rfl, hb⟩
    obtain ⟨hF, x0, x1, x2, x3, x4⟩ := HX.out w1 hb
    have HF := Lib.hid hF
    clear hb hF HX HT y0 y1 y2 y3 y4 hwB
    by_cases g3 : t < zt
    · obtain ⟨rfl, rfl⟩ := HNO.out (by omega)
      clear HNO HYE
      go_wp2
      go_ret2
      exact ⟨rfl, HF.out⟩
    · have g3' : zt ≤ t := by omega
      obtain ⟨rfl, rfl⟩ := HYE.out (by omega)
      clear HNO HYE g3
      go_wp2
      go_ret2
      exact ⟨rfl, HF.out⟩
set_option maxRecDepth 100000 in
set_option maxHeartbeats 8000000 in
theorem ppermitted_any {A : Option Addr} {c : Nat} {L : List Int} {w : World} (h : SlI A c L w) (hn : L.length ≤ 1000) (p b t k o : Int) : Calls Try.prog 20 #[.slice A L.length c, .agg #[.int .i64 p, .int .i64 b, .int .i64 t], .agg #[.int .i64 k, .int .i64 o]] w (AiB (.bool (agP L p b t k o)) w) := by
  obtain ⟨wB, hwB, hx⟩ := Bx2.all w p b t k o
  obtain ⟨hbel, y0, y1, y2, y3, y4⟩ := hx wB (Below.refl _ _)
  have HX := Lib.hid hx
  have HK := Lib.hid (psize0_any (h.later hbel) (by omega))
  have HVC := Lib.hid (fun W => pvalid20_any p b t W)
  have HVR := Lib.hid (fun W => pvalid19_any k o W)
  have HPM := Lib.hid (fun (h1 : agV p b t = true) (h2 : aiV k o = true) (h3 : agSE L = 0) (W : World) => (by
    have h9 := pperm_any L.length (agZ L) p b t k o h1 h2 (by have := agZ_bd h3; omega) W
    obtain ⟨e1, e2, e3⟩ := agSE_zero.1 h3
    have h8 := agQ_is (l := L) h1 h2 e1 (i := L.length) (by omega) (Nat.le_refl _)
    rw [List.take_length, agY_all (by omega)] at h8
    rw [← h8] at h9; exact h9 : Calls Try.prog 30 #[.int .i64 (L.length : Nat), .int .i64 (agZ L), .agg #[.int .i64 p, .int .i64 b, .int .i64 t], .agg #[.int .i64 k, .int .i64 o]] W (AiB (.tuple #[.int .i64 (agQt L.length (agZ L) p b t k o), .bool (agP L p b t k o)]) W)))
  have HNO := Lib.hid (fun h => agP_no (l := L) (p := p) (b := b) (t := t) (k := k) (o := o) h)
  have hS : agSE L = 0 → agSV L = agZ L := fun e => by unfold agSV; rw [if_pos e]
  unfold AiB at *
  by_cases h3 : agSE L = 0
  · have e3 := hS h3
    have HPM := Lib.hid (fun h1 h2 => HPM.out h1 h2 h3)
    rw [e3, h3] at HK
    rw [h3] at HNO
    clear hS e3 h3 h hx hbel
    generalize agQt L.length (agZ L) p b t k o = qt at *
    generalize agP L p b t k o = r at *
    generalize agZ L = z at *
    generalize L.length = n at *
    rcases h1 : agV p b t with _ | _
    · rw [h1] at HVC HNO
      have hr := HNO.out (by simp)
      subst hr
      clear HNO HPM HVR h1
      go_enter Try.func20, Try.ntmps20
      go_wp2_with fail
      (with_reducible refine HK.out.mono ?_); rintro e w1 ⟨rfl, rfl⟩
      go_wp2_with fail
      (with_reducible refine (HVC.out _).mono ?_); rintro e w1 ⟨rfl, hb⟩
      have HF := Lib.hid (HX.out _ hb).bel
      clear hb
      go_wp2
      go_ret
      exact ⟨rfl, HF.out⟩
    · rw [h1] at HVC HNO
      rcases h2 : aiV k o with _ | _
      · rw [h2] at HVR HNO
        have hr := HNO.out (by simp)
        subst hr
        clear HNO HPM h1 h2
        go_enter Try.func20, Try.ntmps20
        go_wp2_with fail
        (with_reducible refine HK.out.mono ?_); rintro e w1 ⟨rfl, rfl⟩
        go_wp2_with fail
        (with_reducible refine (HVC.out _).mono ?_); rintro e w1 ⟨rfl, hb⟩
        have HB := Lib.hid hb
        obtain ⟨_, x0, x1, x2, x3, x4⟩ := HX.out w1 hb
        clear hb
        go_wp2_with fail
        (with_reducible refine (HVR.out _).mono ?_); rintro e w2 ⟨rfl, hb⟩
        have HF := Lib.hid (HX.out _ (HB.out.trans (hb.mono HB.out.size))).bel
        clear hb x0 x1 x2 x3 x4
        go_wp2
        go_ret
        exact ⟨rfl, HF.out⟩
      · rw [h2] at HVR HNO
        have HPM := Lib.hid (HPM.out h1 h2)
        clear HNO h1 h2
        go_enter Try.func20, Try.ntmps20
        go_wp2_with fail
        (with_reducible refine HK.out.mono ?_); rintro e w1 ⟨rfl, rfl⟩
        go_wp2_with fail
        (with_reducible refine (HVC.out _).mono ?_); rintro e w1 ⟨rfl, hb⟩
        have HB := Lib.hid hb
        obtain ⟨_, x0, x1, x2, x3, x4⟩ := HX.out w1 hb
        clear hb
        go_wp2_with fail
        (with_reducible refine (HVR.out _).mono ?_); rintro e w2 ⟨rfl, hb⟩
        have HB := Lib.hid (HB.out.trans (hb.mono HB.out.size))
        clear hb x0 x1 x2 x3 x4
        obtain ⟨_, x0, x1, x2, x3, x4⟩ := HX.out _ HB.out
        clear HVC HVR hwB y0 y1 y2 y3 y4
        go_wp2_with fail
        (with_reducible refine (HPM.out _).mono ?_); rintro e w3 ⟨rfl, hb⟩
        have HF := Lib.hid (HX.out _ (HB.out.trans (hb.mono HB.out.size))).bel
        clear hb x0 x1 x2 x3 x4
        go_wp2
        go_ret
        exact ⟨rfl, HF.out⟩
  · have hr := HNO.out (by simp [h3])
    rw [hr]
    have h3' : (agSE L == 0) = false := by simpa using h3
    clear hr hS HNO HPM HVC HVR h3 hx
    generalize agSV L = sv at *
    generalize agSE L = se at *
    generalize L.length = n at *
    have HF := Lib.hid hbel
    go_enter Try.func20, Try.ntmps20
    go_wp2_with fail
    (with_reducible refine HK.out.mono ?_); rintro e w1 ⟨rfl, rfl⟩
    have h3'' : (se != 0) = true := by simpa using h3'
    go_wp2
    go_ret
    exact ⟨rfl, HF.out⟩
/-! ### Build -/
theorem agN_eq {l : List Int} {p b t k o : Int} (h1 : agV p b t = true) (h2 : aiV k o = true) (hL : agL l = true) {j : Nat} (hj : j ≤ l.length) (hall : j = 0 ∨ agP (l.take j) p b t k o = true) (hend : j = l.length ∨ (j + 1 ≤ l.length ∧ agQ ((j : Int) + 1) (agY (agS l) (j + 1)) p b t k o = false)) : agN l p b t k o (agM l) = j := by
  have hM : agM l = min l.length 32 := rfl
  have hN := agN_le l p b t k o (agM l)
  have hp := agV_cases h1
  have hj2 : j ≤ agN l p b t k o (agM l) := by
    rcases hall with h | h
    · omega
    · by_cases h0 : j = 0
      · omega
      · have h32 := (agSE_zero.1 (agP_iff.1 h).1).2.1
        rw [List.length_take] at h32
        have h9 := agN_is l p b t k o (m := agM l) (by omega) (i := j) (by omega) (by omega)
        rw [h, Eq.comm, decide_eq_true_eq] at h9; exact h9
  rcases hend with h | ⟨h, h3⟩
  · omega
  · by_cases hjm : j + 1 ≤ agM l
    · have h9 := agN_is l p b t k o (m := agM l) (by omega) (i := j + 1) (by omega) hjm
      have h8 := agQ_is (l := l) h1 h2 hL (i := j + 1) (by omega) h
      rw [show ((j + 1 : Nat) : Int) = (j : Int) + 1 by omega, h3] at h8
      rw [h8, Eq.comm, decide_eq_false_iff_not] at h9; omega
    · omega
set_option maxRecDepth 100000 in
set_option maxHeartbeats 16000000 in
theorem pbuild_any {A : Option Addr} {c : Nat} {L : List Int} {w : World} (h : SlI A c L w) (hn : L.length ≤ 1000) (p b t k o : Int) : Calls Try.prog 19 #[.slice A L.length c, .agg #[.int .i64 p, .int .i64 b, .int .i64 t], .agg #[.int .i64 k, .int .i64 o]] w (AiB (.tuple #[.int .i64 (agBn L p b t k o), .int .i64 (agBt L p b t k o), .int .i64 (agBE L p b t k o)]) w) := by
  obtain ⟨wB, hwB, hx⟩ := Bx2.all w p b t k o
  obtain ⟨hbel, y0, y1, y2, y3, y4⟩ := hx wB (Below.refl _ _)
  have HX := Lib.hid hx
  have HVC := Lib.hid (fun W => pvalid20_any p b t W)
  have HVR := Lib.hid (fun W => pvalid19_any k o W)
  have HLOK := Lib.hid (fun (W : World) (hb : Below wB.heap.size wB W) => plok_any (h.later (hx W hb).bel) (by omega) 128)
  have HB0 := Lib.hid (Below.refl wB.heap.size wB)
  unfold AiB at *
  rcases agBE_cases L p b t k o with ⟨h1, hE⟩ | ⟨h1, h2, hE⟩ | ⟨h1, h2, h3, hE⟩ | ⟨h1, h2, h3, ⟨h0, hE⟩ | ⟨h0, hE⟩⟩
  · obtain ⟨e1, e2⟩ := agBn_no (L := L) (p := p) (b := b) (t := t) (k := k) (o := o) (by rw [hE]; decide)
    rw [e1, e2, hE]
    rw [h1] at HVC
    clear e1 e2 hE h1 h hx HLOK hbel
    generalize L.length = n at *
    go_enter Try.func19, Try.ntmps19
    go_wp2_with fail
    (with_reducible refine (HVC.out _).mono ?_); rintro e w1 ⟨rfl, hb⟩
    have HB := Lib.hid hb
    obtain ⟨_, x0, x1, x2, x3, x4⟩ := HX.out w1 HB.out
    clear hb
    have HF := Lib.hid (HX.out _ HB.out).bel
    go_wp2
    go_ret3
    exact ⟨rfl, HF.out⟩
  · obtain ⟨e1, e2⟩ := agBn_no (L := L) (p := p) (b := b) (t := t) (k := k) (o := o) (by rw [hE]; decide)
    rw [e1, e2, hE]
    rw [h1] at HVC
    rw [h2] at HVR
    clear e1 e2 hE h1 h2 h hx HLOK hbel
    generalize L.length = n at *
    go_enter Try.func19, Try.ntmps19
    go_wp2_with fail
    (with_reducible refine (HVC.out _).mono ?_); rintro e w1 ⟨rfl, hb⟩
    have HB := Lib.hid hb
    obtain ⟨_, x0, x1, x2, x3, x4⟩ := HX.out w1 HB.out
    clear hb
    go_wp2_with fail
    (with_reducible refine (HVR.out _).mono ?_); rintro e w2 ⟨rfl, hb⟩
    have HB := Lib.hid (HB.out.trans (hb.mono HB.out.size))
    clear hb x0 x1 x2 x3 x4
    have HF := Lib.hid (HX.out _ HB.out).bel
    go_wp2
    go_ret3
    exact ⟨rfl, HF.out⟩
  · obtain ⟨e1, e2⟩ := agBn_no (L := L) (p := p) (b := b) (t := t) (k := k) (o := o) (by rw [hE]; decide)
    rw [e1, e2, hE]
    rw [h1] at HVC
    rw [h2] at HVR
    rw [h3] at HLOK
    clear e1 e2 hE h1 h2 h3 h hx hbel
    generalize L.length = n at *
    go_enter Try.func19, Try.ntmps19
    go_wp2_with fail
    (with_reducible refine (HVC.out _).mono ?_); rintro e w1 ⟨rfl, hb⟩
    have HB := Lib.hid hb
    obtain ⟨_, x0, x1, x2, x3, x4⟩ := HX.out w1 HB.out
    clear hb
    go_wp2_with fail
    (with_reducible refine (HVR.out _).mono ?_); rintro e w2 ⟨rfl, hb⟩
    have HB := Lib.hid (HB.out.trans (hb.mono HB.out.size))
    clear hb x0 x1 x2 x3 x4
    have HLK := Lib.hid (HLOK.out w2 HB.out)
    go_wp2_with fail
    (with_reducible refine HLK.out.mono ?_); rintro e w3 ⟨rfl, rfl⟩
    clear HLK
    have HF := Lib.hid (HX.out _ HB.out).bel
    go_wp2
    go_ret3
    exact ⟨rfl, HF.out⟩
  · obtain ⟨e1, e2⟩ := agBn_no (L := L) (p := p) (b := b) (t := t) (k := k) (o := o) (by rw [hE]; decide)
    rw [e1, e2, hE]
    rw [h1] at HVC
    rw [h2] at HVR
    rw [h3] at HLOK
    rw [h0] at HLOK ⊢
    clear e1 e2 hE h1 h2 h3 h hx hbel h0
    go_enter Try.func19, Try.ntmps19
    go_wp2_with fail
    (with_reducible refine (HVC.out _).mono ?_); rintro e w1 ⟨rfl, hb⟩
    have HB := Lib.hid hb
    obtain ⟨_, x0, x1, x2, x3, x4⟩ := HX.out w1 HB.out
    clear hb
    go_wp2_with fail
    (with_reducible refine (HVR.out _).mono ?_); rintro e w2 ⟨rfl, hb⟩
    have HB := Lib.hid (HB.out.trans (hb.mono HB.out.size))
    clear hb x0 x1 x2 x3 x4
    have HLK := Lib.hid (HLOK.out w2 HB.out)
    go_wp2_with fail
    (with_reducible refine HLK.out.mono ?_); rintro e w3 ⟨rfl, rfl⟩
    clear HLK
    have HF := Lib.hid (HX.out _ HB.out).bel
    go_wp2
    go_ret3
    exact ⟨rfl, HF.out⟩
  · obtain ⟨⟨_, _, hL, hlen⟩, _⟩ := agBE_zero.1 hE
    have hBn : agBn L p b t k o = (agN L p b t k o (agM L) : Nat) := if_pos hE
    have hBt : agBt L p b t k o = if agN L p b t k o (agM L) ≠ 0 then aiZ k o (agZ (L.take (agN L p b t k o (agM L)))) else 0 := by
      unfold agBt
      by_cases h9 : agN L p b t k o (agM L) = 0
      · rw [if_neg (fun e => e.2 h9), if_neg (by simp [h9])]
      · rw [if_pos ⟨hE, h9⟩, if_pos h9]
    have HEND := Lib.hid (fun (j : Nat) (tv : Int) (hj : j ≤ L.length) (ht : (j = 0 ∧ tv = 0) ∨ (1 ≤ j ∧ agQ j (agY (agS L) j) p b t k o = true ∧ tv = aiZ k o (agY (agS L) j))) (hend : j = L.length ∨ (j + 1 ≤ L.length ∧ agQ ((j : Int) + 1) (agY (agS L) (j + 1)) p b t k o = false)) => (show agBn L p b t k o = (j : Nat) ∧ agBt L p b t k o = tv by
      have hall : j = 0 ∨ agP (L.take j) p b t k o = true := by
        rcases ht with ht | ht
        · exact .inl ht.1
        · exact .inr ((agQ_is h1 h2 hL ht.1 hj).trans ht.2.1)
      rw [hBn, hBt, agN_eq h1 h2 hL hj hall hend]
      refine ⟨rfl, ?_⟩
      rcases ht with ht | ht
      · rw [if_neg (by simp [ht.1]), ht.2]
      · rw [if_pos (by omega), ht.2.2, agY_take ht.1 hj]))
    have HV := Lib.hid (fun (W : World) (hb : Below wB.heap.size wB W) j (hj : j < L.length) => (h.later (hx W hb).bel).el hj)
    have HAT := Lib.hid (fun j (hj : j < L.length) => agL_at hL hj)
    have HNX := Lib.hid (fun j (hj : j < L.length) => agY_step (agS_zero L) (agS_next hj) (agS_bd hL j (by omega)).1)
    have HBD := Lib.hid (fun j (hj : j ≤ L.length) => agY_bd (agS_bd hL j hj).1 (agS_bd hL j hj).2)
    have HPM := Lib.hid (fun (n z : Int) (hz : 0 ≤ z) (W : World) => pperm_any n z p b t k o h1 h2 hz W)
    have HQ := Lib.hid (fun (n z : Int) => (show (agQ n z p b t k o = true → agQt n z p b t k o = aiZ k o z) from fun e => if_pos e))
    have HS0 := Lib.hid (show agY (agS L) 0 = 0 from rfl)
    rw [hE]
    rw [h1] at HVC
    rw [h2] at HVR
    rw [h3] at HLOK
    clear hE h1 h2 h3 h hx hbel hBn hBt hL
    generalize agBn L p b t k o = bn at *
    generalize agBt L p b t k o = bt at *
    generalize agY (agS L) = Y at *
    obtain ⟨n, hn_⟩ : ∃ n, L.length = n := ⟨_, rfl⟩
    have HNN := Lib.hid hn_
    rw [hn_] at h0 hn HLOK hlen ⊢
    clear hn_
    have hn0 : ((n : Int) == 0) = false := by simp; omega
    unfold AiB at *
    go_enter Try.func19, Try.ntmps19
    go_wp2_with fail
    (with_reducible refine (HVC.out _).mono ?_); rintro e w1 ⟨rfl, hb⟩
    have HB := Lib.hid hb
    obtain ⟨_, x0, x1, x2, x3, x4⟩ := HX.out w1 HB.out
    clear hb
    go_wp2_with fail
    (with_reducible refine (HVR.out _).mono ?_); rintro e w2 ⟨rfl, hb⟩
    have HB := Lib.hid (HB.out.trans (hb.mono HB.out.size))
    clear hb x0 x1 x2 x3 x4
    have HLK := Lib.hid (HLOK.out w2 HB.out)
    go_wp2_with fail
    (with_reducible refine HLK.out.mono ?_); rintro e w3 ⟨rfl, rfl⟩
    clear HLK
    clear HVC HVR HLOK hwB y0 y1 y2 y3 y4 HB0
    go_wp2_with fail
    go_loopw [9, 10, 11, 34] (fun s9 s10 s11 s34 wr => ∃ (j : Nat) (tv : Int), j ≤ n ∧ s34 = .int .i64 j ∧ s9 = .int .i64 j ∧ s10 = .int .i64 (Y j) ∧ s11 = .int .i64 tv ∧ Hid ((j = 0 ∧ tv = 0) ∨ (1 ≤ j ∧ agQ j (Y j) p b t k o = true ∧ tv = aiZ k o (Y j))) ∧ Hid (Below wB.heap.size wB wr)) (fun _ _ _ s34 _ => n - (intOf s34).toNat)
    case atStart => exact ⟨0, 0, Nat.zero_le _, rfl, rfl, by rw [HS0.out], rfl, Lib.hid (.inl ⟨rfl, rfl⟩), HB⟩
    case round =>
      obtain ⟨j, tv, hj, rfl, rfl, rfl, rfl, HT, HBr⟩ := hrel
      clear HB
      have HB := HBr
      clear HBr
      by_cases hlt : j < n
      · have hlt' : (j : Int) < n := by omega
        have hj0 : (0 : Int) ≤ j := by omega
        have hjq : j < L.length := by have := HNN.out; omega
        obtain ⟨bb, off, rfl, hbw, q0⟩ := HV.out wr HB.out j hjq
        obtain ⟨_, x0, x1, x2, x3, x4⟩ := HX.out wr HB.out
        have hnx := HNX.out j hjq
        have hb1 := HBD.out j (by omega)
        have hb2 := HBD.out (j + 1) (by omega)
        have hat := HAT.out j hjq
        have HNe := Lib.hid (fun (h : agQ ((j : Int) + 1) (Y (j + 1)) p b t k o = false) => HEND.out j tv (by omega) HT.out (.inr ⟨by omega, h⟩))
        generalize L[j] = g at *
        have HE := pext_any (Y j) g (by omega) (by omega) (by omega) (by omega) wr
        rw [hnx] at HE
        have HE := Lib.hid HE
        have HP := Lib.hid (fun W => HPM.out ((j : Int) + 1) (Y (j + 1)) (by omega) W)
        have HQ1 := Lib.hid (HQ.out ((j : Int) + 1) (Y (j + 1)))
        have hw1 : IntKind.i64.wrap ((j : Int) + 1) = (j : Int) + 1 := IntWalk.i64_in _ (by omega)
        clear HV HNX HBD HS0 hnx HAT hb1 hat hb2 HEND HPM HQ hbw HT
        go_wp2_with fail
        (with_reducible refine HE.out.mono ?_); rintro e w4 ⟨rfl, rfl⟩
        clear HE
        go_wp2_with fail
        (with_reducible refine (HP.out _).mono ?_); rintro e w4 ⟨rfl, hb⟩
        have HB := Lib.hid (HB.out.trans (hb.mono HB.out.size))
        clear hb HP x0 x1 x2 x3 x4 q0
        rcases hq : agQ ((j : Int) + 1) (Y (j + 1)) p b t k o with _ | _
        · obtain ⟨rfl, rfl⟩ := HNe.out hq
          clear HNe HQ1
          have HF := Lib.hid (HX.out _ HB.out).bel
          generalize agQt ((j : Int) + 1) (Y (j + 1)) p b t k o = qt at *
          go_wp2
          go_ret3
          exact ⟨rfl, HF.out⟩
        · have hqt := HQ1.out hq
          have HR := Lib.hid (show (j + 1 = 0 ∧ agQt ((j : Int) + 1) (Y (j + 1)) p b t k o = 0) ∨ (1 ≤ j + 1 ∧ agQ ((j + 1 : Nat) : Int) (Y (j + 1)) p b t k o = true ∧ agQt ((j : Int) + 1) (Y (j + 1)) p b t k o = aiZ k o (Y (j + 1))) from .inr ⟨by omega, hq, hqt⟩)
          clear HNe HQ1 hqt
          generalize agQt ((j : Int) + 1) (Y (j + 1)) p b t k o = qt at *
          go_wp2
          go_roundw
          case rel => exact ⟨j + 1, qt, by omega, by go_num, by go_num, rfl, rfl, HR, HB⟩
          case measure => simp [intOf]; omega
      · obtain rfl : j = n := by omega
        obtain ⟨rfl, rfl⟩ := HEND.out j tv (by have := HNN.out; omega) HT.out (.inl HNN.out.symm)
        clear HV HNX HBD HS0 HAT HEND HPM HQ HT
        have HF := Lib.hid (HX.out _ HB.out).bel
        go_wp2
        go_ret3
        exact ⟨rfl, HF.out⟩
/-! ### Most -/
set_option maxRecDepth 100000 in
set_option maxHeartbeats 16000000 in
theorem pmost_any (p b t k o : Int) (w : World) : Calls Try.prog 21 #[.agg #[.int .i64 p, .int .i64 b, .int .i64 t], .agg #[.int .i64 k, .int .i64 o]] w (AiB (.tuple #[.int .i64 (agMV p b t k o), .int .i64 (agME p b t k o)]) w) := by
  obtain ⟨wB, hwB, hx⟩ := Bx2.all w p b t k o
  obtain ⟨hbel, y0, y1, y2, y3, y4⟩ := hx wB (Below.refl _ _)
  have HX := Lib.hid hx
  have HVC := Lib.hid (fun W => pvalid20_any p b t W)
  rcases agM_cases p b t k o with ⟨h1, e1, e2⟩ | h
  · rw [e1, e2]
    rw [h1] at HVC
    unfold AiB at *
    clear e1 e2 h1 hx hbel
    go_enter Try.func21, Try.ntmps21
    go_wp2_with fail
    (with_reducible refine (HVC.out _).mono ?_); rintro e w1 ⟨rfl, hb⟩
    have HF := Lib.hid (HX.out _ hb).bel
    clear hb
    go_wp2
    go_ret2
    exact ⟨rfl, HF.out⟩
  have h1 : agV p b t = true := by rcases h with h | h | h <;> exact h.1
  have hcv := agV_cases h1
  have HFT := Lib.hid (fun W => pfit_any k o t (by omega) (by omega) W)
  unfold AiB at *
  rw [h1] at HVC
  have hbad : (∃ x, x ≠ 0 ∧ agME p b t k o = x ∧ agMV p b t k o = 0 ∧ aiFE k o t = x ∧ aiFV k o t = 0) ∨ (aiV k o = true ∧ o ≤ t ∧ agME p b t k o = 0 ∧ agMV p b t k o = aiZ k o (agMn p b t k o)) := by
    rcases h with ⟨_, h2, e1, e2⟩ | ⟨_, h2, h3, e1, e2⟩ | ⟨_, h2, h3, e1, e2⟩
    · exact .inl ⟨1, by decide, e1, e2, by unfold aiFE; rw [h2]; rfl, by unfold aiFV; rw [h2]; rfl⟩
    · exact .inl ⟨2, by decide, e1, e2, by unfold aiFE; rw [if_pos h2, if_pos h3], by unfold aiFV; rw [if_pos h2, if_pos h3]⟩
    · exact .inr ⟨h2, h3, e1, e2⟩
  clear h
  rcases hbad with ⟨x, hx0, e1, e2, e3, e4⟩ | ⟨h2, h3, e1, e2⟩
  · rw [e1, e2]
    rw [e3, e4] at HFT
    have hxn : (x != 0) = true := by simpa using hx0
    clear e1 e2 e3 e4 h1 hx hbel hcv hx0
    go_enter Try.func21, Try.ntmps21
    go_wp2_with fail
    (with_reducible refine (HVC.out _).mono ?_); rintro e w1 ⟨rfl, hb⟩
    have HB := Lib.hid hb
    obtain ⟨_, x0, x1, x2, x3, x4⟩ := HX.out w1 HB.out
    clear hb
    go_wp2_with fail
    (with_reducible refine (HFT.out _).mono ?_); rintro e w2 ⟨rfl, hb⟩
    have HF := Lib.hid (HX.out _ (HB.out.trans (hb.mono HB.out.size))).bel
    clear hb x0 x1 x2 x3 x4
    go_wp2
    go_ret2
    exact ⟨rfl, HF.out⟩
  · have q1 : aiFV k o t = aiFz k o t := by unfold aiFV; rw [if_pos h2, if_neg (by omega)]
    have q2 : aiFE k o t = 0 := by unfold aiFE; rw [if_pos h2, if_neg (by omega)]
    rw [q1, q2] at HFT
    have hmb := agMn_bd e1
    have hfb := aiFz_bd h2 (t := t) (by omega)
    have hmn : agMn p b t k o = min (min (aiFz k o t) b) (p * 4096 + 4 * (p - 1)) := rfl
    have hte : aiTE k o (agMn p b t k o) = 0 := if_pos (aiOk_mk h2 (by omega) (by omega))
    have HTM := Lib.hid (fun (W : World) => (by
      have h9 := ptime_any k o (agMn p b t k o) W
      have e1 : aiTV k o (agMn p b t k o) = aiZ k o (agMn p b t k o) := if_pos (aiOk_mk h2 (by omega) (by omega))
      rw [e1, hte] at h9; exact h9 : Calls Try.prog 32 #[.agg #[.int .i64 k, .int .i64 o], .int .i64 (agMn p b t k o)] W (AiB (.tuple #[.int .i64 (aiZ k o (agMn p b t k o)), .int .i64 0]) W)))
    unfold AiB at *
    rw [e1, e2]
    generalize agMn p b t k o = mn at *
    generalize aiZ k o mn = z at *
    generalize aiFz k o t = fz at *
    have w1_ : IntKind.i64.wrap (p * 4096) = p * 4096 := IntWalk.i64_in _ (by omega)
    have w2_ : IntKind.i64.wrap (p - 1) = p - 1 := IntWalk.i64_in _ (by omega)
    have w3_ : IntKind.i64.wrap (4 * (p - 1)) = 4 * (p - 1) := IntWalk.i64_in _ (by omega)
    have w4_ : IntKind.i64.wrap (p * 4096 + 4 * (p - 1)) = p * 4096 + 4 * (p - 1) := IntWalk.i64_in _ (by omega)
    have hmin : ∀ (W : World) (ts : Array TypeId) (ty : TypeId), (Builtin.min_ ts ty #[.int .i64 b, .int .i64 (p * 4096 + 4 * (p - 1)), .int .i64 fz]).run Try.prog W = .ok (.int .i64 mn) W := fun W ts ty => by
      rw [run_min_int3]
      congr 2
      rw [hmn]
      by_cases g1 : p * 4096 + 4 * (p - 1) < b
      · rw [if_pos g1]
        by_cases g2 : fz < p * 4096 + 4 * (p - 1)
        · rw [if_pos g2]; congr 1; omega
        · rw [if_neg g2]; congr 1; omega
      · rw [if_neg g1]
        by_cases g2 : fz < b
        · rw [if_pos g2]; congr 1; omega
        · rw [if_neg g2]; congr 1; omega
    clear e1 e2 h1 h2 h3 hx hbel q1 q2 hcv hte hmn
    go_enter Try.func21, Try.ntmps21
    go_wp2_with fail
    (with_reducible refine (HVC.out _).mono ?_); rintro e w1 ⟨rfl, hb⟩
    have HB := Lib.hid hb
    obtain ⟨_, x0, x1, x2, x3, x4⟩ := HX.out w1 HB.out
    clear hb
    go_wp2_with fail
    (with_reducible refine (HFT.out _).mono ?_); rintro e w2 ⟨rfl, hb⟩
    have HB := Lib.hid (HB.out.trans (hb.mono HB.out.size))
    clear hb x0 x1 x2 x3 x4 HFT HVC hwB y0 y1 y2 y3 y4
    obtain ⟨_, x0, x1, x2, x3, x4⟩ := HX.out _ HB.out
    go_wp2_with fail
    (with_reducible refine (HTM.out _).mono ?_); rintro e w4 ⟨rfl, hb⟩
    have HF := Lib.hid (HX.out _ (HB.out.trans (hb.mono HB.out.size))).bel
    clear hb
    go_wp2
    go_ret2
    exact ⟨rfl, HF.out⟩
end Go.Proofs.Ytcnpmbgeafkmlaa

