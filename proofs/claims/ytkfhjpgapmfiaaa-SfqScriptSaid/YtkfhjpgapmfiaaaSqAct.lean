/-
  Layer 13: the statement's 'act': one call of both references, drawn.
-/
import Derived.Test.YtkfhjpgapmfiaaaSqPair
import Derived.Deep.CutBlock
import Derived.Deep.DeepCutAuto
namespace Go.Proofs.Ytkfhjpgapmfiaaa
open Go.ChangeShapes Go.WideShapes Go.ChangeAt Go.RowKit
set_option linter.unusedVariables false

/-- A number out of a list that has just been made. -/
theorem AX.pick {B : Nat} {a : Option Addr} {len cap : Nat} {wI : World} {T0 Q0 : Nat → Prop} {R S : Nat} {w0 : World} {q : Nat} {s t : Sf} {w : World} (h : AX B a len cap wI T0 Q0 R S w0 q s t w) (hq : q ≤ 1000000000) (L : List Int) (cs : Array Value) (ty : TypeId) (he : cs = (L.map (Value.int .i64)).toArray) (h0 : 0 < L.length) (h1 : L.length ≤ 100) (m : Int) (hm : m = L.length) :
    Calls Try.prog 9 #[.pointer (some ⟨B, 0, none⟩), .int .i64 m] (w.alloc (.cells cs ty)) fun e w' => ∃ (n : Nat) (v : Int), n < L.length ∧ e = .returned (.int .i64 n) ∧ v ∈ L ∧ w'.cell? ⟨w.heap.size, n, none⟩ = some (.int .i64 v) ∧ AX B a len cap wI T0 Q0 R S w0 (q + 1) s t w' := by
  subst he hm
  have hlt := h.has.1.lt
  refine (next_any B a len cap q L.length _ (by omega) (by omega) hq (h.has.1.alloc _)).mono ?_
  rintro e w' ⟨r, r0, r1, rfl, hg, ho⟩
  obtain ⟨n, rfl⟩ := Int.eq_ofNat_of_zero_le r0
  obtain ⟨v, hv, hc⟩ := pickN (L := L) rfl ho hlt (n := n) (by omega)
  exact ⟨n, v, by omega, rfl, hv, hc, (h.below ((Below.refl _ _).alloc (Nat.le_refl _) _)).stepD hg ho⟩
def AcA (B : Nat) (a : Option Addr) (len cap : Nat) (wI : World) (T0 Q0 : Nat → Prop) (R S : Nat) (w0 : World) (q : Nat) (s : Sf) (e : Ending) (w' : World) : Prop :=
  e = .returned (.bool true) ∧ ∃ (q' : Nat) (s' : Sf), q' ≤ q + 6 ∧ s'.away ≤ s.away + 1099511627776 ∧ AX B a len cap wI T0 Q0 R S w0 q' s' s' w'
set_option maxRecDepth 100000 in
set_option maxHeartbeats 8000000 in
theorem act_any {B : Nat} {a : Option Addr} {len cap : Nat} {wI : World} {T0 Q0 : Nat → Prop} {R S : Nat} {w0 : World} {q : Nat} {s : Sf} {w : World} (h : AX B a len cap wI T0 Q0 R S w0 q s s w) (haw : s.away ≤ 900000000000000000) (hq : q ≤ 100000000) :
    Calls Try.prog 12 #[.pointer (some ⟨B, 0, none⟩), .pointer (some ⟨R, 0, none⟩), .pointer (some ⟨S, 0, none⟩)] w (AcA B a len cap wI T0 Q0 R S w0 q s) := by
  have HX := Lib.hid (h.next (n := 6) (by omega) (by omega) (by omega))
  unfold NxA at HX
  have haw2 : s.away ≤ 1000000000000000000 := by omega
  unfold AcA
  clear h
  go_enter Try.func12, Try.ntmps12
  go_wp2_with fail
  (with_reducible refine HX.out.mono ?_); rintro e w1 ⟨k, k0, k1, rfl, h1⟩
  have HX2 := Lib.hid (h1.weight (by omega))
  unfold NxA at HX2
  clear h1 HX
  go_wp2_with fail
  (with_reducible refine HX2.out.mono ?_); rintro e w2 ⟨x, x0, x1, rfl, h1⟩
  have HX3 := Lib.hid (h1.next (n := 30) (by omega) (by omega) (by omega))
  unfold NxA at HX3
  clear h1 HX2
  go_wp2_with fail
  (with_reducible refine HX3.out.mono ?_); rintro e w3 ⟨v, v0, v1, rfl, h1⟩
  have HS := Lib.hid h1
  clear h1 HX3
  go_upto_block 0 with fail
  go_cut [7, 8] (fun s7 s8 wx => ∃ (f x' : Int) (q' : Nat), -1 ≤ f ∧ f ≤ 32 ∧ s7 = .int .i64 f ∧ s8 = .int .i64 x' ∧ q' ≤ q + 4 ∧ Hid (AX B a len cap wI T0 Q0 R S w0 q' s s wx))
  case first =>
    rcases (by omega : v = 0 ∨ v = 1 ∨ (¬ v = 0 ∧ ¬ v = 1)) with rfl | rfl | ⟨hv0, hv1⟩
    · have HX := Lib.hid (HS.out.pick (by omega) [-1, 32, 31] #[.int .i64 (-1), .int .i64 32, .int .i64 31] 3 rfl (by decide) (by decide) 3 rfl)
      clear HS
      go_wp2_with fail
      (with_reducible refine HX.out.mono ?_); rintro e w4 ⟨n, f, hn, rfl, hf, hc, h1⟩
      simp only [List.length_cons, List.length_nil] at hn
      have hn' : (n : Int) < 3 := by omega
      have hfb : -1 ≤ f ∧ f ≤ 32 := by simp at hf; omega
      have HF := Lib.hid h1
      clear h1 HX hf
      go_wp2
      go_meet
      case rel => exact ⟨f, x, _, hfb.1, hfb.2, rfl, rfl, by omega, HF⟩
    · have HX := Lib.hid (HS.out.pick (by omega) [0, 17] #[.int .i64 0, .int .i64 17] 3 rfl (by decide) (by decide) 2 rfl)
      clear HS
      go_wp2_with fail
      (with_reducible refine HX.out.mono ?_); rintro e w4 ⟨n, f, hn, rfl, hf, hc, h1⟩
      simp only [List.length_cons, List.length_nil] at hn
      have hn' : (n : Int) < 2 := by omega
      have HF := Lib.hid h1
      clear h1 HX hf
      go_wp2
      go_meet
      case rel => exact ⟨k, f, _, by omega, by omega, rfl, rfl, by omega, HF⟩
    · go_wp2
      go_meet
      case rel => exact ⟨k, x, _, by omega, by omega, rfl, rfl, by omega, HS⟩
  case rest =>
    obtain ⟨f, y, q', f0, f1, rfl, rfl, hq', HS2⟩ := hcut
    have hfb : -1000000 ≤ f ∧ f ≤ 1000000 := by omega
    clear HS
    have HX := Lib.hid (HS2.out.next (n := 9) (by omega) (by omega) (by omega))
    unfold NxA at HX
    clear HS2
    go_wp2_with fail
    (with_reducible refine HX.out.mono ?_); rintro e w4 ⟨u, u0, u1, rfl, h1⟩
    clear HX
    rcases (by omega : (u = 0 ∨ u = 1) ∨ u = 2 ∨ u = 3 ∨ u = 4 ∨ (¬ u = 0 ∧ ¬ u = 1 ∧ ¬ u = 2 ∧ ¬ u = 3 ∧ ¬ u = 4)) with hu | rfl | rfl | rfl | ⟨g0, g1, g2, g3, g4⟩
    · -- Join
      have HX := Lib.hid (h1.ps fun T hp => psjoin_any hp hfb y)
      have hw : (jnT s f y).away = s.away := jn_away s f y
      have HF := Lib.hid (fun (W : World) (h9 : AX B a len cap wI T0 Q0 R S w0 (q' + 1) (jnT s f y) (jnT s f y) W) => show ∃ (q'' : Nat) (s' : Sf), q'' ≤ q + 6 ∧ s'.away ≤ s.away + 1099511627776 ∧ AX B a len cap wI T0 Q0 R S w0 q'' s' s' W from ⟨_, _, by omega, by omega, h9⟩)
      have HY := Lib.hid (fun (W : World) (h9 : AX B a len cap wI T0 Q0 R S w0 (q' + 1) (jnT s f y) s W) => h9.rs fun Q hp => rjoin_any hp f y)
      obtain ⟨er, her⟩ : ∃ er, jnE s f y = er := ⟨_, rfl⟩
      rw [her] at HX HY
      have hee : (er == er) = true := by simp
      clear h1 hw her
      rcases hu with rfl | rfl
      · go_wp2_with fail
        (with_reducible refine HX.out.mono ?_); rintro e w5 ⟨rfl, h2⟩
        have HZ := Lib.hid (HY.out w5 h2)
        clear h2 HX HY
        go_wp2_with fail
        (with_reducible refine HZ.out.mono ?_); rintro e w6 ⟨rfl, h3⟩
        have HE := Lib.hid (HF.out w6 h3)
        clear h3 HZ HF
        go_wp2
        go_ret
        exact ⟨rfl, HE.out⟩
      · go_wp2_with fail
        (with_reducible refine HX.out.mono ?_); rintro e w5 ⟨rfl, h2⟩
        have HZ := Lib.hid (HY.out w5 h2)
        clear h2 HX HY
        go_wp2_with fail
        (with_reducible refine HZ.out.mono ?_); rintro e w6 ⟨rfl, h3⟩
        have HE := Lib.hid (HF.out w6 h3)
        clear h3 HZ HF
        go_wp2
        go_ret
        exact ⟨rfl, HE.out⟩
    · -- Leave
      have HX := Lib.hid (h1.psE fun T hp => psleave_any hp hfb)
      have HF := Lib.hid (fun (W : World) (s' : Sf) (hl : LvT s f s') (h9 : AX B a len cap wI T0 Q0 R S w0 (q' + 1) s' s' W) => show ∃ (q'' : Nat) (s' : Sf), q'' ≤ q + 6 ∧ s'.away ≤ s.away + 1099511627776 ∧ AX B a len cap wI T0 Q0 R S w0 q'' s' s' W from ⟨_, _, by omega, by have := lv_away hl; omega, h9⟩)
      have HY := Lib.hid (fun (W : World) (s' : Sf) (hl : LvT s f s') (h9 : AX B a len cap wI T0 Q0 R S w0 (q' + 1) s' s W) => h9.rs fun Q hp => rleave_any hp hl)
      obtain ⟨er, her⟩ : ∃ er, lvE s f = er := ⟨_, rfl⟩
      rw [her] at HX HY
      have hee : (er == er) = true := by simp
      clear h1 her
      go_wp2_with fail
      (with_reducible refine HX.out.mono ?_); rintro e w5 ⟨rfl, s', hl, h2⟩
      have HZ := Lib.hid (HY.out w5 s' hl h2)
      have HL := Lib.hid hl
      clear h2 HX HY hl
      go_wp2_with fail
      (with_reducible refine HZ.out.mono ?_); rintro e w6 ⟨rfl, h3⟩
      have HE := Lib.hid (HF.out w6 s' HL.out h3)
      clear h3 HZ HF HL
      go_wp2
      go_ret
      exact ⟨rfl, HE.out⟩
    · -- SetWeight
      have HX := Lib.hid (h1.ps fun T hp => pssetw_any hp hfb y)
      have hw : (swT s f y).away = s.away := sw_away s f y
      have HF := Lib.hid (fun (W : World) (h9 : AX B a len cap wI T0 Q0 R S w0 (q' + 1) (swT s f y) (swT s f y) W) => show ∃ (q'' : Nat) (s' : Sf), q'' ≤ q + 6 ∧ s'.away ≤ s.away + 1099511627776 ∧ AX B a len cap wI T0 Q0 R S w0 q'' s' s' W from ⟨_, _, by omega, by omega, h9⟩)
      have HY := Lib.hid (fun (W : World) (h9 : AX B a len cap wI T0 Q0 R S w0 (q' + 1) (swT s f y) s W) => h9.rs fun Q hp => rsetw_any hp f y)
      obtain ⟨er, her⟩ : ∃ er, swE s f y = er := ⟨_, rfl⟩
      rw [her] at HX HY
      have hee : (er == er) = true := by simp
      clear h1 hw her
      go_wp2_with fail
      (with_reducible refine HX.out.mono ?_); rintro e w5 ⟨rfl, h2⟩
      have HZ := Lib.hid (HY.out w5 h2)
      clear h2 HX HY
      go_wp2_with fail
      (with_reducible refine HZ.out.mono ?_); rintro e w6 ⟨rfl, h3⟩
      have HE := Lib.hid (HF.out w6 h3)
      clear h3 HZ HF
      go_wp2
      go_ret
      exact ⟨rfl, HE.out⟩
    · -- Charge
      have hok := h1.ok
      have HP := Lib.hid (h1.pick (by omega) [0, 1, 100, 4096, 4097] #[.int .i64 0, .int .i64 1, .int .i64 100, .int .i64 4096, .int .i64 4097] 3 rfl (by decide) (by decide) 5 rfl)
      have HF := Lib.hid (fun (W : World) (l : Int) (s' : Sf) (hl : ChT s f l s') (h9 : AX B a len cap wI T0 Q0 R S w0 (q' + 1 + 1) s' s' W) => show ∃ (q'' : Nat) (s' : Sf), q'' ≤ q + 6 ∧ s'.away ≤ s.away + 1099511627776 ∧ AX B a len cap wI T0 Q0 R S w0 q'' s' s' W from ⟨_, _, by omega, ch_away hok hl, h9⟩)
      have HX := Lib.hid (fun (W : World) (l : Int) (h9 : AX B a len cap wI T0 Q0 R S w0 (q' + 1 + 1) s s W) => h9.psE fun T hp => pscharge_any hp hfb l haw2)
      have HY := Lib.hid (fun (W : World) (l : Int) (s' : Sf) (hl : ChT s f l s') (h9 : AX B a len cap wI T0 Q0 R S w0 (q' + 1 + 1) s' s W) => h9.rs fun Q hp => rcharge_any hp hl haw2)
      clear h1 hok
      go_wp2_with fail
      (with_reducible refine HP.out.mono ?_); rintro e w5 ⟨n, l, hn, rfl, _, hc, h2⟩
      simp only [List.length_cons, List.length_nil] at hn
      have hn' : (n : Int) < 5 := by omega
      have HX2 := Lib.hid (HX.out w5 l h2)
      obtain ⟨er, her⟩ : ∃ er, chE s f l = er := ⟨_, rfl⟩
      rw [her] at HX2
      have HER := Lib.hid her
      have hee : (er == er) = true := by simp
      clear h2 HX HP her
      go_wp2_with fail
      (with_reducible refine HX2.out.mono ?_); rintro e w6 ⟨rfl, s', hl, h3⟩
      have HZ := HY.out w6 l s' hl h3
      rw [HER.out] at HZ
      have HZ := Lib.hid HZ
      have HL := Lib.hid hl
      clear h3 HX2 HY hl hc
      go_wp2_with fail
      (with_reducible refine HZ.out.mono ?_); rintro e w7 ⟨rfl, h4⟩
      have HE := Lib.hid (HF.out w7 l s' HL.out h4)
      clear h4 HZ HF HL
      go_wp2
      go_ret
      exact ⟨rfl, HE.out⟩
    · -- Select, then Charge
      have hok := h1.ok
      obtain ⟨p, g, hsel⟩ := sel_some hok
      have hpb := hsel.bd
      have HX := Lib.hid (h1.calmP fun T hp => psselect_any hp hsel)
      have HSE := Lib.hid hsel
      have HF := Lib.hid (fun (W : World) (l : Int) (s' : Sf) (hl : ChT s p l s') (h9 : AX B a len cap wI T0 Q0 R S w0 (q' + 1 + 1) s' s' W) => show ∃ (q'' : Nat) (s' : Sf), q'' ≤ q + 6 ∧ s'.away ≤ s.away + 1099511627776 ∧ AX B a len cap wI T0 Q0 R S w0 q'' s' s' W from ⟨_, _, by omega, ch_away hok hl, h9⟩)
      have HX2 := Lib.hid (fun (W : World) (l : Int) (h9 : AX B a len cap wI T0 Q0 R S w0 (q' + 1 + 1) s s W) => h9.psE fun T hp => pscharge_any hp hpb l haw2)
      have HY := Lib.hid (fun (W : World) (l : Int) (s' : Sf) (hl : ChT s p l s') (h9 : AX B a len cap wI T0 Q0 R S w0 (q' + 1 + 1) s' s W) => h9.rs fun Q hp => rcharge_any hp hl haw2)
      have hne : (p != p) = false := by simp
      have hne2 : (g != g) = false := by simp
      clear h1 hok hsel
      go_wp2_with fail
      (with_reducible refine HX.out.mono ?_); rintro e w5 ⟨rfl, h2⟩
      have HX3 := Lib.hid (h2.calmR fun Q hp => rselect_any hp HSE.out)
      clear h2 HX
      go_wp2_with fail
      (with_reducible refine HX3.out.mono ?_); rintro e w6 ⟨rfl, h3⟩
      have HX4 := Lib.hid (h3.length (by omega))
      unfold NxA at HX4
      clear h3 HX3
      go_wp2_with fail
      (with_reducible refine HX4.out.mono ?_); rintro e w7 ⟨l, l0, l1, rfl, h4⟩
      have HX5 := Lib.hid (HX2.out w7 l h4)
      obtain ⟨er, her⟩ : ∃ er, chE s p l = er := ⟨_, rfl⟩
      rw [her] at HX5
      have HER := Lib.hid her
      have hee : (er == er) = true := by simp
      clear h4 HX4 HX2 her
      go_wp2_with fail
      (with_reducible refine HX5.out.mono ?_); rintro e w8 ⟨rfl, s', hl, h5⟩
      have HZ := HY.out w8 l s' hl h5
      rw [HER.out] at HZ
      have HZ := Lib.hid HZ
      have HL := Lib.hid hl
      clear h5 HX5 HY hl
      go_wp2_with fail
      (with_reducible refine HZ.out.mono ?_); rintro e w9 ⟨rfl, h6⟩
      have HE := Lib.hid (HF.out w9 l s' HL.out h6)
      clear h6 HZ HF HL
      go_wp2
      go_ret
      exact ⟨rfl, HE.out⟩
end Go.Proofs.Ytkfhjpgapmfiaaa

