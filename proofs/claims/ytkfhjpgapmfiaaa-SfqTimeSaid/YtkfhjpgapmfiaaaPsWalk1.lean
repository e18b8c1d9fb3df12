/-
  Layer 13: the walk of the statement on tags and the virtual time (SfqTime). Every input; no condition.
-/
import Derived.Test.YtkfhjpgapmfiaaaPsTm
import Derived.Deep.CutBlock
import Derived.Deep.DeepCutAuto
import Derived.Deep.LoopGhost
import Derived.Deep.QuietTactic
import Derived.BigQuiet
import Derived.LoopTactic
namespace Go.Proofs.Ytkfhjpgapmfiaaa
open Go.ChangeShapes Go.WideShapes Go.ChangeAt Go.RowKit
set_option linter.unusedVariables false

set_option maxRecDepth 100000 in
set_option maxHeartbeats 8000000 in
theorem walkTime (A : Option Addr) (len cap : Nat) (w : World) (he : Elems w.heap.size A len w) :
    Calls Try.prog 5 #[.slice A len cap] w (Calm (.bool true) w) := by
  have HG := Lib.hid (Has.new (cap := cap) he)
  have HAW := Lib.hid (fun w => awake13_any w)
  have HN := Lib.hid (fun a (h : 1 ≤ a ∧ a ≤ 1099511627776) w => psnew_any h w)
  clear he
  unfold Calm at HAW ⊢
  go_enter Try.func5, Try.ntmps5
  go_wp2_with fail
  (with_reducible refine (new_any A len cap _).mono ?_); rintro e w' ⟨rfl, rfl⟩
  have HX := Lib.hid (three_any (t := 2) (A := A) (x := 1099511627776) (y := 1) (z := 268435456) HG.out (by omega))
  clear HG
  go_wp2_with fail
  (with_reducible refine HX.out.mono ?_); rintro e w1 ⟨n, v, hn, rfl, hv, hc, hh⟩
  simp only [World.size_alloc] at hc
  have hv2 : 1 ≤ v ∧ v ≤ 1099511627776 := by omega
  have HX2 := Lib.hid (HN.out v hv2 w1)
  have HH := Lib.hid hh
  have hn3 : (n : Int) < 3 := by omega
  clear hv hh HX HN
  go_wp2_with fail
  (with_reducible refine HX2.out.mono ?_); rintro e w2 hnew
  obtain ⟨R, rfl, hso⟩ := SO.newC HH.out hnew
  have HS := Lib.hid hso
  have HT := Lib.hid (Tm.new hv2.1)
  clear hnew hso HX2 HH hc hv2
  go_wp2_with fail
  go_loopw [6] (fun s6 wr => ∃ (i q : Nat) (s : Sf), i ≤ 60 ∧ s6 = .int .i64 i ∧ q ≤ 1 + 10 * i ∧ Hid (SO (XC w.heap.size A len cap q w) R s wr) ∧ Hid (Tm i s)) (fun s6 _ => 60 - (intOf s6).toNat)
  case atStart => exact ⟨0, 1, _, by omega, rfl, by omega, HS, HT⟩
  case round =>
    obtain ⟨i, q, s, hi, rfl, hq, HS2, HT2⟩ := hrel
    clear HS HT
    by_cases hlt : i < 60
    · have hlt' : (i : Int) < 60 := by omega
      have HX := Lib.hid (HS2.out.next (n := 4) (by omega) (by omega) (by omega))
      unfold NxAns at HX
      clear HS2
      go_wp2_with fail
      (with_reducible refine HX.out.mono ?_); rintro e w3 ⟨v, v0, v1, rfl, hso⟩
      have HS3 := Lib.hid hso
      clear hso HX
      go_upto_block 2 with fail
      go_cut [34] (fun s34 wx => ∃ (q' : Nat) (s' : Sf), q' ≤ q + 4 ∧ Hid (SO (XC w.heap.size A len cap q' w) R s' wx) ∧ Hid (Tm i s'))
      case first =>
        rcases (by omega : v = 0 ∨ v = 1 ∨ (¬ v = 0 ∧ ¬ v = 1)) with rfl | rfl | ⟨hv0, hv1⟩
        · have HX := Lib.hid (HS3.out.next (n := 5) (by omega) (by omega) (by omega))
          unfold NxAns at HX
          go_wp2_with fail
          (with_reducible refine HX.out.mono ?_); rintro e w4 ⟨x, x0, x1, rfl, hso⟩
          have HX2 := Lib.hid (hso.join XC.kx (f := x) (by omega) 1)
          clear hso HX
          go_wp2_with fail
          (with_reducible refine HX2.out.mono ?_); rintro e w5 ⟨rfl, hso⟩
          have HF := Lib.hid hso
          clear hso HX2
          go_wp2
          go_meet
          case rel => exact ⟨q + 1 + 1, _, by omega, HF, Lib.hid (HT2.out.jn _ _)⟩
        · have HX := Lib.hid (HS3.out.next (n := 3) (by omega) (by omega) (by omega))
          unfold NxAns at HX
          go_wp2_with fail
          (with_reducible refine HX.out.mono ?_); rintro e w4 ⟨x, x0, x1, rfl, hso⟩
          by_cases hx : x = 0
          · subst hx
            have HX2 := Lib.hid (hso.next (n := 5) (by omega) (by omega) (by omega))
            unfold NxAns at HX2
            clear hso HX
            go_wp2_with fail
            (with_reducible refine HX2.out.mono ?_); rintro e w5 ⟨y, y0, y1, rfl, hso⟩
            have HX3 := Lib.hid (hso.leave XC.kx (f := y) (by omega))
            have HOK := Lib.hid hso.ok
            clear hso HX2
            go_wp2_with fail
            (with_reducible refine HX3.out.mono ?_); rintro e w6 ⟨rfl, t, ht, hso⟩
            have HF := Lib.hid hso
            have HT3 := Lib.hid (HT2.out.lv HOK.out ht)
            clear hso HX3 ht
            go_wp2
            go_meet
            case rel => exact ⟨q + 1 + 1 + 1, _, by omega, HF, HT3⟩
          · have HF := Lib.hid hso
            clear hso HX
            go_wp2
            go_meet
            case rel => exact ⟨q + 1 + 1, _, by omega, HF, HT2⟩
        · go_wp2
          go_meet
          case rel => exact ⟨q + 1, _, by omega, HS3, HT2⟩
      case rest =>
        obtain ⟨q', s', hq', HS4, HT4⟩ := hcut
        clear HS3 HT2
        -- what has been selected is charged, or nothing is active
        obtain ⟨f, g, hsel⟩ := sel_some HS4.out.ok
        have HSL := Lib.hid (HS4.out.select XC.kx hsel)
        have hfb := hsel.bd
        have hcase : (g = 5 ∧ Hid True) ∨ (g = 0 ∧ Hid (chE s' f = chE s' f ∧ ∃ n : Nat, s'.Sel n ∧ f = n)) := by
          rcases hsel with ⟨_, _, rfl⟩ | ⟨n, hn, rfl, rfl⟩
          · exact .inl ⟨rfl, Lib.hid trivial⟩
          · exact .inr ⟨rfl, Lib.hid ⟨rfl, n, hn, rfl⟩⟩
        clear hsel HS4
        go_wp2_with fail
        (with_reducible refine HSL.out.mono ?_); rintro e w4 ⟨rfl, hso⟩
        have HS5 := Lib.hid hso
        clear hso HSL
        rcases hcase with ⟨rfl, _⟩ | ⟨rfl, HC⟩
        case' inl =>
          obtain ⟨qz, hqz, hqe⟩ : ∃ qz, qz ≤ q + 6 ∧ q' = qz := ⟨q', by omega, rfl⟩
          have HTz := Lib.hid (HT4.out.more)
          rw [hqe] at HS5
          clear hqe HT4 hq'
          obtain ⟨sz, rfl⟩ : ∃ sz, sz = s' := ⟨_, rfl⟩
          obtain ⟨wz, rfl⟩ : ∃ wz, wz = w4 := ⟨_, rfl⟩
          have HSz := HS5
          clear HS5
          go_wp2_with fail
        case' inr =>
          have HX := Lib.hid (HS5.out.length (by omega))
          unfold NxAns at HX
          go_wp2_with fail
          (with_reducible refine HX.out.mono ?_); rintro e w5 ⟨l, l0, l1, rfl, hso⟩
          have hok := hso.ok
          obtain ⟨_, n, hn, hfn⟩ := HC.out
          obtain ⟨c1, c2⟩ := HT4.out.ch hok (by omega) hn (l := l) (by omega)
          have HCH := hso.charge XC.kx (f := f) hfb l (HT4.out.aw (by omega))
          rw [hfn, c1] at HCH
          rw [← hfn] at HCH
          have HCH := Lib.hid HCH
          have HC2 := Lib.hid (fun t (ht : ChT s' f l t) => (c2 t (by rw [← hfn]; exact ht)).1)
          clear hso HX HC c1 c2 hn hfn hok HS5
          go_wp2_with fail
          (with_reducible refine HCH.out.mono ?_); rintro e wz ⟨rfl, sz, ht, hso⟩
          have HTz := Lib.hid (HC2.out sz ht)
          have HSz := Lib.hid hso
          obtain ⟨qz, hqz, hqe⟩ : ∃ qz, qz ≤ q + 6 ∧ q' + 1 = qz := ⟨q' + 1, by omega, rfl⟩
          rw [hqe] at HSz
          clear hso HCH HC2 ht hqe HT4 hq' l0 l1
          go_wp2_with fail
        all_goals
          have HTG := Lib.hid HSz.out.tags
          have HTM := Lib.hid (fun (W : World) (hb : Below wz.heap.size wz W) => (HSz.out.below XC.kx hb).time)
          have HBD := Lib.hid (fun k (hk : k < (tgl sz 32).length) => HTz.out.tag hk)
          have hnow := HSz.out.ok.now
          have hle := tgl_le sz 32
          obtain ⟨nw, hnw⟩ : ∃ nw, sz.now = nw := ⟨_, rfl⟩
          obtain ⟨L, hL⟩ : ∃ L, tgl sz 32 = L := ⟨_, rfl⟩
          unfold TgAns at HTG
          rw [hL] at HTG HBD hle
          rw [hnw] at HTM HBD hnow
          clear hL hnw
          (with_reducible refine HTG.out.mono ?_); rintro e wt ⟨At, ct, rfl, hat, hbt⟩
          have HAT := Lib.hid (fun k (hk : k < L.length) => hat.tg hk)
          have HST := Lib.hid (HSz.out.below XC.kx hbt)
          have HTM2 := Lib.hid (fun (W : World) (hb : Below wt.heap.size wt W) => HTM.out W (hbt.trans (hb.mono hbt.size)))
          have e1 : IntKind.i64.wrap (nw + 2952069120) = nw + 2952069120 := IntWalk.i64_in _ (by omega)
          clear hat hbt HTG HTM HSz
          go_wp2_with fail
          go_loopw [10] (fun s10 wx => ∃ k : Nat, k ≤ L.length ∧ s10 = .int .i64 k ∧ Hid (Drn wt wx)) (fun s10 _ => L.length - (intOf s10).toNat)
          case atStart => exact ⟨0, Nat.zero_le _, rfl, Lib.hid (Drn.refl _)⟩
          case round =>
            obtain ⟨k, hk, rfl, HD⟩ := hrel
            by_cases hkl : k < L.length
            · have hkl' : (k : Int) < L.length := by omega
              obtain ⟨b, off, rfl, _, _, _, _, d2⟩ := HAT.out k hkl
              have hb2 := HBD.out k hkl
              have d2' := (HD.out.cell ⟨b, off + k * 3 + 2, none⟩).trans d2
              obtain ⟨x, hx⟩ : ∃ x, L[k].s = x := ⟨_, rfl⟩
              rw [hx] at hb2 d2'
              have q1 : decide (x < nw) = false := decide_eq_false (by omega)
              have q2 : decide (nw + 2952069120 < x) = false := decide_eq_false (by omega)
              have HTM3 := Lib.hid (fun (W : World) (hb : Below wr.heap.size wr W) => HTM2.out W (HD.out.below.trans (hb.mono (HD.out.below (B := 0)).size)))
              have hd0 : wr.cell? ⟨b, off + k * 3 + 2, none⟩ = some (.int .i64 x) := d2'
              clear d2 hx hb2 HBD HTM2 HAT hnow
              go_wp2_with fail
              go_quiet ((go_at_call 25; exact Calls.quiet_of_same ((HTM3.out _ (by repeat (first | exact Below.refl _ _ | refine Below.drew ?_ | refine Below_drewN ?_ _))).mono fun _ _ h => ⟨h.1, h.2.symm⟩)))
              go_wp2
              go_roundw
              case rel => exact ⟨k + 1, by omega, by go_num, Lib.hid (HD.out.more _)⟩
              case measure => simp [intOf]; omega
            · obtain rfl : k = L.length := by omega
              have HSF := Lib.hid (HST.out.below XC.kx HD.out.below)
              clear HTM2 HAT HBD HD HST
              go_wp2
              go_roundw
              case rel => exact ⟨i + 1, qz, sz, by omega, by go_num, by omega, HSF, HTz⟩
              case measure => simp [intOf]; omega
    · obtain rfl : i = 60 := by omega
      have HX := Lib.hid (HAW.out wr)
      have HF := Lib.hid HS2.out.has.2
      clear HS2 HT2
      go_wp2_with fail
      (with_reducible refine HX.out.mono ?_); rintro e w3 ⟨rfl, hb⟩
      have HF2 := Lib.hid (HF.out.trans (hb.mono HF.out.size))
      clear hb HF HX
      go_wp2
      go_ret
      exact ⟨rfl, HF2.out⟩
end Go.Proofs.Ytkfhjpgapmfiaaa

