/-
  Layer 19: the walk of AirtimeInverse.
-/
import Derived.Test.YtcefpkibglideaaAiHelp
namespace Go.Proofs.Ytcefpkibglideaa
open Go.ChangeShapes Go.WideShapes Go.ChangeAt Go.RowKit
set_option linter.unusedVariables false

set_option maxRecDepth 100000 in
set_option maxHeartbeats 8000000 in
theorem walkInverse19 (A : Option Addr) (len cap : Nat) (t b : Int) (t0 : 0 ≤ t) (t1 : t ≤ 4294967295) (b0 : 0 ≤ b) (b1 : b ≤ 4294967295) (w : World) (he : Elems w.heap.size A len w) :
    Calls Try.prog 5 #[.slice A len cap, .int .u32 t, .int .u32 b] w (Calm (.bool true) w) := by
  have HAW := Lib.hid (fun w => awake19_any w)
  have hg := Lib.hid (Has.new (cap := cap) he)
  clear he
  unfold AiB Calm at *
  go_enter Try.func5, Try.ntmps5
  go_wp2_with fail
  (with_reducible refine (new_any A len cap _).mono ?_); rintro e w' ⟨rfl, rfl⟩
  have HR := Lib.hid (grate_any _ A len cap 0 _ _ hg.out (by decide))
  clear hg
  go_wp2_with fail
  (with_reducible refine HR.out.mono ?_); rintro e w1 ⟨⟨k, o⟩, hr, rfl, hg1, _⟩
  have hv := rtL_ok hr
  have HB1 := Lib.hid (show Below w.heap.size w w1 from hg1.2)
  have HO := Lib.hid (one_rt k o 24 w1)
  have HFT := Lib.hid (fun w => pfit_any k o t (by omega) (by omega) w)
  clear hg1 HR hr
  simp only at hv
  unfold AiB at *
  by_cases ht : t < o
  · have e1 : aiFE k o t = 2 := by unfold aiFE; rw [if_pos hv, if_pos ht]
    rw [e1] at HFT
    clear e1
    generalize aiFV k o t = n at *
    go_wp2_with fail
    (with_reducible refine (HFT.out _).mono ?_); rintro e w2 ⟨rfl, hb⟩
    obtain ⟨⟨c0, c1⟩, hz⟩ := HO.out w2 hb
    have HF := Lib.hid (HB1.out.trans (hz.mono HB1.out.size))
    clear hb hz
    go_wp2_with fail
    (with_reducible refine (HAW.out _).mono ?_); rintro e w3 ⟨rfl, hb⟩
    have HF := Lib.hid (HF.out.trans (hb.mono HF.out.size))
    clear hb
    go_wp2
    go_ret
    exact ⟨rfl, HF.out⟩
  · have e1 : aiFE k o t = 0 := by unfold aiFE; rw [if_pos hv, if_neg ht]
    have e2 : aiFV k o t = aiFz k o t := by unfold aiFV; rw [if_pos hv, if_neg ht]
    rw [e1, e2] at HFT
    obtain ⟨n0, n1⟩ := aiFz_bd hv ht
    have hin := aiFz_in hv ht
    have hout := fun h => aiFz_out (t := t) hv h
    clear e1 e2
    generalize aiFz k o t = n at *
    have hok := aiOk_mk hv n0 n1
    have H1 := Lib.hid (fun w => ptime_any k o n w)
    rw [show aiTV k o n = aiZ k o n from if_pos hok, show aiTE k o n = 0 from if_pos hok] at H1
    have H2 := Lib.hid (fun w => ptime_any k o (n + 1) w)
    obtain ⟨c, hc⟩ : ∃ c : Int, b % 262144 = c := ⟨_, rfl⟩
    have c0' : 0 ≤ c := by omega
    have c1' : c < 262144 := by omega
    have hok3 := aiOk_mk hv c0' (by omega)
    have hok4 := aiOk_mk hv (show 0 ≤ c + 1 by omega) (by omega)
    have H3 := Lib.hid (fun w => ptime_any k o c w)
    rw [show aiTV k o c = aiZ k o c from if_pos hok3, show aiTE k o c = 0 from if_pos hok3] at H3
    have H4 := Lib.hid (fun w => ptime_any k o (c + 1) w)
    rw [show aiTV k o (c + 1) = aiZ k o (c + 1) from if_pos hok4, show aiTE k o (c + 1) = 0 from if_pos hok4] at H4
    have hmono : aiZ k o c ≤ aiZ k o (c + 1) := aiZ_mono (aiV_cases hv).1 (by omega)
    have hbt : b.tmod 262144 = c := by rw [Int.tmod_eq_emod_of_nonneg b0]; exact hc
    have m1 : IntKind.i64.wrap (n + 1) = n + 1 := IntWalk.i64_in _ (by omega)
    have m2 : IntKind.i64.wrap (c + 1) = c + 1 := IntWalk.i64_in _ (by omega)
    have HT2 : Hid (∃ V E : Int, aiTV k o (n + 1) = V ∧ aiTE k o (n + 1) = E ∧ (n < 262144 → E = 0 ∧ t < V)) := Lib.hid ⟨_, _, rfl, rfl, fun h => by
      have h5 := aiOk_mk hv (show 0 ≤ n + 1 by omega) (by omega)
      exact ⟨if_pos h5, by rw [show aiTV k o (n + 1) = aiZ k o (n + 1) from if_pos h5]; exact hout h⟩⟩
    obtain ⟨V, E, hV, hE, hVE⟩ := HT2.out
    rw [hV, hE] at H2
    have HVE := Lib.hid hVE
    clear hV hE hVE HT2 hout hok hok3 hok4
    generalize aiZ k o n = x at *
    generalize aiZ k o c = u at *
    generalize aiZ k o (c + 1) = v at *
    have HM := Lib.hid hmono
    clear hmono
    go_wp2_with fail
    (with_reducible refine (HFT.out _).mono ?_); rintro e w2 ⟨rfl, hb⟩
    have HX := Lib.hid hb
    obtain ⟨⟨d0, d1⟩, _⟩ := HO.out w2 HX.out
    clear hb HFT
    go_wp2_with fail
    (with_reducible refine (H1.out _).mono ?_); rintro e w3 ⟨rfl, hb⟩
    have HX2 := Lib.hid (HX.out.trans (hb.mono HX.out.size))
    clear hb d0 d1 H1 HX
    obtain ⟨⟨d0, d1⟩, _⟩ := HO.out w3 HX2.out
    go_wp2_with fail
    (with_reducible refine (H2.out _).mono ?_); rintro e w4 ⟨rfl, hb⟩
    have HX3 := Lib.hid (HX2.out.trans (hb.mono HX2.out.size))
    clear hb d0 d1 H2 HX2
    obtain ⟨⟨d0, d1⟩, _⟩ := HO.out w4 HX3.out
    by_cases hn : n < 262144
    · obtain ⟨rfl, hV⟩ := HVE.out hn
      clear HVE
      go_wp2_with fail
      (with_reducible refine (H3.out _).mono ?_); rintro e w5 ⟨rfl, hb⟩
      have HX4 := Lib.hid (HX3.out.trans (hb.mono HX3.out.size))
      clear hb d0 d1 H3 HX3
      obtain ⟨⟨d0, d1⟩, _⟩ := HO.out w5 HX4.out
      go_wp2_with fail
      (with_reducible refine (H4.out _).mono ?_); rintro e w6 ⟨rfl, hb⟩
      have HX5 := Lib.hid (HX4.out.trans (hb.mono HX4.out.size))
      clear hb d0 d1 H4 HX4
      have HF := Lib.hid (HB1.out.trans ((HO.out w6 HX5.out).2.mono HB1.out.size))
      have hm := HM.out
      clear HX5
      go_wp2_with fail
      (with_reducible refine (HAW.out _).mono ?_); rintro e w7 ⟨rfl, hb⟩
      have HF := Lib.hid (HF.out.trans (hb.mono HF.out.size))
      clear hb
      go_wp2
      go_ret
      exact ⟨rfl, HF.out⟩
    · clear HVE
      go_wp2_with fail
      (with_reducible refine (H3.out _).mono ?_); rintro e w5 ⟨rfl, hb⟩
      have HX4 := Lib.hid (HX3.out.trans (hb.mono HX3.out.size))
      clear hb d0 d1 H3 HX3
      obtain ⟨⟨d0, d1⟩, _⟩ := HO.out w5 HX4.out
      go_wp2_with fail
      (with_reducible refine (H4.out _).mono ?_); rintro e w6 ⟨rfl, hb⟩
      have HX5 := Lib.hid (HX4.out.trans (hb.mono HX4.out.size))
      clear hb d0 d1 H4 HX4
      have HF := Lib.hid (HB1.out.trans ((HO.out w6 HX5.out).2.mono HB1.out.size))
      have hm := HM.out
      clear HX5
      go_wp2_with fail
      (with_reducible refine (HAW.out _).mono ?_); rintro e w7 ⟨rfl, hb⟩
      have HF := Lib.hid (HF.out.trans (hb.mono HF.out.size))
      clear hb
      go_wp2
      go_ret
      exact ⟨rfl, HF.out⟩
end Go.Proofs.Ytcefpkibglideaa

