/-
  Layer 8: the statements' helpers: awake, formats, parses: each answers true.
-/
import Derived.Test.YthhipejffpifkaaPcRefF
import Derived.Test.YthhipejffpifkaaPcRefP
import Derived.Deep.RegionHeld3
namespace Go.Proofs.Ythhipejffpifkaa
open Go.ChangeShapes Go.WideShapes Go.ChangeAt Go.RowKit
set_option linter.unusedVariables false

theorem aw_hd : hdOk ⟨#[97]⟩ 0 0 1 0 = true := by decide +kernel
theorem aw_sum : ck [1, 2] = 1027 := by decide
theorem awake8_any (w : World) : Calls Try.prog 12 #[] w (BoolAns true w) := by
  have H1 := fun w => format_any ⟨#[97]⟩ 0 0 1 0 w
  unfold FmAns at H1
  have hz : (fmS ⟨#[97]⟩ 0 0 1 0).size = 13 := by rw [(fm_yes aw_hd).1]; show (recL _ _ _ _ _).length = 13; unfold recL; rw [sld_len, bodL_len]; rfl
  rw [(fm_yes aw_hd).2] at H1
  generalize fmS ⟨#[97]⟩ 0 0 1 0 = X at *
  have H1 := Lib.hid H1
  have H2 := Lib.hid (fun w => checksum_any ⟨#[1, 2]⟩ (by show 2 ≤ 2000000; omega) w)
  unfold CkAns at H2
  rw [show ck (⟨#[1, 2]⟩ : ByteArray).data.toList = 1027 from aw_sum] at H2
  have hz' : (X.size : Int) = 13 := by omega
  unfold BoolAns
  go_enter Try.func12, Try.ntmps12
  go_wp2_with fail
  (with_reducible refine (H1.out _).mono ?_); rintro e w1 ⟨rfl, hb⟩
  replace hb := Lib.hid hb
  go_wp2_with fail
  (with_reducible refine (H2.out _).mono ?_); rintro e w2 ⟨rfl, rfl⟩
  go_wp2
  go_ret
  exact ⟨rfl, hb.out⟩
theorem held5 {w0 w w' : World} {b : Nat} {v0 v1 v2 v3 v4 : Value} (hb : Below w.heap.size w w')
    (h : w.cell? ⟨b, 0, none⟩ = some v0 ∧ w.cell? ⟨b, 1, none⟩ = some v1 ∧ w.cell? ⟨b, 2, none⟩ = some v2 ∧ w.cell? ⟨b, 3, none⟩ = some v3 ∧ w.cell? ⟨b, 4, none⟩ = some v4 ∧ Below w0.heap.size w0 w) :
    w'.cell? ⟨b, 0, none⟩ = some v0 ∧ w'.cell? ⟨b, 1, none⟩ = some v1 ∧ w'.cell? ⟨b, 2, none⟩ = some v2 ∧ w'.cell? ⟨b, 3, none⟩ = some v3 ∧ w'.cell? ⟨b, 4, none⟩ = some v4 ∧ Below w0.heap.size w0 w' := by
  obtain ⟨h0, h1, h2, h3, h4, h5⟩ := h
  exact ⟨cell_later h0 hb, cell_later h1 hb, cell_later h2 hb, cell_later h3 hb, cell_later h4 hb, h5.trans (hb.mono h5.size)⟩
theorem Whole.five {w w0 : World} {b : Nat} {t : TypeId} {v0 v1 v2 v3 v4 : Value} (h : Whole w b t #[v0, v1, v2, v3, v4]) (hb : Below w0.heap.size w0 w) :
    w.drew.cell? ⟨b, 0, none⟩ = some v0 ∧ w.drew.cell? ⟨b, 1, none⟩ = some v1 ∧ w.drew.cell? ⟨b, 2, none⟩ = some v2 ∧ w.drew.cell? ⟨b, 3, none⟩ = some v3 ∧ w.drew.cell? ⟨b, 4, none⟩ = some v4 ∧ Below w0.heap.size w0 w.drew :=
  ⟨h.read 0, h.read 1, h.read 2, h.read 3, h.read 4, hb.drew⟩
set_option maxHeartbeats 4000000 in
theorem formats_any (st : ByteArray) (hs : st.size ≤ 2000000) (c p l f : Int) (w : World) : Calls Try.prog 9 #[.agg #[.string st, .int .i64 c, .int .i64 p, .int .i64 l, .int .i64 f]] w (BoolAns true w) := by
  have H1 := fun w => format_any st c p l f w
  have H2 := fun w => refFormat_any st hs c p l f w
  have H3 := fun w => valid8_any st c p l f w
  have H4 := fun w => validHeader_any st c p l f hs w
  unfold FmAns at H1 H2
  unfold BoolAns at H3 H4
  generalize fmS st c p l f = X at *
  generalize fmE st c p l f = y at *
  generalize hdOk st c p l f = b at *
  have H1 := Lib.hid H1
  have H2 := Lib.hid H2
  have H3 := Lib.hid H3
  have H4 := Lib.hid H4
  have t1 : (b == b) = true := by simp
  have t2 : (X.toList == X.toList) = true := by simp
  have t3 : (y == y) = true := by simp
  have HZ := Lib.hid (Whole.fresh w 24 #[.string st, .int .i64 c, .int .i64 p, .int .i64 l, .int .i64 f])
  have HB0 := Lib.hid ((Below.refl w.heap.size w).alloc (Nat.le_refl _) (.cells #[.string st, .int .i64 c, .int .i64 p, .int .i64 l, .int .i64 f] 24))
  unfold BoolAns
  go_enter Try.func9, Try.ntmps9
  go_wp2_with fail
  (with_reducible refine (H1.out _).mono ?_); rintro e w1 ⟨rfl, hb⟩
  have hz := HZ.out.later hb
  have HB1 := Lib.hid (HB0.out.trans (hb.mono HB0.out.size))
  have d0 := hz.read 0
  have d1 := hz.read 1
  have d2 := hz.read 2
  have d3 := hz.read 3
  have d4 := hz.read 4
  simp at d0 d1 d2 d3 d4
  have HZ1 := Lib.hid hz
  clear hb hz HZ HB0 H1
  go_wp2_with fail
  (with_reducible refine (H2.out _).mono ?_); rintro e w2 ⟨rfl, hb⟩
  have hz := HZ1.out.later hb
  have HB2 := Lib.hid (HB1.out.trans (hb.mono HB1.out.size))
  clear d0 d1 d2 d3 d4
  have HZ2 := Lib.hid hz
  clear hb hz HZ1 HB1 H2
  have H0 := HZ2.out.five HB2.out
  go_wp2_with fail
  go_region_held3 (fun w' => w'.cell? ⟨w.heap.size, 0, none⟩ = some (.string st) ∧ w'.cell? ⟨w.heap.size, 1, none⟩ = some (.int .i64 c) ∧ w'.cell? ⟨w.heap.size, 2, none⟩ = some (.int .i64 p) ∧ w'.cell? ⟨w.heap.size, 3, none⟩ = some (.int .i64 l) ∧ w'.cell? ⟨w.heap.size, 4, none⟩ = some (.int .i64 f) ∧ Below w.heap.size w w')
    ((first | exact held5 (by assumption) (by assumption) | exact H0))
    (first
      | (go_at_call 20; (with_reducible refine (H3.out _).mono ?_); rintro e w' ⟨rfl, hb⟩)
      | (go_at_call 21; (with_reducible refine (H4.out _).mono ?_); rintro e w' ⟨rfl, hb⟩))
  rename_i hH
  obtain ⟨_, _, _, _, _, hB⟩ := hH
  go_wp2
  go_ret
  exact ⟨rfl, hB⟩
set_option maxHeartbeats 4000000 in
theorem parses_any (s : ByteArray) (hs : s.size ≤ 2000000) (w : World) : Calls Try.prog 14 #[.string s] w (BoolAns true w) := by
  have H1 := fun w => parse_any s (by omega) w
  have H2 := fun w => refParse_any s hs w
  have H3 := fun w => checksum_any s hs w
  have H4 := fun w => refChecksum_any s hs w
  unfold PrAns at H1 H2
  unfold CkAns at H3 H4
  generalize pS s.data.toList = X at *
  generalize pC s.data.toList = c at *
  generalize pP s.data.toList = p at *
  generalize pL s.data.toList = l at *
  generalize pF s.data.toList = f at *
  generalize prE s.data.toList = y at *
  generalize ck s.data.toList = k at *
  have H1 := Lib.hid H1
  have H2 := Lib.hid H2
  have H3 := Lib.hid H3
  have H4 := Lib.hid H4
  have t2 : (X.toList == X.toList) = true := by simp
  have t3 : (y == y) = true := by simp
  unfold BoolAns
  go_enter Try.func14, Try.ntmps14
  go_wp2_with fail
  (with_reducible refine (H1.out _).mono ?_); rintro e w1 ⟨rfl, hb⟩
  have HB1 := Lib.hid (hb.alloc hb.size (.cells #[.string X, .int .i64 c, .int .i64 p, .int .i64 l, .int .i64 f] 24))
  have HZ1 := Lib.hid (Whole.fresh w1 24 #[.string X, .int .i64 c, .int .i64 p, .int .i64 l, .int .i64 f])
  clear hb H1
  go_wp2_with fail
  (with_reducible refine (H2.out _).mono ?_); rintro e w2 ⟨rfl, hb⟩
  have hz1 := (HZ1.out.later hb).alloc (.cells #[.string X, .int .i64 c, .int .i64 p, .int .i64 l, .int .i64 f] 24)
  have HB2 := HB1.out.trans (hb.mono HB1.out.size)
  have HB3 := Lib.hid (HB2.alloc HB2.size (.cells #[.string X, .int .i64 c, .int .i64 p, .int .i64 l, .int .i64 f] 24))
  have hz2 := Whole.fresh w2 24 #[.string X, .int .i64 c, .int .i64 p, .int .i64 l, .int .i64 f]
  have d0 := hz1.read 0
  have d1 := hz1.read 1
  have d2 := hz1.read 2
  have d3 := hz1.read 3
  have d4 := hz1.read 4
  have q0 := hz2.read 0
  have q1 := hz2.read 1
  have q2 := hz2.read 2
  have q3 := hz2.read 3
  have q4 := hz2.read 4
  simp at d0 d1 d2 d3 d4 q0 q1 q2 q3 q4
  clear hb hz1 hz2 HB2 H2
  go_wp2_with fail
  (with_reducible refine (H3.out _).mono ?_); rintro e w3 ⟨rfl, rfl⟩
  go_wp2_with fail
  (with_reducible refine (H4.out _).mono ?_); rintro e w3 ⟨rfl, rfl⟩
  go_wp2
  go_ret
  exact ⟨rfl, HB3.out⟩
end Go.Proofs.Ythhipejffpifkaa

