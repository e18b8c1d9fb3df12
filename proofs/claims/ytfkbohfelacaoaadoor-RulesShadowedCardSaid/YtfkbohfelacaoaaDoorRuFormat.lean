/-
  Layer 9: the walk of RulesFormat.
-/
import Derived.Test.YtfkbohfelacaoaaDoorRuHelp
import Derived.Test.YtfkbohfelacaoaaDoorRuGen
namespace Go.Proofs.YtfkbohfelacaoaaDoor
open Go.ChangeShapes Go.WideShapes Go.ChangeAt Go.RowKit
set_option linter.unusedVariables false

theorem Elems.wide {C C' : Nat} {a : Option Addr} {len : Nat} {w : World} (h : Elems C a len w) (hC : C ≤ C') : Elems C' a len w :=
  ⟨h.1, fun i hi => by
    obtain ⟨b, off, z, e1, e2, e3⟩ := h.2 i hi
    exact ⟨b, off, z, e1, by omega, e3⟩⟩
theorem heldR {w0 w w' : World} {b : Nat} {v0 v1 v2 v3 v4 : Value} (hb : Below w.heap.size w w')
    (h : w.cell? ⟨b, 0, none⟩ = some v0 ∧ w.cell? ⟨b, 1, none⟩ = some v1 ∧ w.cell? ⟨b, 2, none⟩ = some v2 ∧ w.cell? ⟨b, 3, none⟩ = some v3 ∧ w.cell? ⟨b, 4, none⟩ = some v4 ∧ Below w0.heap.size w0 w) :
    w'.cell? ⟨b, 0, none⟩ = some v0 ∧ w'.cell? ⟨b, 1, none⟩ = some v1 ∧ w'.cell? ⟨b, 2, none⟩ = some v2 ∧ w'.cell? ⟨b, 3, none⟩ = some v3 ∧ w'.cell? ⟨b, 4, none⟩ = some v4 ∧ Below w0.heap.size w0 w' := by
  obtain ⟨h0, h1, h2, h3, h4, h5⟩ := h
  exact ⟨cell_later h0 hb, cell_later h1 hb, cell_later h2 hb, cell_later h3 hb, cell_later h4 hb, h5.trans (hb.mono h5.size)⟩
theorem heldWS {w0 w : World} {p0 p1 p2 p3 p4 : Prop} (hW : WS w0) (h : p0 ∧ p1 ∧ p2 ∧ p3 ∧ p4 ∧ Below w0.heap.size w0 w) : WS w := hW.below h.2.2.2.2.2
theorem Whole.fiveR {w w0 : World} {b : Nat} {t : TypeId} {v0 v1 v2 v3 v4 : Value} (h : Whole w b t #[v0, v1, v2, v3, v4]) (hb : Below w0.heap.size w0 w) :
    w.drew.cell? ⟨b, 0, none⟩ = some v0 ∧ w.drew.cell? ⟨b, 1, none⟩ = some v1 ∧ w.drew.cell? ⟨b, 2, none⟩ = some v2 ∧ w.drew.cell? ⟨b, 3, none⟩ = some v3 ∧ w.drew.cell? ⟨b, 4, none⟩ = some v4 ∧ Below w0.heap.size w0 w.drew :=
  ⟨h.read 0, h.read 1, h.read 2, h.read 3, h.read 4, hb.drew⟩
theorem txt_len {r : Rul} (h : ruOk r = true) : (⟨(txtL r).toArray⟩ : ByteArray).size ≤ 60 := by
  obtain ⟨hst, ⟨c0, c1⟩, ⟨f0, f1, f2⟩, ⟨n0, n1⟩⟩ := ruOk_parts h
  obtain ⟨st, c, f, l, n⟩ := r
  simp only at hst c0 c1 f0 f1 f2 n0 n1
  obtain ⟨a, rfl⟩ := Int.eq_ofNat_of_zero_le f0
  obtain ⟨b, rfl⟩ := Int.eq_ofNat_of_zero_le (show 0 ≤ l by omega)
  obtain ⟨d, rfl⟩ := Int.eq_ofNat_of_zero_le n0
  rw [← txt_str]
  have hs24 : st.size ≤ 24 := hst.elim (fun h => by omega) nam_small
  have s1 : (stS st).size ≤ 24 := by unfold stS; split; decide; exact hs24
  have s2 : (clS c).size ≤ 5 := by
    unfold clS; split
    · decide
    · exact decS_size _ 5 (by decide) (by omega)
  have s3 : (poS a b).size ≤ 11 := by rw [Lib.size_eq]; exact pairL_len (by omega) (by omega)
  have s4 := decS_size d 5 (by decide) (by omega)
  simp only [ByteArray.size_append]
  have e1 : (⟨#[32]⟩ : ByteArray).size = 1 := rfl
  have e2 : (⟨#[32, 62]⟩ : ByteArray).size = 2 := rfl
  omega
theorem fo_good {r : Rul} (h : ruOk r = true) : foS r = ⟨(txtL r).toArray⟩ ∧ foE r = 0 := by unfold foS foE; rw [h]; exact ⟨rfl, rfl⟩
theorem pa_txt {r : Rul} (h : ruOk r = true) : pRu (⟨(txtL r).toArray⟩ : ByteArray).data.toList = r ∧ ruE (⟨(txtL r).toArray⟩ : ByteArray).data.toList = 0 := pa_good (syn_txt h) h
set_option maxRecDepth 100000 in
set_option maxHeartbeats 8000000 in
theorem walkFormat9 (A : Option Addr) (len cap : Nat) (st : ByteArray) (c f l n : Int) (w : World) (he : Elems w.heap.size A len w) (hw : WS w) :
    Calls Tryd.prog 4 #[.slice A len cap, .agg #[.string st, .int .i64 c, .int .i64 f, .int .i64 l, .int .i64 n]] w (BoolAns true w) := by
  have HA := Lib.hid (fun w hw => awake9_any w hw)
  have HF1 := Lib.hid (fun st c f l n w hw => format_any st c f l n w hw)
  have HF2 := Lib.hid (fun st c f l n hs w => refFormat_any st c f l n hs w)
  have HP := Lib.hid (fun s hs w hw => parse_any s hs w hw)
  have HV := Lib.hid (fun st c f l n w => rval_any st c f l n w)
  have HVR := Lib.hid (fun st c f l n hs w => rvalR_any st c f l n hs w)
  unfold BoolAns at HA HV HVR
  unfold FoAns at HF1 HF2
  unfold PaAns at HP
  unfold BoolAns
  have HZ := Lib.hid (Whole.fresh w 29 #[.string st, .int .i64 c, .int .i64 f, .int .i64 l, .int .i64 n])
  have he1 : Elems (w.alloc (.cells #[.string st, .int .i64 c, .int .i64 f, .int .i64 l, .int .i64 n] 29)).heap.size A len (w.alloc (.cells #[.string st, .int .i64 c, .int .i64 f, .int .i64 l, .int .i64 n] 29)) :=
    (he.kept ((Below.refl w.heap.size w).alloc (Nat.le_refl _) _)).wide (by simp)
  have hb0 := Lib.hid ((Below.refl w.heap.size w).alloc (Nat.le_refl _) (.cells #[.string st, .int .i64 c, .int .i64 f, .int .i64 l, .int .i64 n] 29))
  have hz0 : (w.alloc (.cells #[.string st, .int .i64 c, .int .i64 f, .int .i64 l, .int .i64 n] 29)).heap.size = w.heap.size + 1 := by simp
  have hW := Lib.hid hw
  clear hw
  go_enter Tryd.func4, Tryd.ntmps4
  go_wp2_with fail
  generalize (w.alloc (.cells #[.string st, .int .i64 c, .int .i64 f, .int .i64 l, .int .i64 n] 29)) = w1 at *
  have hg := Lib.hid (Has.new (cap := cap) he1)
  have hS := Lib.hid hz0
  clear he he1 hz0
  (with_reducible refine (new_any A len cap _).mono ?_); rintro e w' ⟨rfl, rfl⟩
  go_wp2_with fail
  (with_reducible refine (has_rule w1.heap.size A len cap 0 w1 _ hg.out (by omega)).mono ?_)
  rintro e w2 ⟨s2, c2, f2, l2, n2, hh, rfl, ⟨k2, hk2, h2⟩, ho2⟩
  have hb2 : Below w.heap.size w w2 := hb0.out.trans (h2.2.mono hb0.out.size)
  have hz2 : Whole w2 w.heap.size 29 #[.string st, .int .i64 c, .int .i64 f, .int .i64 l, .int .i64 n] := HZ.out.later h2.2
  have hok := hh.ok
  have hs2 := hh.size
  obtain ⟨q1, q2⟩ := fo_good hok
  obtain ⟨q3, q4⟩ := pa_txt hok
  have q5 := txt_len hok
  have HB2 := Lib.hid (hb2.alloc hb2.size (.cells #[.string s2, .int .i64 c2, .int .i64 f2, .int .i64 l2, .int .i64 n2] 29))
  have HZ2 := Lib.hid (hz2.alloc (.cells #[.string s2, .int .i64 c2, .int .i64 f2, .int .i64 l2, .int .i64 n2] 29))
  have HR2 := Lib.hid (Whole.fresh w2 29 #[.string s2, .int .i64 c2, .int .i64 f2, .int .i64 l2, .int .i64 n2])
  have H1 := Lib.hid (fun w hw => HF1.out s2 c2 f2 l2 n2 w hw)
  have H2 := Lib.hid (fun w => HF2.out s2 c2 f2 l2 n2 (by omega) w)
  rw [q1, q2] at H1 H2
  generalize (⟨(txtL ⟨s2, c2, f2, l2, n2⟩).toArray⟩ : ByteArray) = X at *
  have H3 := Lib.hid (fun w hw => HP.out X (by omega) w hw)
  rw [q3, q4] at H3
  simp only at H3
  have H4 := Lib.hid (fun w => HV.out s2 c2 f2 l2 n2 w)
  rw [hok] at H4
  have t2 : (X.toList == X.toList) = true := by simp
  have t4 : (s2.toList == s2.toList) = true := by simp
  clear hb2 hz2 h2 ho2 hh hok q1 q2 q3 q4 q5 HP hg hb0 HZ
  go_wp2_with fail
  (with_reducible refine (H1.out _ (hW.out.below HB2.out)).mono ?_); rintro e w3 ⟨rfl, hb⟩
  have HB3 := Lib.hid (HB2.out.trans (hb.mono HB2.out.size))
  have HZ3 := Lib.hid (HZ2.out.later hb)
  have HR3 := Lib.hid (HR2.out.later hb)
  clear hb HB2 HZ2 HR2 H1
  go_wp2_with fail
  (with_reducible refine (H3.out _ (hW.out.below HB3.out)).mono ?_); rintro e w4 ⟨rfl, hb⟩
  have hb4 := HB3.out.trans (hb.mono HB3.out.size)
  have HB4 := Lib.hid (hb4.alloc hb4.size (.cells #[.string s2, .int .i64 c2, .int .i64 f2, .int .i64 l2, .int .i64 n2] 29))
  have HZ4 := Lib.hid ((HZ3.out.later hb).alloc (.cells #[.string s2, .int .i64 c2, .int .i64 f2, .int .i64 l2, .int .i64 n2] 29))
  have hr4 := HR3.out.later hb
  have HR4 := Lib.hid (hr4.alloc (.cells #[.string s2, .int .i64 c2, .int .i64 f2, .int .i64 l2, .int .i64 n2] 29))
  have HX4 := Lib.hid (Whole.fresh w4 29 #[.string s2, .int .i64 c2, .int .i64 f2, .int .i64 l2, .int .i64 n2])
  obtain ⟨d0, d1, d2, d3, d4⟩ : w4.cell? ⟨w2.heap.size, 0, none⟩ = some (.string s2) ∧ w4.cell? ⟨w2.heap.size, 1, none⟩ = some (.int .i64 c2) ∧ w4.cell? ⟨w2.heap.size, 2, none⟩ = some (.int .i64 f2) ∧ w4.cell? ⟨w2.heap.size, 3, none⟩ = some (.int .i64 l2) ∧ w4.cell? ⟨w2.heap.size, 4, none⟩ = some (.int .i64 n2) := ⟨hr4.read 0, hr4.read 1, hr4.read 2, hr4.read 3, hr4.read 4⟩
  have hlt := hr4.size_lt
  clear hb hb4 hr4 HB3 HZ3 HR3 H3
  go_wp2_with fail
  (with_reducible refine (H2.out _).mono ?_); rintro e w5 ⟨rfl, hb⟩
  have HB5 := Lib.hid (HB4.out.trans (hb.mono HB4.out.size))
  have HZ5 := Lib.hid (HZ4.out.later hb)
  have hr5 := HR4.out.later hb
  have hx5 := HX4.out.later hb
  clear d0 d1 d2 d3 d4 hlt
  obtain ⟨d0, d1, d2, d3, d4⟩ : w5.cell? ⟨w2.heap.size, 0, none⟩ = some (.string s2) ∧ w5.cell? ⟨w2.heap.size, 1, none⟩ = some (.int .i64 c2) ∧ w5.cell? ⟨w2.heap.size, 2, none⟩ = some (.int .i64 f2) ∧ w5.cell? ⟨w2.heap.size, 3, none⟩ = some (.int .i64 l2) ∧ w5.cell? ⟨w2.heap.size, 4, none⟩ = some (.int .i64 n2) := ⟨hr5.read 0, hr5.read 1, hr5.read 2, hr5.read 3, hr5.read 4⟩
  obtain ⟨x0, x1, x2, x3, x4⟩ : w5.cell? ⟨w4.heap.size, 0, none⟩ = some (.string s2) ∧ w5.cell? ⟨w4.heap.size, 1, none⟩ = some (.int .i64 c2) ∧ w5.cell? ⟨w4.heap.size, 2, none⟩ = some (.int .i64 f2) ∧ w5.cell? ⟨w4.heap.size, 3, none⟩ = some (.int .i64 l2) ∧ w5.cell? ⟨w4.heap.size, 4, none⟩ = some (.int .i64 n2) := ⟨hx5.read 0, hx5.read 1, hx5.read 2, hx5.read 3, hx5.read 4⟩
  clear hb hr5 hx5 HB4 HZ4 HR4 HX4 H2
  go_wp2_with fail
  (with_reducible refine (H4.out _).mono ?_); rintro e w6 ⟨rfl, hb⟩
  have HB6 := Lib.hid (HB5.out.trans (hb.mono HB5.out.size))
  have hz6 := HZ5.out.later hb
  clear d0 d1 d2 d3 d4 x0 x1 x2 x3 x4 H4
  obtain ⟨d0, d1, d2, d3, d4⟩ : w6.cell? ⟨w.heap.size, 0, none⟩ = some (.string st) ∧ w6.cell? ⟨w.heap.size, 1, none⟩ = some (.int .i64 c) ∧ w6.cell? ⟨w.heap.size, 2, none⟩ = some (.int .i64 f) ∧ w6.cell? ⟨w.heap.size, 3, none⟩ = some (.int .i64 l) ∧ w6.cell? ⟨w.heap.size, 4, none⟩ = some (.int .i64 n) := ⟨hz6.read 0, hz6.read 1, hz6.read 2, hz6.read 3, hz6.read 4⟩
  have HZ6 := Lib.hid hz6
  clear hb hz6 HB5 HZ5
  by_cases hbig : 100 < st.size
  · have hbig' : (100 : Int) < st.size := by omega
    clear hbig
    go_wp2_with fail
    (with_reducible refine (HA.out _ (hW.out.below HB6.out)).mono ?_); rintro e w7 ⟨rfl, hb⟩
    have HB7 := Lib.hid (HB6.out.trans (hb.mono HB6.out.size))
    clear hb
    go_wp2
    go_ret
    exact ⟨rfl, HB7.out⟩
  · have hbig' : (st.size : Int) ≤ 100 := by omega
    have H1 := Lib.hid (fun w hw => HF1.out st c f l n w hw)
    have H2 := Lib.hid (fun w => HF2.out st c f l n (by omega) w)
    have H4 := Lib.hid (fun w => HV.out st c f l n w)
    have H5 := Lib.hid (fun w => HVR.out st c f l n (by omega) w)
    generalize foS ⟨st, c, f, l, n⟩ = Y at *
    generalize foE ⟨st, c, f, l, n⟩ = y at *
    generalize ruOk ⟨st, c, f, l, n⟩ = ok at *
    have t5 : (Y.toList == Y.toList) = true := by simp
    have t6 : (y == y) = true := by simp
    have t7 : (ok == ok) = true := by simp
    clear hbig HF1 HF2 HV HVR t2 t4
    go_wp2_with fail
    (with_reducible refine (H1.out _ (hW.out.below HB6.out)).mono ?_); rintro e w7 ⟨rfl, hb⟩
    have HB7 := Lib.hid (HB6.out.trans (hb.mono HB6.out.size))
    have hz7 := HZ6.out.later hb
    clear d0 d1 d2 d3 d4
    obtain ⟨d0, d1, d2, d3, d4⟩ : w7.cell? ⟨w.heap.size, 0, none⟩ = some (.string st) ∧ w7.cell? ⟨w.heap.size, 1, none⟩ = some (.int .i64 c) ∧ w7.cell? ⟨w.heap.size, 2, none⟩ = some (.int .i64 f) ∧ w7.cell? ⟨w.heap.size, 3, none⟩ = some (.int .i64 l) ∧ w7.cell? ⟨w.heap.size, 4, none⟩ = some (.int .i64 n) := ⟨hz7.read 0, hz7.read 1, hz7.read 2, hz7.read 3, hz7.read 4⟩
    have HZ7 := Lib.hid hz7
    clear hb hz7 HB6 HZ6 H1
    go_wp2_with fail
    (with_reducible refine (H2.out _).mono ?_); rintro e w8 ⟨rfl, hb⟩
    have HB8 := Lib.hid (HB7.out.trans (hb.mono HB7.out.size))
    have HZ8 := Lib.hid (HZ7.out.later hb)
    clear hb HB7 HZ7 H2 d0 d1 d2 d3 d4
    have H0 := HZ8.out.fiveR HB8.out
    go_wp2_with fail
    go_region_held3 (fun w' => w'.cell? ⟨w.heap.size, 0, none⟩ = some (.string st) ∧ w'.cell? ⟨w.heap.size, 1, none⟩ = some (.int .i64 c) ∧ w'.cell? ⟨w.heap.size, 2, none⟩ = some (.int .i64 f) ∧ w'.cell? ⟨w.heap.size, 3, none⟩ = some (.int .i64 l) ∧ w'.cell? ⟨w.heap.size, 4, none⟩ = some (.int .i64 n) ∧ Below w.heap.size w w')
      ((first | exact heldR (by assumption) (by assumption) | exact H0))
      (first
        | (go_at_call 17; (with_reducible refine (H4.out _).mono ?_); rintro e w' ⟨rfl, hb⟩)
        | (go_at_call 18; (with_reducible refine (H5.out _).mono ?_); rintro e w' ⟨rfl, hb⟩)
        | (go_at_call 14; (with_reducible refine (HA.out _ (heldWS hW.out (by assumption))).mono ?_); rintro e w' ⟨rfl, hb⟩))
    rename_i hH
    obtain ⟨_, _, _, _, _, hB⟩ := hH
    go_wp2
    go_ret
    exact ⟨rfl, hB⟩
end Go.Proofs.YtfkbohfelacaoaaDoor

