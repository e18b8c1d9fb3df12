/-
  Layer 20: the generator's Rate and Length as objects' calls; the law's lengths.
-/
import Derived.Test.YtcnpmbgeafkmlaaAgGen
import Derived.Test.YtcnpmbgeafkmlaaAiGen
import Derived.Test.YtcnpmbgeafkmlaaRowS
import Derived.LoopTactic
namespace Go.Proofs.Ytcnpmbgeafkmlaa
open Go.ChangeShapes Go.WideShapes Go.ChangeAt Go.RowKit
set_option linter.unusedVariables false

section
variable {base B : Nat} {a : Option Addr} {len cap q : Nat}
theorem GenP.length (hq : q ≤ 1000000000) : Acts 18 #[.pointer (some ⟨B, 0, none⟩)] base (GenP base B a len cap q) (fun x : { x : Int // 1 ≤ x ∧ x ≤ 4096 } => .int .i64 x.1) fun x => GenP base B a len cap (q + 1) := by
  intro T w ⟨h1, h2, h3, h4⟩ hb hs
  refine (length_any B a len cap q w h2 hq).mono ?_
  rintro e w' ⟨x, x0, x1, e1, hg, ho⟩
  have hbl : Below base w w' := ho.below (by have := h2.lt; omega) |>.mono h4
  exact ⟨⟨x, x0, x1⟩, e1, ⟨T, ⟨h1, hg, h3.kept hbl, h4⟩, fun k hk => .inl hk⟩, Chg.of_only ho ((h1 B).2 rfl)⟩
theorem GenP.grate (hq : q ≤ 1000000000) : Acts 14 #[.pointer (some ⟨B, 0, none⟩)] base (GenP base B a len cap q) (fun x : { x : Rt // aiV x.1 x.2 = true } => .agg #[.int .i64 x.1.1, .int .i64 x.1.2]) fun x => GenP base B a len cap (q + 1) := by
  intro T w ⟨h1, h2, h3, h4⟩ hb hs
  refine (grate_any B a len cap q w w ⟨h2, Below.refl _ _⟩ hq).mono ?_
  rintro e w' ⟨r, hr, e1, ⟨hg, _⟩, ho⟩
  have hbl : Below base w w' := ho.below (by have := h2.lt; omega) |>.mono h4
  exact ⟨⟨r, rtL_ok hr⟩, e1, ⟨T, ⟨h1, hg, h3.kept hbl, h4⟩, fun k hk => .inl hk⟩, Chg.of_only ho ((h1 B).2 rfl)⟩
/-- What the law's lengths end with. -/
theorem llen_end {T : Nat → Prop} {w w1 : World} {A : Option Addr} {c q2 : Nat} {L : List Int} {b0 : Nat} (h : At T w (Star (RowP csI 1 3 b0 (.slice A L.length c) L) (GenP base B a len cap q2)) w1) :
    (∃ T', Star (LsP csI 1 3 (.slice A L.length c) L) (GenP base B a len cap q2) T' w1 ∧ ∀ j, T' j → T j ∨ w.heap.size ≤ j) ∧ Chg T w w1 := by
  obtain ⟨T1, ⟨A1, B1, hT, hd, hp, hq⟩, h2, h3⟩ := h
  exact ⟨⟨T1, ⟨A1, B1, hT, hd, ⟨fun k hk => (own_lt hp.2 ((hp.1 k).1 hk)).2, (intElt.row_ls1 hp.2 rfl).wider fun k hk => (hp.1 k).2 hk⟩, hq⟩, h2⟩, h3⟩
set_option maxRecDepth 100000 in
set_option maxHeartbeats 8000000 in
theorem llen_any {n : Nat} (hn : n ≤ 1000) (hq : q ≤ 10000000) : Acts 10 #[.pointer (some ⟨B, 0, none⟩), .int .i64 n] base (GenP base B a len cap q) (fun x : { x : Value × List Int × Nat // x.2.1.length ≤ n ∧ x.2.2 ≤ q + n + 9 } => x.1.1) fun x => Star (LsP csI 1 3 x.1.1 x.1.2.1) (GenP base B a len cap x.1.2.2) := by
  intro T w hP hb hs
  have HX := Lib.hid ((At.start hP).call hb hs (GenP.next (n := (n : Int) + 1) (by omega) (by omega) (by omega)))
  have HBB := Lib.hid hb
  have HEND := Lib.hid (fun (w1 : World) (A : Option Addr) (c q2 : Nat) (L : List Int) (h1 : L.length ≤ n) (h2 : q2 ≤ q + n + 9) (h : At T w (Star (RowP csI 1 3 w.heap.size (.slice A L.length c) L) (GenP base B a len cap q2)) w1) =>
    (⟨⟨(.slice A L.length c, L, q2), h1, h2⟩, rfl, llen_end h⟩ : ∃ x : { x : Value × List Int × Nat // x.2.1.length ≤ n ∧ x.2.2 ≤ q + n + 9 }, Ending.returned (.slice A L.length c) = .returned x.1.1 ∧ (∃ T', Star (LsP csI 1 3 x.1.1 x.1.2.1) (GenP base B a len cap x.1.2.2) T' w1 ∧ ∀ j, T' j → T j ∨ w.heap.size ≤ j) ∧ Chg T w w1))
  have hwr : IntKind.i64.wrap ((n : Int) + 1) = n + 1 := IntWalk.i64_in _ (by omega)
  clear hP hb
  go_enter Try.func10, Try.ntmps10
  go_wp2_with fail
  (with_reducible refine HX.out.mono ?_); rintro e w2 ⟨⟨r, r0, r1⟩, rfl, h1⟩
  obtain ⟨k0, rfl⟩ := Int.eq_ofNat_of_zero_le r0
  have hk5 : k0 ≤ n := by omega
  have HI0 := Lib.hid (At.row0 (cs := csI) (m := 1) (t := 3) h1 w.heap.size)
  clear HX h1 hwr
  go_wp2_with fail
  go_loopw [5, 6] (fun s5 s6 wr => ∃ (k q2 : Nat) (L : List Int) (A : Option Addr) (c : Nat), L.length + k ≤ n ∧ s6 = .int .i64 k ∧ s5 = .slice A L.length c ∧ q2 ≤ q + 1 + L.length ∧ Hid (At T w (Star (RowP csI 1 3 w.heap.size (.slice A L.length c) L) (GenP base B a len cap q2)) wr)) (fun _ s6 _ => (intOf s6).toNat)
  case atStart => exact ⟨k0, q + 1, [], none, 0, by simp; omega, rfl, rfl, by simp, HI0⟩
  case round =>
    obtain ⟨k, q2, L, A, c, hk, rfl, rfl, hq2, HI⟩ := hrel
    clear HI0
    by_cases hk0 : 0 < k
    · have hk0' : (0 : Int) < k := by omega
      have HX := Lib.hid (HI.out.call HBB.out hs (Acts.right RowP.frm (GenP.length (by omega))))
      clear HI HEND
      go_wp2_with fail
      (with_reducible refine HX.out.mono ?_); rintro e w3 ⟨⟨x, x0, x1⟩, rfl, h1⟩
      obtain ⟨A8, c8, w4, hrun, h4⟩ := At.appB intElt h1 GenP.frm hs (by omega) x
      unfold csI at hrun
      have hll : (L ++ [x]).length = L.length + 1 := by simp
      have HI2 := Lib.hid h4
      have HVE := Lib.hid (show Value.slice A8 (L.length + 1) c8 = .slice A8 (L ++ [x]).length c8 by rw [hll])
      rw [← hll] at HI2
      clear HX h1 h4
      obtain ⟨kk, rfl⟩ : ∃ kk, k = kk + 1 := ⟨k - 1, by omega⟩
      go_wp2_with (at_builtin; refine wpList_append_run rfl (.tmp 15) (.tmp 18) 22 rfl rfl rfl hrun ?_)
      go_roundw
      case rel => exact ⟨kk, q2 + 1, L ++ [x], A8, c8, by rw [hll]; omega, by go_num, HVE.out, by rw [hll]; omega, HI2⟩
      case measure => simp [intOf]
    · obtain rfl : k = 0 := by omega
      obtain ⟨nl, hnl⟩ : ∃ nl, L.length = nl := ⟨_, rfl⟩
      have HNL := Lib.hid hnl
      by_cases h0 : nl = 0
      · subst h0
        have HF := Lib.hid (HEND.out wr A c q2 L (by omega) (by omega) HI.out)
        rw [hnl] at HF ⊢
        clear HI HEND hnl
        go_wp2
        go_ret
        exact HF.out
      · have h0' : (0 : Int) < nl := by omega
        have HX := Lib.hid (HI.out.call HBB.out hs (Acts.right RowP.frm (GenP.next (n := 8) (by omega) (by omega) (by omega))))
        rw [hnl] at HX hk hq2 ⊢
        clear HI hnl
        go_wp2_with fail
        (with_reducible refine HX.out.mono ?_); rintro e w3 ⟨⟨r, r0, r1⟩, rfl, h1⟩
        by_cases hr0 : r = 0
        · subst hr0
          have HX2 := Lib.hid (h1.call HBB.out hs (Acts.right RowP.frm (GenP.next (n := (nl : Int)) (by omega) (by omega) (by omega))))
          clear HX h1
          go_wp2_with fail
          (with_reducible refine HX2.out.mono ?_); rintro e w4 ⟨⟨i, i0, i1⟩, rfl, h1⟩
          obtain ⟨j, rfl⟩ := Int.eq_ofNat_of_zero_le i0
          have hj : j < nl := by omega
          have h2 := At.box h1 (RowP.frm.star GenP.frm) 3 #[.int .i64 0, .int .i64 (-1), .int .i64 4097]
          have HX3 := Lib.hid (h2.call HBB.out hs (Acts.right BoxP.frm (Acts.right RowP.frm (GenP.next (n := 3) (by omega) (by omega) (by omega)))))
          clear HX2 h1 h2
          go_wp2_with fail
          (with_reducible refine HX3.out.mono ?_); rintro e w5 ⟨⟨m_, m0, m1⟩, rfl, h1⟩
          obtain ⟨m, rfl⟩ := Int.eq_ofNat_of_zero_le m0
          have hm : m ≤ 2 := by omega
          have hbx := At.boxed h1
          have hc := lit_at (L := [0, -1, 4097]) hbx (m := m) (by simp; omega)
          generalize ([0, -1, 4097] : List Int)[m]'(by simp; omega) = z at *
          obtain ⟨g, cg, hsl, gc, gf, _, _, h3⟩ := At.set h1.drop GenP.frm hs (i := j) (by have := HNL.out; omega) z
          obtain ⟨rfl, rfl⟩ : A = some ⟨g, 0, none⟩ ∧ c = cg := by
            rw [HNL.out] at hsl; simpa using hsl
          have HF := Lib.hid (HEND.out _ (some ⟨g, 0, none⟩) c (q2 + 1 + 1 + 1) (L.set j z) (by rw [List.length_set]; have := HNL.out; omega) (by omega) (by rw [List.length_set, HNL.out]; exact h3))
          rw [List.length_set, HNL.out] at HF
          generalize L[j]'_ = old at *
          clear HX3 h1 h3 hbx hsl HEND
          go_wp2
          go_ret
          exact HF.out
        · have hrz : (r == 0) = false := by simpa using hr0
          have HF := Lib.hid (HEND.out w3 A c (q2 + 1) L (by have := HNL.out; omega) (by omega) (by rw [HNL.out]; exact h1))
          rw [HNL.out] at HF
          clear HX h1 HEND
          go_wp2
          go_ret
          exact HF.out
end
end Go.Proofs.Ytcnpmbgeafkmlaa

