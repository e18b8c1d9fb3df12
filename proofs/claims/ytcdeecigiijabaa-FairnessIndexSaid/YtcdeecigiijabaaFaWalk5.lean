/-
  Layer 14: the walk of the statement on the index (FairnessIndex). Every input; no condition. Written by gen_faidx.py.
-/
import Derived.Test.YtcdeecigiijabaaFaJn
import Derived.Laws.StructEq
import Derived.Deep.QuietTactic
import Derived.BigQuiet
namespace Go.Proofs.Ytcdeecigiijabaa
open Go.ChangeShapes Go.WideShapes Go.ChangeAt Go.RowKit
set_option linter.unusedVariables false

theorem w_le {A B : Int} (h0 : 0 ≤ A) (h : A ≤ B) : wLess (wdH B) (wdL B) (wdH A) (wdL A) = false := by unfold wLess wdH wdL; exact decide_eq_false (by omega)
theorem w_eq {A B : Int} (h1 : wdH A = wdH B) (h2 : wdL A = wdL B) : A = B := by unfold wdH wdL at *; omega
/-- The first i samples' numbers are the first one's. -/
def alB (M : List Sp) (i : Nat) : Bool := (M.take i).all fun s => xI s == xI (M.getD 0 ⟨0, 0, 0⟩)
theorem al_next {M : List Sp} {i : Nat} (hi : i < M.length) : alB M (i + 1) = (alB M i && (xI M[i] == xI (M[0]'(by omega)))) := by
  unfold alB
  rw [List.take_add_one, List.getElem?_eq_getElem hi, List.all_append, List.getD_eq_getElem?_getD, List.getElem?_eq_getElem (show 0 < M.length by omega)]
  simp
theorem al_end {M : List Sp} (h : 0 < M.length) : alB M M.length = true ↔ smK M M.length * smK M M.length = (M.length : Int) * sqK M M.length := by
  obtain ⟨a, R, rfl⟩ : ∃ a R, M = a :: R := by
    match M, h with
    | a :: R, _ => exact ⟨a, R, rfl⟩
  have e := jn_one (a := xI a) (L := R.map xI)
  unfold alB smK sqK
  rw [List.take_length]
  rw [show (a :: R).map xI = xI a :: R.map xI from rfl]
  have e2 : ((xI a :: R.map xI).length : Int) = ((a :: R).length : Nat) := by simp
  rw [e2] at e
  rw [e, List.all_eq_true]
  constructor
  · intro h2 y hy
    have hy2 : y ∈ (a :: R).map xI := hy
    obtain ⟨s, hs, rfl⟩ := List.mem_map.1 hy2
    simpa using h2 s hs
  · intro h2 s hs
    have := h2 (xI s) (by have : xI s ∈ (a :: R).map xI := List.mem_map.2 ⟨s, hs, rfl⟩; exact this)
    simpa using this
theorem ja_le {M : List Sp} : smK M M.length * smK M M.length ≤ (M.length : Int) * sqK M M.length := by
  have h := jn_le (M.map xI)
  unfold smK sqK
  rw [List.take_length]
  rw [List.length_map] at h
  exact h
/-- What the statement compares. -/
theorem idx_cases {M : List Sp} (h : 0 < M.length) (A B : Int) (hA : smK M M.length * smK M M.length = A) (hB : (M.length : Int) * sqK M M.length = B) (b : Bool) (hb : alB M M.length = b) :
    wLess (wdH B) (wdL B) (wdH A) (wdL A) = false ∧ ((b = true ∧ wdH A = wdH B ∧ wdL A = wdL B) ∨ (b = false ∧ (wdH A == wdH B) = false) ∨ (b = false ∧ wdH A = wdH B ∧ (wdL A == wdL B) = false)) := by
  have hle := ja_le (M := M)
  have he := al_end h
  rw [hA, hB] at hle he
  rw [hb] at he
  have h0 : 0 ≤ A := by rw [← hA]; exact sq_nonneg _
  refine ⟨w_le h0 hle, ?_⟩
  cases b with
  | true => exact .inl ⟨rfl, by rw [he.1 rfl], by rw [he.1 rfl]⟩
  | false =>
    have hne : ¬ A = B := fun e => by have := he.2 e; cases this
    by_cases h1 : wdH A = wdH B
    · exact .inr (.inr ⟨rfl, h1, by simp; exact fun h2 => hne (w_eq h1 h2)⟩)
    · exact .inr (.inl ⟨rfl, by simpa using h1⟩)
set_option maxRecDepth 100000 in
set_option maxHeartbeats 16000000 in
theorem walkIndex (A : Option Addr) (len cap : Nat) (w : World) (he : Elems w.heap.size A len w) :
    Calls Try.prog 6 #[.slice A len cap] w (Calm (.bool true) w) := by
  have HG := Has.new (cap := cap) he
  have HAW := Lib.hid (fun w => awake14_any w)
  have HSL := Lib.hid (by have h9 := smplist_any w.heap.size A len cap 0 5 w _ HG (by omega) (by omega); rw [show ((5 : Nat) : Int) = 5 from rfl] at h9; exact h9 : Calls Try.prog 13 #[.pointer (some ⟨w.heap.size, 0, none⟩), .int .i64 5] (w.alloc (.cells #[.slice A len cap, .int .i64 0] 46)) (GaveL w.heap.size A len cap 0 5 w (w.alloc (.cells #[.slice A len cap, .int .i64 0] 46))))
  clear he HG
  unfold Calm
  go_enter Try.func6, Try.ntmps6
  go_wp2_with fail
  (with_reducible refine (new_any A len cap _).mono ?_); rintro e w' ⟨rfl, rfl⟩
  go_wp2_with fail
  (with_reducible refine HSL.out.mono ?_)
  rintro e w1 ⟨L, A', c', q, hL, rfl, hrow, hq, hg1, ho1⟩
  have HR2 := Lib.hid (hrow.alloc (.cells #[.int .i64 1, .int .i64 1024, .int .i64 0] 24))
  have HCL := Lib.hid (newCells w1 (csP ⟨1, 1024, 0⟩) 24)
  have HB2 := Lib.hid (hg1.2.alloc hg1.2.size (.cells #[.int .i64 1, .int .i64 1024, .int .i64 0] 24))
  have hws : (w.alloc (.cells #[.slice A len cap, .int .i64 0] 46)).heap.size ≤ w1.heap.size := ho1.size
  have HWS := Lib.hid hws
  clear hrow hg1 ho1 HSL hws hq
  go_wp2_with (at_builtin; go_loud (refine wpList_append_one rfl (.tmp 13) (.tmp 15) 31 rfl Try.underlying31 info_sp rfl (by decide) HR2.out rfl ⟨w1.heap.size, 0, none⟩ rfl (csP_len ⟨1, 1024, 0⟩) HCL.out (csP_one _) (by omega) (by decide) (by have := HWS.out; simp; simp at this; omega) ?_); intro v2 w5 he2 hg2 hb2; obtain ⟨A2, c2, rfl⟩ := ow_shape he2; have HE2 := Lib.hid he2; have HGR := Lib.hid hg2; clear he2 hg2 hb2)
  have hbn : Below w.heap.size (w1.alloc (.cells #[.int .i64 1, .int .i64 1024, .int .i64 0] 24)) w5 := below_grew (Below.refl _ _) (by have := HB2.out.size; exact this) HGR.out (fun k e => by have := (World.ownsRow.lt HR2.out k e).1; simp at this; omega)
  have hb5 := HB2.out.trans hbn
  obtain ⟨M, hM⟩ : ∃ M, L ++ [(⟨1, 1024, 0⟩ : Sp)] = M := ⟨_, rfl⟩
  have hML : L.length + 1 = M.length := by rw [← hM]; simp
  have hrow := HE2.out
  rw [← srs_snoc, hM] at hrow
  obtain ⟨N, hN⟩ : ∃ N, L.length + 1 = N := ⟨_, rfl⟩
  rw [hN] at hrow ⊢
  have hMN : M.length = N := by omega
  have hN1 : 0 < M.length := by omega
  have hN100 : M.length ≤ 100000 := by omega
  have ha : SrAt csP 3 w5 (w.alloc (.cells #[.slice A len cap, .int .i64 0] 46)).heap.size w5.heap.size A2 M := SrAt.own csP_len hrow hMN.symm
  have HJ := pjain_any A2 c2 M _ _ w5 (Nat.le_refl _) hN100 ha
  rw [hMN] at HJ
  have HB5 := Lib.hid hb5
  have hNN : N ≤ 100000 := by omega
  clear hbn hb5 hM hML hrow hN HE2 HGR HR2 HCL HB2 HWS hL
  unfold aggW at HJ
  unfold Calm at HJ
  cases hv : vsB M
  · have hE := ck_bad (n := 1) hv
    rw [hE] at HJ
    generalize wdH (jaN M) = p1 at *
    generalize wdL (jaN M) = p0 at *
    generalize wdH (jaD M) = q1 at *
    generalize wdL (jaD M) = q0 at *
    have HJ := Lib.hid HJ
    clear hE ha hMN hN1 hN100 hv
    go_wp2_with fail
    (with_reducible refine HJ.out.mono ?_); rintro e w6 ⟨rfl, hb⟩
    have hb6 := HB5.out.trans (hb.mono HB5.out.size)
    have HB6 := Lib.hid ((hb6.alloc hb6.size (.cells #[.int .u64 p1, .int .u64 p0] 37)).alloc (by have := hb6.size; simp; omega) (.cells #[.int .u64 q1, .int .u64 q0] 37))
    clear hb hb6 HJ
    go_wp2_with fail
    (with_reducible refine (HAW.out _).mono ?_); rintro e w7 ⟨rfl, hb⟩
    have HB7 := Lib.hid (HB6.out.trans (hb.mono HB6.out.size))
    clear hb HB6
    go_wp2
    go_ret
    exact ⟨rfl, HB7.out⟩
  · have hE := ck_ok (n := 1) hv (by omega)
    obtain ⟨hvs, _⟩ := vs_yes hv
    obtain ⟨e1, e2⟩ := ja_yes hE
    rw [hE, e1, e2] at HJ
    have hidx := fun b hb => idx_cases hN1 _ _ rfl rfl b hb
    obtain ⟨bb, off, rfl, -⟩ := ha.sp (k := 0) hN1
    have HTA := Lib.hid (fun i (hi : i < M.length) (W : World) (hb : Below w5.heap.size w5 W) => two_at ha (Nat.le_refl _) hi hN1 rfl W hb)
    have HSB := Lib.hid (fun i (hi : i < M.length) => (And.intro (sp_yes (hvs i hi)) (sv_bd (hvs i hi))))
    have HAL := Lib.hid (fun i (hi : i < M.length) => al_next hi)
    rw [hMN] at hidx HJ
    generalize wdH (smK M N * smK M N) = p1 at *
    generalize wdL (smK M N * smK M N) = p0 at *
    generalize wdH ((N : Int) * sqK M N) = q1 at *
    generalize wdL ((N : Int) * sqK M N) = q0 at *
    have hidx2 : ∀ b, alB M N = b → wLess q1 q0 p1 p0 = false ∧ ((b = true ∧ p1 = q1 ∧ p0 = q0) ∨ (b = false ∧ (p1 == q1) = false) ∨ (b = false ∧ p1 = q1 ∧ (p0 == q0) = false)) := by
      intro b hb
      obtain ⟨h1, h2⟩ := hidx b hb
      exact ⟨h1, h2⟩
    have HIX := Lib.hid hidx2
    have HJ := Lib.hid HJ
    have HMN := Lib.hid hMN
    have HN1 := Lib.hid hN1
    clear hv hvs hE e1 e2 hidx hidx2 ha hN100 hMN
    go_wp2_with fail
    (with_reducible refine HJ.out.mono ?_); rintro e w6 ⟨rfl, hb⟩
    have hb6 : Below w5.heap.size w5 ((w6.alloc (.cells #[.int .u64 p1, .int .u64 p0] 37)).alloc (.cells #[.int .u64 q1, .int .u64 q0] 37)) := (hb.alloc hb.size (.cells #[.int .u64 p1, .int .u64 p0] 37)).alloc (by have := hb.size; simp; omega) (.cells #[.int .u64 q1, .int .u64 q0] 37)
    have hq := Whole.fresh (w6.alloc (.cells #[.int .u64 p1, .int .u64 p0] 37)) 37 #[.int .u64 q1, .int .u64 q0]
    rw [World.size_alloc] at hq
    have HP := Lib.hid ((Whole.fresh w6 37 #[.int .u64 p1, .int .u64 p0]).alloc (.cells #[.int .u64 q1, .int .u64 q0] 37))
    have HQ := Lib.hid hq
    have HB6 := Lib.hid hb6
    have HBE := Lib.hid (fun (W : World) (hW : Below ((w6.alloc (.cells #[.int .u64 p1, .int .u64 p0] 37)).alloc (.cells #[.int .u64 q1, .int .u64 q0] 37)).heap.size ((w6.alloc (.cells #[.int .u64 p1, .int .u64 p0] 37)).alloc (.cells #[.int .u64 q1, .int .u64 q0] 37)) W) => HB5.out.trans ((hb6.trans (hW.mono hb6.size)).mono HB5.out.size))
    clear hb hb6 hq HJ
    go_wp2_with fail
    go_loopw [8, 9] (fun s8 s9 wr => ∃ (i : Nat) (b : Bool), i ≤ N ∧ s9 = .int .i64 i ∧ s8 = .bool b ∧ Hid (alB M i = b) ∧ Hid (Below ((w6.alloc (.cells #[.int .u64 p1, .int .u64 p0] 37)).alloc (.cells #[.int .u64 q1, .int .u64 q0] 37)).heap.size ((w6.alloc (.cells #[.int .u64 p1, .int .u64 p0] 37)).alloc (.cells #[.int .u64 q1, .int .u64 q0] 37)) wr)) (fun _ s9 _ => N - (intOf s9).toNat)
    case atStart => exact ⟨0, true, by omega, rfl, rfl, Lib.hid rfl, Lib.hid (Below.refl _ _)⟩
    case round =>
      obtain ⟨i, b, hi, rfl, rfl, HBB, HD⟩ := hrel
      by_cases hlt : i < N
      · have hlt' : (i : Int) < N := by omega
        have iL : i < M.length := by have := HMN.out; omega
        cases b
        · have HB2 := Lib.hid (show alB M (i + 1) = false by rw [HAL.out i iL, HBB.out]; rfl)
          clear HBB
          go_wp2_with fail
          go_quiet (fail)
          go_wp2
          go_roundw
          case rel => exact ⟨i + 1, false, by omega, by go_num, rfl, HB2, Lib.hid (Below_drewN HD.out _)⟩
          case measure => simp [intOf]; omega
        · have hcc := fun (W : World) (hw : Below wr.drew.heap.size wr.drew W) => HTA.out i iL W (HB6.out.trans ((HD.out.trans (((Below.refl _ wr).drew.trans hw).mono HD.out.size)).mono HB6.out.size))
          obtain ⟨⟨k1, k2, _⟩, k4⟩ := HSB.out i iL
          obtain ⟨⟨j1, j2, _⟩, j4⟩ := HSB.out 0 HN1.out
          have hal := HAL.out i iL
          rw [HBB.out, Bool.true_and] at hal
          obtain ⟨s, hs⟩ : ∃ s, M[i] = s := ⟨_, rfl⟩
          obtain ⟨t, ht⟩ : ∃ t, M[0]'(HN1.out) = t := ⟨_, rfl⟩
          rw [hs] at hcc k1 k2 k4 hal
          rw [ht] at hcc j1 j2 j4 hal
          clear hs ht
          obtain ⟨ku1, ku2, ku3, ku4⟩ := un_walk k1 rfl
          obtain ⟨ju1, ju2, ju3, ju4⟩ := un_walk j1 rfl
          have kw := wt_yes k1
          have jw := wt_yes j1
          unfold xI svI at hal
          unfold svI at k4 j4
          obtain ⟨wi, bi, mi⟩ := s
          obtain ⟨wz, bz, mz⟩ := t
          simp only [Nat.zero_mul, Nat.add_zero] at hcc hal k2 k4 j2 j4 ku1 ku2 ku3 ku4 ju1 ju2 ju3 ju4 kw jw
          generalize unC wi = ui at *
          generalize unC wz = uz at *
          generalize hvi : bi * ui = vi at *
          generalize hvz : bz * uz = vz at *
          generalize hx : vi / 1024 = x at *
          generalize hy : vz / 1024 = y at *
          have c1 : IntKind.i64.wrap (Int.tdiv 720720 wi) = ui := by rw [ku2]; exact IntWalk.i64_in _ (by omega)
          have c2' : IntKind.i64.wrap (Int.tdiv 720720 wz) = uz := by rw [ju2]; exact IntWalk.i64_in _ (by omega)
          have c3 : IntKind.i64.wrap (bi * ui) = vi := by rw [hvi]; exact IntWalk.i64_in _ (by omega)
          have c4 : IntKind.i64.wrap (bz * uz) = vz := by rw [hvz]; exact IntWalk.i64_in _ (by omega)
          have c5 : IntKind.i64.wrap (Int.tdiv vi 1024) = x := by rw [Int.tdiv_eq_ediv_of_nonneg (by omega), hx]; exact IntWalk.i64_in _ (by omega)
          have c6 : IntKind.i64.wrap (Int.tdiv vz 1024) = y := by rw [Int.tdiv_eq_ediv_of_nonneg (by omega), hy]; exact IntWalk.i64_in _ (by omega)
          have n1 : (wi == 0) = false := by simp; omega
          have n2 : (wz == 0) = false := by simp; omega
          have nz1 : ¬ wi = 0 := by omega
          have nz2 : ¬ wz = 0 := by omega
          have HC4 := Lib.hid hcc
          have HAL2 := Lib.hid hal
          have hiN : i < N := hlt
          clear hcc hal k1 k2 k4 j1 j2 j4 hx hy hvi hvz ku2 ju2 kw jw HBB HTA HSB HAL
          go_wp2_with fail
          refine wp_region_looseH 78 (by kernel_rfl) (by kernel_rfl) (StB wr.drew (fun vI => [.bool true, .bool true, .slice (some ⟨bb, off, none⟩) N c2, .int .i64 (i : Nat), .pointer (some ⟨bb, off + i * 3, none⟩), .pointer (some ⟨bb, off + i * 3 + 1, none⟩), .int .i64 bi, .slice (some ⟨bb, off, none⟩) N c2, .int .i64 (i : Nat), .pointer (some ⟨bb, off + i * 3, none⟩), .pointer (some ⟨bb, off + i * 3, none⟩), .int .i64 wi, .int .i64 ui, .int .i64 vi, .int .i64 x, .slice (some ⟨bb, off, none⟩) N c2, .pointer (some ⟨bb, off, none⟩), .pointer (some ⟨bb, off + 1, none⟩), .int .i64 bz, .slice (some ⟨bb, off, none⟩) N c2, .pointer (some ⟨bb, off, none⟩), .pointer (some ⟨bb, off, none⟩), .int .i64 wz, .int .i64 uz, .int .i64 vz, .int .i64 y, .bool (x == y), .bool (x == y), .bool (x == y)].getD vI undef)) rfl StB.start ?_ ?_
          · simp only [OblAllH]
            refine ⟨?_, ?_, ?_, ?_, ?_, ?_, ?_, ?_, ?_, ?_, ?_, ?_, ?_, ?_, ?_, ?_, ?_, ?_, ?_, ?_, ?_, ?_, ?_, ?_, ?_, ?_, ?_, ?_, ?_, trivial⟩
            · intro L wx vals hi hu hcl hC
              have HCx := Lib.hid hC
              clear hC hcl hu hi
              simp [fillA]
              go_wp2
              exact ⟨rfl, HCx.out.quiet 0 rfl⟩
            · intro L wx vals hi hu hcl hC
              simp [predL, predE, Region.binds, UpL] at hu
              have e0 : vals 0 = .bool true := hC.v 0 (by simp [hu])
              have HCx := Lib.hid hC
              clear hC hcl hu hi
              simp [fillA, Act.put]
              simp only [e0]
              clear e0
              go_wp2
              exact ⟨rfl, HCx.out.quiet 1 rfl⟩
            · intro L wx vals hi hu hcl hC
              simp [predL, predE, Region.binds, UpL] at hu
              have e1 : vals 1 = .bool true := hC.v 1 (by simp [hu])
              have HCx := Lib.hid hC
              clear hC hcl hu hi
              simp [fillA, Act.put]
              simp only [e1]
              clear e1
              go_wp2
              exact ⟨rfl, HCx.out.quiet 2 rfl⟩
            · intro L wx vals hi hu hcl hC
              simp [predL, predE, Region.binds, UpL] at hu
              have e1 : vals 1 = .bool true := hC.v 1 (by simp [hu])
              have HCx := Lib.hid hC
              clear hC hcl hu hi
              simp [fillA, Act.put]
              simp only [e1]
              clear e1
              go_wp2
              exact ⟨rfl, HCx.out.quiet 3 rfl⟩
            · intro L wx vals hi hu hcl hC
              simp [predL, predE, Region.binds, UpL] at hu
              have e1 : vals 1 = .bool true := hC.v 1 (by simp [hu])
              have e2 : vals 2 = .slice (some ⟨bb, off, none⟩) N c2 := hC.v 2 (by simp [hu])
              have e3 : vals 3 = .int .i64 (i : Nat) := hC.v 3 (by simp [hu])
              have HCx := Lib.hid hC
              clear hC hcl hu hi
              simp [fillA, Act.put]
              simp only [e1, e2, e3]
              clear e1 e2 e3
              go_wp2
              exact ⟨rfl, HCx.out.quiet 4 rfl⟩
            · intro L wx vals hi hu hcl hC
              simp [predL, predE, Region.binds, UpL] at hu
              have e1 : vals 1 = .bool true := hC.v 1 (by simp [hu])
              have e4 : vals 4 = .pointer (some ⟨bb, off + i * 3, none⟩) := hC.v 4 (by simp [hu])
              have HCx := Lib.hid hC
              clear hC hcl hu hi
              simp [fillA, Act.put]
              simp only [e1, e4]
              clear e1 e4
              go_wp2
              exact ⟨rfl, HCx.out.quiet 5 rfl⟩
            · intro L wx vals hi hu hcl hC
              simp [predL, predE, Region.binds, UpL] at hu
              have e1 : vals 1 = .bool true := hC.v 1 (by simp [hu])
              have e5 : vals 5 = .pointer (some ⟨bb, off + i * 3 + 1, none⟩) := hC.v 5 (by simp [hu])
              have h0 := (HC4.out wx hC.b).2.1
              have HCx := Lib.hid hC
              clear hC hcl hu hi
              simp [fillA, Act.put]
              simp only [e1, e5]
              clear e1 e5
              go_wp2
              exact ⟨rfl, HCx.out.quiet 6 rfl⟩
            · intro L wx vals hi hu hcl hC
              simp [predL, predE, Region.binds, UpL] at hu
              have e1 : vals 1 = .bool true := hC.v 1 (by simp [hu])
              have HCx := Lib.hid hC
              clear hC hcl hu hi
              simp [fillA, Act.put]
              simp only [e1]
              clear e1
              go_wp2
              exact ⟨rfl, HCx.out.quiet 7 rfl⟩
            · intro L wx vals hi hu hcl hC
              simp [predL, predE, Region.binds, UpL] at hu
              have e1 : vals 1 = .bool true := hC.v 1 (by simp [hu])
              have HCx := Lib.hid hC
              clear hC hcl hu hi
              simp [fillA, Act.put]
              simp only [e1]
              clear e1
              go_wp2
              exact ⟨rfl, HCx.out.quiet 8 rfl⟩
            · intro L wx vals hi hu hcl hC
              simp [predL, predE, Region.binds, UpL] at hu
              have e1 : vals 1 = .bool true := hC.v 1 (by simp [hu])
              have e7 : vals 7 = .slice (some ⟨bb, off, none⟩) N c2 := hC.v 7 (by simp [hu])
              have e8 : vals 8 = .int .i64 (i : Nat) := hC.v 8 (by simp [hu])
              have HCx := Lib.hid hC
              clear hC hcl hu hi
              simp [fillA, Act.put]
              simp only [e1, e7, e8]
              clear e1 e7 e8
              go_wp2
              exact ⟨rfl, HCx.out.quiet 9 rfl⟩
            · intro L wx vals hi hu hcl hC
              simp [predL, predE, Region.binds, UpL] at hu
              have e1 : vals 1 = .bool true := hC.v 1 (by simp [hu])
              have e9 : vals 9 = .pointer (some ⟨bb, off + i * 3, none⟩) := hC.v 9 (by simp [hu])
              have HCx := Lib.hid hC
              clear hC hcl hu hi
              simp [fillA, Act.put]
              simp only [e1, e9]
              clear e1 e9
              go_wp2
              exact ⟨rfl, HCx.out.quiet 10 rfl⟩
            · intro L wx vals hi hu hcl hC
              simp [predL, predE, Region.binds, UpL] at hu
              have e1 : vals 1 = .bool true := hC.v 1 (by simp [hu])
              have e10 : vals 10 = .pointer (some ⟨bb, off + i * 3, none⟩) := hC.v 10 (by simp [hu])
              have h0 := (HC4.out wx hC.b).1
              have HCx := Lib.hid hC
              clear hC hcl hu hi
              simp [fillA, Act.put]
              simp only [e1, e10]
              clear e1 e10
              go_wp2
              exact ⟨rfl, HCx.out.quiet 11 rfl⟩
            · intro L wx vals hi hu hcl hC
              simp [predL, predE, Region.binds, UpL] at hu
              have e1 : vals 1 = .bool true := hC.v 1 (by simp [hu])
              have e11 : vals 11 = .int .i64 wi := hC.v 11 (by simp [hu])
              have HCx := Lib.hid hC
              clear hC hcl hu hi
              simp [fillA, Act.put]
              simp only [e1, e11]
              clear e1 e11
              go_wp2
              exact ⟨rfl, HCx.out.quiet 12 rfl⟩
            · intro L wx vals hi hu hcl hC
              simp [predL, predE, Region.binds, UpL] at hu
              have e1 : vals 1 = .bool true := hC.v 1 (by simp [hu])
              have e6 : vals 6 = .int .i64 bi := hC.v 6 (by simp [hu])
              have e12 : vals 12 = .int .i64 ui := hC.v 12 (by simp [hu])
              have HCx := Lib.hid hC
              clear hC hcl hu hi
              simp [fillA, Act.put]
              simp only [e1, e6, e12]
              clear e1 e6 e12
              go_wp2
              exact ⟨rfl, HCx.out.quiet 13 rfl⟩
            · intro L wx vals hi hu hcl hC
              simp [predL, predE, Region.binds, UpL] at hu
              have e1 : vals 1 = .bool true := hC.v 1 (by simp [hu])
              have e13 : vals 13 = .int .i64 vi := hC.v 13 (by simp [hu])
              have HCx := Lib.hid hC
              clear hC hcl hu hi
              simp [fillA, Act.put]
              simp only [e1, e13]
              clear e1 e13
              go_wp2
              exact ⟨rfl, HCx.out.quiet 14 rfl⟩
            · intro L wx vals hi hu hcl hC
              simp [predL, predE, Region.binds, UpL] at hu
              have e1 : vals 1 = .bool true := hC.v 1 (by simp [hu])
              have HCx := Lib.hid hC
              clear hC hcl hu hi
              simp [fillA, Act.put]
              simp only [e1]
              clear e1
              go_wp2
              exact ⟨rfl, HCx.out.quiet 15 rfl⟩
            · intro L wx vals hi hu hcl hC
              simp [predL, predE, Region.binds, UpL] at hu
              have e1 : vals 1 = .bool true := hC.v 1 (by simp [hu])
              have e15 : vals 15 = .slice (some ⟨bb, off, none⟩) N c2 := hC.v 15 (by simp [hu])
              have HCx := Lib.hid hC
              clear hC hcl hu hi
              simp [fillA, Act.put]
              simp only [e1, e15]
              clear e1 e15
              go_wp2
              exact ⟨rfl, HCx.out.quiet 16 rfl⟩
            · intro L wx vals hi hu hcl hC
              simp [predL, predE, Region.binds, UpL] at hu
              have e1 : vals 1 = .bool true := hC.v 1 (by simp [hu])
              have e16 : vals 16 = .pointer (some ⟨bb, off, none⟩) := hC.v 16 (by simp [hu])
              have HCx := Lib.hid hC
              clear hC hcl hu hi
              simp [fillA, Act.put]
              simp only [e1, e16]
              clear e1 e16
              go_wp2
              exact ⟨rfl, HCx.out.quiet 17 rfl⟩
            · intro L wx vals hi hu hcl hC
              simp [predL, predE, Region.binds, UpL] at hu
              have e1 : vals 1 = .bool true := hC.v 1 (by simp [hu])
              have e17 : vals 17 = .pointer (some ⟨bb, off + 1, none⟩) := hC.v 17 (by simp [hu])
              have h0 := (HC4.out wx hC.b).2.2.2.2.1
              have HCx := Lib.hid hC
              clear hC hcl hu hi
              simp [fillA, Act.put]
              simp only [e1, e17]
              clear e1 e17
              go_wp2
              exact ⟨rfl, HCx.out.quiet 18 rfl⟩
            · intro L wx vals hi hu hcl hC
              simp [predL, predE, Region.binds, UpL] at hu
              have e1 : vals 1 = .bool true := hC.v 1 (by simp [hu])
              have HCx := Lib.hid hC
              clear hC hcl hu hi
              simp [fillA, Act.put]
              simp only [e1]
              clear e1
              go_wp2
              exact ⟨rfl, HCx.out.quiet 19 rfl⟩
            · intro L wx vals hi hu hcl hC
              simp [predL, predE, Region.binds, UpL] at hu
              have e1 : vals 1 = .bool true := hC.v 1 (by simp [hu])
              have e19 : vals 19 = .slice (some ⟨bb, off, none⟩) N c2 := hC.v 19 (by simp [hu])
              have HCx := Lib.hid hC
              clear hC hcl hu hi
              simp [fillA, Act.put]
              simp only [e1, e19]
              clear e1 e19
              go_wp2
              exact ⟨rfl, HCx.out.quiet 20 rfl⟩
            · intro L wx vals hi hu hcl hC
              simp [predL, predE, Region.binds, UpL] at hu
              have e1 : vals 1 = .bool true := hC.v 1 (by simp [hu])
              have e20 : vals 20 = .pointer (some ⟨bb, off, none⟩) := hC.v 20 (by simp [hu])
              have HCx := Lib.hid hC
              clear hC hcl hu hi
              simp [fillA, Act.put]
              simp only [e1, e20]
              clear e1 e20
              go_wp2
              exact ⟨rfl, HCx.out.quiet 21 rfl⟩
            · intro L wx vals hi hu hcl hC
              simp [predL, predE, Region.binds, UpL] at hu
              have e1 : vals 1 = .bool true := hC.v 1 (by simp [hu])
              have e21 : vals 21 = .pointer (some ⟨bb, off, none⟩) := hC.v 21 (by simp [hu])
              have h0 := (HC4.out wx hC.b).2.2.2.1
              have HCx := Lib.hid hC
              clear hC hcl hu hi
              simp [fillA, Act.put]
              simp only [e1, e21]
              clear e1 e21
              go_wp2
              exact ⟨rfl, HCx.out.quiet 22 rfl⟩
            · intro L wx vals hi hu hcl hC
              simp [predL, predE, Region.binds, UpL] at hu
              have e1 : vals 1 = .bool true := hC.v 1 (by simp [hu])
              have e22 : vals 22 = .int .i64 wz := hC.v 22 (by simp [hu])
              have HCx := Lib.hid hC
              clear hC hcl hu hi
              simp [fillA, Act.put]
              simp only [e1, e22]
              clear e1 e22
              go_wp2
              exact ⟨rfl, HCx.out.quiet 23 rfl⟩
            · intro L wx vals hi hu hcl hC
              simp [predL, predE, Region.binds, UpL] at hu
              have e1 : vals 1 = .bool true := hC.v 1 (by simp [hu])
              have e18 : vals 18 = .int .i64 bz := hC.v 18 (by simp [hu])
              have e23 : vals 23 = .int .i64 uz := hC.v 23 (by simp [hu])
              have HCx := Lib.hid hC
              clear hC hcl hu hi
              simp [fillA, Act.put]
              simp only [e1, e18, e23]
              clear e1 e18 e23
              go_wp2
              exact ⟨rfl, HCx.out.quiet 24 rfl⟩
            · intro L wx vals hi hu hcl hC
              simp [predL, predE, Region.binds, UpL] at hu
              have e1 : vals 1 = .bool true := hC.v 1 (by simp [hu])
              have e24 : vals 24 = .int .i64 vz := hC.v 24 (by simp [hu])
              have HCx := Lib.hid hC
              clear hC hcl hu hi
              simp [fillA, Act.put]
              simp only [e1, e24]
              clear e1 e24
              go_wp2
              exact ⟨rfl, HCx.out.quiet 25 rfl⟩
            · intro L wx vals hi hu hcl hC
              simp [predL, predE, Region.binds, UpL] at hu
              have e1 : vals 1 = .bool true := hC.v 1 (by simp [hu])
              have e14 : vals 14 = .int .i64 x := hC.v 14 (by simp [hu])
              have e25 : vals 25 = .int .i64 y := hC.v 25 (by simp [hu])
              have HCx := Lib.hid hC
              clear hC hcl hu hi
              simp [fillA, Act.put]
              simp only [e1, e14, e25]
              clear e1 e14 e25
              go_wp2
              exact ⟨rfl, HCx.out.quiet 26 rfl⟩
            · intro L wx vals hi hu hcl hC
              simp [predL, predE, Region.binds, UpL] at hu
              have e1 : vals 1 = .bool true := hC.v 1 (by simp [hu])
              have e26 : vals 26 = .bool (x == y) := hC.v 26 (by simp [hu])
              have HCx := Lib.hid hC
              clear hC hcl hu hi
              simp [fillA, Act.put]
              simp only [e1, e26]
              clear e1 e26
              go_wp2
              exact ⟨rfl, HCx.out.quiet 27 rfl⟩
            · intro L wx vals hi hu hcl hC
              simp [predL, predE, Region.binds, UpL] at hu
              have e27 : vals 27 = .bool (x == y) := hC.v 27 (by simp [hu])
              have HCx := Lib.hid hC
              clear hC hcl hu hi
              simp [fillA, Act.put]
              simp only [e27]
              clear e27
              go_wp2
              exact ⟨rfl, HCx.out.quiet 28 rfl⟩
          · intro wz' vals U hC hall
            have e28 : vals 28 = .bool (x == y) := hC.v 28 (hall 28 (by simp))
            have hbz := (Below.refl _ wr).drew.trans hC.b
            simp only [fillA, if_true, Act.put]
            simp
            simp only [e28]
            have HD2 := Lib.hid (HD.out.trans (hbz.mono HD.out.size))
            clear hC hall e28 hbz HC4 HD
            generalize vals 0 = o0 at *
            generalize vals 1 = o1 at *
            generalize vals 2 = o2 at *
            generalize vals 3 = o3 at *
            generalize vals 4 = o4 at *
            generalize vals 5 = o5 at *
            generalize vals 6 = o6 at *
            generalize vals 7 = o7 at *
            generalize vals 8 = o8 at *
            generalize vals 9 = o9 at *
            generalize vals 10 = o10 at *
            generalize vals 11 = o11 at *
            generalize vals 12 = o12 at *
            generalize vals 13 = o13 at *
            generalize vals 14 = o14 at *
            generalize vals 15 = o15 at *
            generalize vals 16 = o16 at *
            generalize vals 17 = o17 at *
            generalize vals 18 = o18 at *
            generalize vals 19 = o19 at *
            generalize vals 20 = o20 at *
            generalize vals 21 = o21 at *
            generalize vals 22 = o22 at *
            generalize vals 23 = o23 at *
            generalize vals 24 = o24 at *
            generalize vals 25 = o25 at *
            generalize vals 26 = o26 at *
            generalize vals 27 = o27 at *
            go_wp2
            go_roundw
            case rel => exact ⟨i + 1, (x == y), by omega, by go_num, rfl, HAL2, HD2⟩
            case measure => simp [intOf]; omega
      · obtain rfl : i = N := by omega
        obtain ⟨hless, hc⟩ := HIX.out b HBB.out
        have hpp := HP.out.later HD.out
        have hqq := HQ.out.later HD.out
        have HPW := Lib.hid (fun (W : World) (hW : Below wr.heap.size wr W) => (⟨(hpp.later hW).read 0, (hpp.later hW).read 1, (hqq.later hW).read 0, (hqq.later hW).read 1⟩ : W.cell? ⟨w6.heap.size, 0, none⟩ = some (.int .u64 p1) ∧ W.cell? ⟨w6.heap.size, 1, none⟩ = some (.int .u64 p0) ∧ W.cell? ⟨w6.heap.size + 1, 0, none⟩ = some (.int .u64 q1) ∧ W.cell? ⟨w6.heap.size + 1, 1, none⟩ = some (.int .u64 q0)))
        have hLS := fun W => refLess_any q1 q0 p1 p0 W
        rw [hless] at hLS
        have hLS2 := fun (W : World) => (hLS W).mono fun e w' h => (⟨h.1, by rw [h.2]; exact below_alloc (below_alloc (Below.refl _ _) _) _⟩ : e = .returned (.bool false) ∧ Below W.heap.size W w')
        have HLS := Lib.hid hLS2
        obtain ⟨d0, d1, d2, d3⟩ := HPW.out wr (Below.refl _ _)
        clear hpp hqq hLS hLS2 hless HBB HIX HTA HSB HAL HP HQ
        rcases hc with ⟨rfl, rfl, rfl⟩ | ⟨rfl, h1⟩ | ⟨rfl, rfl, h1⟩
        all_goals
          go_wp2_with fail
          (with_reducible refine (HLS.out _).mono ?_); rintro e w7 ⟨rfl, hb7⟩
          obtain ⟨g0, g1, g2, g3⟩ := HPW.out _ hb7
          have HD7 := Lib.hid (HD.out.trans (hb7.mono HD.out.size))
          clear hb7 d0 d1 d2 d3 HPW HD
          go_wp2_with fail
          (with_reducible refine (HAW.out _).mono ?_); rintro e w8 ⟨rfl, hb⟩
          have HB8 := Lib.hid (HBE.out w8 (HD7.out.trans (hb.mono HD7.out.size)))
          clear hb HD7 HBE
          go_wp2
          go_ret
          exact ⟨rfl, HB8.out⟩
end Go.Proofs.Ytcdeecigiijabaa

