/-
  Layer 9: contracts of Classify, program's and reference's.
-/
import Derived.Test.YtfkbohfelacaoaaDoorRuCover
namespace Go.Proofs.YtfkbohfelacaoaaDoor
open Go.ChangeShapes Go.WideShapes Go.ChangeAt Go.RowKit
set_option linter.unusedVariables false

def ClAns (h : Hdr) (L : List Rul) (w : World) (e : Ending) (w' : World) : Prop := e = .returned (.tuple #[.int .i64 (clV h L), .bool (clB h L)]) ∧ Below w.heap.size w w'
theorem cell_lt {w : World} {b o : Nat} {v : Value} (h : w.cell? ⟨b, o, none⟩ = some v) : b < w.heap.size := by
  refine Nat.lt_of_not_le fun e => ?_
  have : w.heap[b]? = none := Array.getElem?_eq_none e
  simp [World.cell?, this] at h
theorem clF_drop (h : Hdr) {L : List Rul} {k : Nat} (hk : k < L.length) : clF h (L.drop k) = if mtR L[k] h then some L[k].w else clF h (L.drop (k + 1)) := by
  rw [List.drop_eq_getElem_cons hk, clF]
theorem cl_some {h : Hdr} {L : List Rul} {n : Int} (e : clF h L = some n) : clV h L = n ∧ clB h L = true := by unfold clV clB; rw [e]; exact ⟨rfl, rfl⟩
theorem cl_none {h : Hdr} {L : List Rul} (e : clF h L = none) : clV h L = -1 ∧ clB h L = false := by unfold clV clB; rw [e]; exact ⟨rfl, rfl⟩
theorem clF_end (h : Hdr) (L : List Rul) : clF h (L.drop L.length) = none := by rw [List.drop_length]; rfl
theorem ret_cl {a c : Int} {x y : Bool} (h : a = c) (k : x = y) : Ending.returned (.tuple #[.int .i64 a, .bool x]) = .returned (.tuple #[.int .i64 c, .bool y]) := by rw [h, k]
theorem heldO {w0 w w' : World} {b1 o b2 : Nat} {p0 p1 p2 p3 p4 q0 q1 q2 q3 q4 : Value} (hb : Below w.heap.size w w')
    (h : w.cell? ⟨b1, o, none⟩ = some p0 ∧ w.cell? ⟨b1, o + 1, none⟩ = some p1 ∧ w.cell? ⟨b1, o + 2, none⟩ = some p2 ∧ w.cell? ⟨b1, o + 3, none⟩ = some p3 ∧ w.cell? ⟨b1, o + 4, none⟩ = some p4 ∧
      w.cell? ⟨b2, 0, none⟩ = some q0 ∧ w.cell? ⟨b2, 1, none⟩ = some q1 ∧ w.cell? ⟨b2, 2, none⟩ = some q2 ∧ w.cell? ⟨b2, 3, none⟩ = some q3 ∧ w.cell? ⟨b2, 4, none⟩ = some q4 ∧ Below w0.heap.size w0 w) :
    w'.cell? ⟨b1, o, none⟩ = some p0 ∧ w'.cell? ⟨b1, o + 1, none⟩ = some p1 ∧ w'.cell? ⟨b1, o + 2, none⟩ = some p2 ∧ w'.cell? ⟨b1, o + 3, none⟩ = some p3 ∧ w'.cell? ⟨b1, o + 4, none⟩ = some p4 ∧
      w'.cell? ⟨b2, 0, none⟩ = some q0 ∧ w'.cell? ⟨b2, 1, none⟩ = some q1 ∧ w'.cell? ⟨b2, 2, none⟩ = some q2 ∧ w'.cell? ⟨b2, 3, none⟩ = some q3 ∧ w'.cell? ⟨b2, 4, none⟩ = some q4 ∧ Below w0.heap.size w0 w' := by
  obtain ⟨h0, h1, h2, h3, h4, k0, k1, k2, k3, k4, h5⟩ := h
  exact ⟨cell_later h0 hb, cell_later h1 hb, cell_later h2 hb, cell_later h3 hb, cell_later h4 hb, cell_later k0 hb, cell_later k1 hb, cell_later k2 hb, cell_later k3 hb, cell_later k4 hb, h5.trans (hb.mono h5.size)⟩
set_option maxHeartbeats 2000000 in
theorem classify_any (L : List Rul) (A : Option Addr) (cap : Nat) (hs : ByteArray) (hc hp hl hf : Int) (w : World) (hr : RuAt w w.heap.size A L) (hn : L.length ≤ cap) (hcap : cap ≤ 9223372036854775807) :
    Calls Tryd.prog 20 #[.slice A L.length cap, .agg #[.string hs, .int .i64 hc, .int .i64 hp, .int .i64 hl, .int .i64 hf]] w (ClAns ⟨hs, hc, hp, hl, hf⟩ L w) := by
  have HM := Lib.hid (fun s1 c1 f1 l1 n1 w => mt_any s1 hs c1 f1 l1 n1 hc hp hl hf w)
  unfold BoolAns at HM
  have HD := Lib.hid (fun k hk => clF_drop ⟨hs, hc, hp, hl, hf⟩ (L := L) (k := k) hk)
  have HE := Lib.hid (clF_end ⟨hs, hc, hp, hl, hf⟩ L)
  have HS := Lib.hid (fun n e => cl_some (h := ⟨hs, hc, hp, hl, hf⟩) (L := L) (n := n) e)
  have HN := Lib.hid (fun e => cl_none (h := ⟨hs, hc, hp, hl, hf⟩) (L := L) e)
  have HR := Lib.hid hr
  have HZ := Lib.hid (Whole.fresh w 43 #[.string hs, .int .i64 hc, .int .i64 hp, .int .i64 hl, .int .i64 hf]).five'
  have HB0 := Lib.hid ((Below.refl w.heap.size w).alloc (Nat.le_refl _) (.cells #[.string hs, .int .i64 hc, .int .i64 hp, .int .i64 hl, .int .i64 hf] 43))
  have HR0 := Lib.hid (hr.below HB0.out (Nat.le_refl _))
  clear hr
  unfold ClAns
  go_enter Tryd.func20, Tryd.ntmps20
  go_wp2
  go_loopw [10] (fun s10 wr => ∃ k : Nat, k ≤ L.length ∧ s10 = .int .i64 k ∧ Hid (Five wr w.heap.size (.string hs) (.int .i64 hc) (.int .i64 hp) (.int .i64 hl) (.int .i64 hf)) ∧ Hid (Below w.heap.size w wr) ∧ Hid (RuAt wr w.heap.size A L) ∧ Hid (clF ⟨hs, hc, hp, hl, hf⟩ (L.drop k) = clF ⟨hs, hc, hp, hl, hf⟩ L)) (fun s10 _ => L.length - (intOf s10).toNat)
  case atStart => exact ⟨0, Nat.zero_le _, rfl, HZ, HB0, HR0, Lib.hid rfl⟩
  case round =>
    obtain ⟨k, hk, rfl, HZ, HB, HR, HF⟩ := hrel
    clear HR0 HB0
    by_cases hlt : k < L.length
    · obtain ⟨b, off, rfl, hb, c0, c1, c2, c3, c4⟩ := HR.out k hlt
      have hF := HF.out
      rw [HD.out k hlt] at hF
      have hFh := Lib.hid hF
      clear hF HF
      obtain ⟨r, hrk⟩ : ∃ r, L[k] = r := ⟨_, rfl⟩
      rw [hrk] at c0 c1 c2 c3 c4 hFh
      clear hrk
      obtain ⟨rs, rc, rf, rl, rn⟩ := r
      simp only at c0 c1 c2 c3 c4
      obtain ⟨e0, e1, e2, e3, e4⟩ := HZ.out
      have hbw := HB.out.size
      have K := Lib.hid (fun w => HM.out rs rc rf rl rn w)
      have HW := Lib.hid (Whole.fresh wr 29 #[.string rs, .int .i64 rc, .int .i64 rf, .int .i64 rl, .int .i64 rn])
      have hbl : b < wr.heap.size := by omega
      have hlw := cell_lt HZ.out.1
      cases hm : mtR ⟨rs, rc, rf, rl, rn⟩ ⟨hs, hc, hp, hl, hf⟩
      · rw [hm] at K hFh
        have HF2 := Lib.hid ((if_neg (by decide)).symm.trans hFh.out)
        clear hFh hm
        go_wp2_with fail
        (with_reducible refine (K.out _).mono ?_); rintro e w2 ⟨rfl, hb2⟩
        have hb3 := ((Below.refl wr.heap.size wr).alloc (Nat.le_refl _) (.cells #[.string rs, .int .i64 rc, .int .i64 rf, .int .i64 rl, .int .i64 rn] 29)).trans (hb2.mono (by simp))
        have HZ2 := Lib.hid (HZ.out.later hb3)
        have HR2 := Lib.hid (HR.out.below hb3 hbw)
        have HB2 := Lib.hid (HB.out.trans (hb3.mono HB.out.size))
        clear hb2 hb3 HZ HR HB c0 c1 c2 c3 c4 e0 e1 e2 e3 e4 HW K
        go_wp2
        go_roundw
        case rel => exact ⟨k + 1, by omega, by go_num, HZ2, HB2, HR2, HF2⟩
        case measure => simp [intOf]; omega
      · rw [hm] at K hFh
        have HF2 := Lib.hid (HS.out _ (((if_pos rfl).symm.trans hFh.out).symm))
        clear hFh hm
        go_wp2_with fail
        (with_reducible refine (K.out _).mono ?_); rintro e w2 ⟨rfl, hb2⟩
        have hb3 := ((Below.refl wr.heap.size wr).alloc (Nat.le_refl _) (.cells #[.string rs, .int .i64 rc, .int .i64 rf, .int .i64 rl, .int .i64 rn] 29)).trans (hb2.mono (by simp))
        have d4 := ((HW.out.later hb2).five').2.2.2.2
        have HB2 := Lib.hid (HB.out.trans (hb3.mono HB.out.size))
        clear hb2 hb3 HZ HR HB c0 c1 c2 c3 c4 e0 e1 e2 e3 e4 HW K
        go_wp2
        go_ret2
        exact ⟨ret_cl HF2.out.1.symm HF2.out.2.symm, HB2.out⟩
    · obtain rfl : k = L.length := by omega
      have HF2 := Lib.hid (HN.out (HF.out.symm.trans HE.out))
      clear HF HR HZ
      go_wp2
      go_ret2
      exact ⟨ret_cl HF2.out.1.symm HF2.out.2.symm, HB.out⟩
set_option maxHeartbeats 2000000 in
theorem classifyR_any (L : List Rul) (A : Option Addr) (cap : Nat) (hs : ByteArray) (hc hp hl hf : Int) (w : World) (hr : RuAt w w.heap.size A L) (hn : L.length ≤ cap) (hcap : cap ≤ 9223372036854775807) (hz : ∀ r ∈ L, r.st.size ≤ 2000000) (hhz : hs.size ≤ 2000000) :
    Calls Tryd.prog 21 #[.slice A L.length cap, .agg #[.string hs, .int .i64 hc, .int .i64 hp, .int .i64 hl, .int .i64 hf]] w (ClAns ⟨hs, hc, hp, hl, hf⟩ L w) := by
  have HM := Lib.hid (fun s1 c1 f1 l1 n1 (h1 : s1.size ≤ 2000000) w => mtR_any s1 hs c1 f1 l1 n1 hc hp hl hf h1 hhz w)
  unfold BoolAns at HM
  have HD := Lib.hid (fun k hk => clF_drop ⟨hs, hc, hp, hl, hf⟩ (L := L) (k := k) hk)
  have HE := Lib.hid (clF_end ⟨hs, hc, hp, hl, hf⟩ L)
  have HS := Lib.hid (fun n e => cl_some (h := ⟨hs, hc, hp, hl, hf⟩) (L := L) (n := n) e)
  have HN := Lib.hid (fun e => cl_none (h := ⟨hs, hc, hp, hl, hf⟩) (L := L) e)
  have HL := Lib.hid (fun k (hk : k < L.length) => hz L[k] (List.getElem_mem _))
  have HZ := Lib.hid (Whole.fresh w 43 #[.string hs, .int .i64 hc, .int .i64 hp, .int .i64 hl, .int .i64 hf]).five'
  have HB0 := Lib.hid ((Below.refl w.heap.size w).alloc (Nat.le_refl _) (.cells #[.string hs, .int .i64 hc, .int .i64 hp, .int .i64 hl, .int .i64 hf] 43))
  have HR0 := Lib.hid (hr.below HB0.out (Nat.le_refl _))
  clear hr hz hhz
  unfold ClAns
  go_enter Tryd.func21, Tryd.ntmps21
  go_wp2
  go_loopw [6] (fun s10 wr => ∃ k : Nat, k ≤ L.length ∧ s10 = .int .i64 k ∧ Hid (Five wr w.heap.size (.string hs) (.int .i64 hc) (.int .i64 hp) (.int .i64 hl) (.int .i64 hf)) ∧ Hid (Below w.heap.size w wr) ∧ Hid (RuAt wr w.heap.size A L) ∧ Hid (clF ⟨hs, hc, hp, hl, hf⟩ (L.drop k) = clF ⟨hs, hc, hp, hl, hf⟩ L)) (fun s10 _ => L.length - (intOf s10).toNat)
  case atStart => exact ⟨0, Nat.zero_le _, rfl, HZ, HB0, HR0, Lib.hid rfl⟩
  case round =>
    obtain ⟨k, hk, rfl, HZ, HB, HR, HF⟩ := hrel
    clear HR0 HB0
    by_cases hlt : k < L.length
    · obtain ⟨b, off, rfl, hb, c0, c1, c2, c3, c4⟩ := HR.out k hlt
      have hF := HF.out
      rw [HD.out k hlt] at hF
      have hFh := Lib.hid hF
      have hLk := HL.out k hlt
      clear hF HF
      obtain ⟨r, hrk⟩ : ∃ r, L[k] = r := ⟨_, rfl⟩
      rw [hrk] at c0 c1 c2 c3 c4 hFh hLk
      clear hrk
      obtain ⟨rs, rc, rf, rl, rn⟩ := r
      simp only at c0 c1 c2 c3 c4 hLk
      obtain ⟨e0, e1, e2, e3, e4⟩ := HZ.out
      have hbw := HB.out.size
      have K := Lib.hid (fun w => HM.out rs rc rf rl rn hLk w)
      have H0 : wr.drew.cell? ⟨b, off + k * 5, none⟩ = some (.string rs) ∧ wr.drew.cell? ⟨b, off + k * 5 + 1, none⟩ = some (.int .i64 rc) ∧ wr.drew.cell? ⟨b, off + k * 5 + 2, none⟩ = some (.int .i64 rf) ∧ wr.drew.cell? ⟨b, off + k * 5 + 3, none⟩ = some (.int .i64 rl) ∧ wr.drew.cell? ⟨b, off + k * 5 + 4, none⟩ = some (.int .i64 rn) ∧
        wr.drew.cell? ⟨w.heap.size, 0, none⟩ = some (.string hs) ∧ wr.drew.cell? ⟨w.heap.size, 1, none⟩ = some (.int .i64 hc) ∧ wr.drew.cell? ⟨w.heap.size, 2, none⟩ = some (.int .i64 hp) ∧ wr.drew.cell? ⟨w.heap.size, 3, none⟩ = some (.int .i64 hl) ∧ wr.drew.cell? ⟨w.heap.size, 4, none⟩ = some (.int .i64 hf) ∧ Below wr.heap.size wr wr.drew := ⟨c0, c1, c2, c3, c4, e0, e1, e2, e3, e4, (Below.refl _ _).drew⟩
      clear c0 c1 c2 c3 c4 e0 e1 e2 e3 e4
      cases hm : mtR ⟨rs, rc, rf, rl, rn⟩ ⟨hs, hc, hp, hl, hf⟩
      · rw [hm] at K hFh
        have HF2 := Lib.hid ((if_neg (by decide)).symm.trans hFh.out)
        clear hFh hm
        go_wp2_with fail
        go_region_held3 (fun w' => w'.cell? ⟨b, off + k * 5, none⟩ = some (.string rs) ∧ w'.cell? ⟨b, off + k * 5 + 1, none⟩ = some (.int .i64 rc) ∧ w'.cell? ⟨b, off + k * 5 + 2, none⟩ = some (.int .i64 rf) ∧ w'.cell? ⟨b, off + k * 5 + 3, none⟩ = some (.int .i64 rl) ∧ w'.cell? ⟨b, off + k * 5 + 4, none⟩ = some (.int .i64 rn) ∧
            w'.cell? ⟨w.heap.size, 0, none⟩ = some (.string hs) ∧ w'.cell? ⟨w.heap.size, 1, none⟩ = some (.int .i64 hc) ∧ w'.cell? ⟨w.heap.size, 2, none⟩ = some (.int .i64 hp) ∧ w'.cell? ⟨w.heap.size, 3, none⟩ = some (.int .i64 hl) ∧ w'.cell? ⟨w.heap.size, 4, none⟩ = some (.int .i64 hf) ∧ Below wr.heap.size wr w')
          ((first | exact heldO (by assumption) (by assumption) | exact H0))
          ((go_at_call 23; (with_reducible refine (K.out _).mono ?_); rintro e w' ⟨rfl, hb⟩))
        rename_i hH
        obtain ⟨_, _, _, _, _, _, _, _, _, _, hb3⟩ := hH
        have HZ2 := Lib.hid (HZ.out.later hb3)
        have HR2 := Lib.hid (HR.out.below hb3 hbw)
        have HB2 := Lib.hid (HB.out.trans (hb3.mono HB.out.size))
        clear hb3 HZ HR HB H0 K
        go_wp2
        go_roundw
        case rel => exact ⟨k + 1, by omega, by go_num, HZ2, HB2, HR2, HF2⟩
        case measure => simp [intOf]; omega
      · rw [hm] at K hFh
        have HF2 := Lib.hid (HS.out _ (((if_pos rfl).symm.trans hFh.out).symm))
        clear hFh hm
        go_wp2_with fail
        go_region_held3 (fun w' => w'.cell? ⟨b, off + k * 5, none⟩ = some (.string rs) ∧ w'.cell? ⟨b, off + k * 5 + 1, none⟩ = some (.int .i64 rc) ∧ w'.cell? ⟨b, off + k * 5 + 2, none⟩ = some (.int .i64 rf) ∧ w'.cell? ⟨b, off + k * 5 + 3, none⟩ = some (.int .i64 rl) ∧ w'.cell? ⟨b, off + k * 5 + 4, none⟩ = some (.int .i64 rn) ∧
            w'.cell? ⟨w.heap.size, 0, none⟩ = some (.string hs) ∧ w'.cell? ⟨w.heap.size, 1, none⟩ = some (.int .i64 hc) ∧ w'.cell? ⟨w.heap.size, 2, none⟩ = some (.int .i64 hp) ∧ w'.cell? ⟨w.heap.size, 3, none⟩ = some (.int .i64 hl) ∧ w'.cell? ⟨w.heap.size, 4, none⟩ = some (.int .i64 hf) ∧ Below wr.heap.size wr w')
          ((first | exact heldO (by assumption) (by assumption) | exact H0))
          ((go_at_call 23; (with_reducible refine (K.out _).mono ?_); rintro e w' ⟨rfl, hb⟩))
        rename_i hH
        obtain ⟨c0, c1, c2, c3, c4, _, _, _, _, _, hb3⟩ := hH
        have HB2 := Lib.hid (HB.out.trans (hb3.mono HB.out.size))
        clear hb3 HZ HR HB H0 K
        go_wp2
        go_ret2
        exact ⟨ret_cl HF2.out.1.symm HF2.out.2.symm, HB2.out⟩
    · obtain rfl : k = L.length := by omega
      have HF2 := Lib.hid (HN.out (HF.out.symm.trans HE.out))
      clear HF HR HZ
      go_wp2
      go_ret2
      exact ⟨ret_cl HF2.out.1.symm HF2.out.2.symm, HB.out⟩
end Go.Proofs.YtfkbohfelacaoaaDoor

