/-
  Layer 17: what can be seen of the program's receiver and the reference's is the same (same). Written by gen_rcsame.py.
-/
import Derived.Test.YthmncipenjhknaaRcEnv
import Derived.Test.YthmncipenjhknaaPv
import Derived.Laws.StructEq
namespace Go.Proofs.Ythmncipenjhknaa
open Go.ChangeShapes Go.WideShapes Go.ChangeAt Go.RowKit
set_option linter.unusedVariables false

def SmC (W0 : World) (fu : Nat) (w : World) : Prop := Below W0.heap.size W0 w
def SmR (w w' : World) : Prop := Below w.heap.size w w'
def SmV (R S : Nat) (a1 a2 nx id : Int) (ho : Bool) (ids : List Int) (vI : Value) (i : Nat) (v : Value) (w : World) : Prop :=
  match i with
  | 0 => v = .pointer (some ⟨R, 0, none⟩)
  | 1 => v = .agg #[.int .i64 a1, .int .u64 a2]
  | 2 => v = .pointer (some ⟨S, 0, none⟩)
  | 3 => v = .agg #[.int .i64 a1, .int .u64 a2]
  | 4 => v = .bool true
  | 5 => v = .bool true
  | 6 => v = .pointer (some ⟨R, 0, none⟩)
  | 7 => v = .int .i64 nx
  | 8 => v = .pointer (some ⟨S, 0, none⟩)
  | 9 => v = .pointer (some ⟨S, 0, none⟩)
  | 10 => v = .pointer (some ⟨S, 1, none⟩)
  | 11 => v = .int .i64 nx
  | 12 => v = .bool true
  | 13 => v = .bool true
  | 14 => v = .bool true
  | 15 => v = .pointer (some ⟨R, 0, none⟩)
  | 16 => LsA csI 1 3 v ids w
  | 17 => v = vI
  | 18 => v = .bool true
  | 19 => v = .bool true
  | 20 => v = .bool true
  | 21 => v = .pointer (some ⟨R, 0, none⟩)
  | 22 => v = .int .i64 id
  | 23 => v = .bool ho
  | 24 => v = .pointer (some ⟨S, 0, none⟩)
  | 25 => v = .int .i64 id
  | 26 => v = .bool ho
  | 27 => v = .bool true
  | 28 => v = .bool true
  | 29 => v = .bool true
  | _ => True
theorem SmV.keep {R S : Nat} {a1 a2 nx id : Int} {ho : Bool} {ids : List Int} {vI : Value} (i : Nat) (v : Value) (w w' : World) (h : SmR w w') (hv : SmV R S a1 a2 nx id ho ids vI i v w) : SmV R S a1 a2 nx id ho ids vI i v w' := by
  unfold SmV at *
  split at hv <;> first | exact hv | exact hv.later h | trivial
theorem hl_next (s : RcS) {k : Nat} (hk : k < s.l.length) : (s.l.take (k + 1)).map (·.i) = (s.l.take k).map (·.i) ++ [s.l[k].i] := by
  rw [List.take_succ_eq_append_getElem hk, List.map_append]; rfl
set_option maxRecDepth 100000 in
set_option maxHeartbeats 16000000 in
theorem same_any {R S : Nat} {s : RcS} {T1 T2 : Nat → Prop} {w : World} (hn : s.l.length ≤ 9999) (hp : RcP R s T1 w) (hr : RrP S s T2 w) (id : Int) :
    Calls Try.prog 16 #[.pointer (some ⟨R, 0, none⟩), .pointer (some ⟨S, 0, none⟩), .int .i64 id] w (Calm (.bool true) w) := by
  have later : ∀ W, Below w.heap.size w W → RcP R s T1 W ∧ RrP S s T2 W := fun W hb =>
    ⟨(RcP.frm (base := 0)).chg (S := fun _ => False) hp (Chg.of_below hb) (fun _ h => h.elim) (fun _ _ h => h), hr.later hb⟩
  have HPA := Lib.hid (fun (W : World) (hb : Below w.heap.size w W) => pracks_any hn (later W hb).1)
  have HRA := Lib.hid (fun (W : World) (hb : Below w.heap.size w W) => rracks_any (by omega) (later W hb).2)
  have HPE := Lib.hid (fun (W : World) (hb : Below w.heap.size w W) => prexp_any (later W hb).1)
  have HPH := Lib.hid (fun (W : World) (hb : Below w.heap.size w W) => prhold_any hn (later W hb).1)
  have HPO := Lib.hid (fun (W : World) (hb : Below w.heap.size w W) => prholds_any hn (later W hb).1 id)
  have HRO := Lib.hid (fun (W : World) (hb : Below w.heap.size w W) => rrholds_any (by omega) (later W hb).2 id)
  obtain ⟨h0, h1, h2, vL, h3, h4⟩ := hr
  have d1 := h3.read 1
  have d2 := h3.read 2
  simp [rrC] at d1 d2
  have hSw := h1 S h2
  have HL := Lib.hid (fun k (hk : k < s.l.length) => h4.rc hk)
  obtain ⟨A, c, rfl, hcl, _⟩ := h4.shape
  have HC1 := Lib.hid (fun (W : World) (hb : Below w.heap.size w W) => (hb.cell (p := ⟨S, 1, none⟩) hSw).trans d1)
  have HC2 := Lib.hid (fun (W : World) (hb : Below w.heap.size w W) => (hb.cell (p := ⟨S, 2, none⟩) hSw).trans d2)
  have HNX := Lib.hid (fun k (hk : k < s.l.length) => hl_next s hk)
  have HEN := Lib.hid (show (s.l.take s.l.length).map (·.i) = rcHl s by rw [List.take_length]; rfl)
  have HLN := Lib.hid (show (rcHl s).length ≤ 9999 by unfold rcHl; rw [List.length_map]; exact hn)
  clear later hp h0 h1 h2 h3 h4 d1 d2
  unfold Calm at *
  obtain ⟨a1, ha1⟩ : ∃ a1, (rcAk s.nx s.l).1 = a1 := ⟨_, rfl⟩
  obtain ⟨a2, ha2⟩ : ∃ a2, (rcAk s.nx s.l).2 = a2 := ⟨_, rfl⟩
  rw [ha1, ha2] at HPA HRA
  generalize rcHo s.l id = ho at *
  generalize rcHl s = ids at *
  clear ha1 ha2
  obtain ⟨s1, nx, l⟩ := s
  simp only at hn HPE HL hcl HC1 HC2 HNX HEN
  obtain ⟨n, hN⟩ : ∃ n, l.length = n := ⟨_, rfl⟩
  have HN := Lib.hid hN
  rw [hN] at HC2 HEN
  have hnn : n ≤ 9999 := by omega
  clear hN hn hcl
  go_enter Try.func16, Try.ntmps16
  go_wp2_with fail
  go_loopw [7, 8] (fun s7 s8 wr => ∃ (k : Nat) (A1 : Option Addr) (c1 : Nat), k ≤ n ∧ s8 = .int .i64 k ∧ s7 = .slice A1 k c1 ∧ Hid (wr.ownsRow w.heap.size 3 1 (.slice A1 k c1) k (srs csI ((l.take k).map (·.i)))) ∧ Hid (Below w.heap.size w wr)) (fun _ s8 _ => n - (intOf s8).toNat)
  case atStart => exact ⟨0, none, 0, Nat.zero_le _, rfl, rfl, Lib.hid (World.ownsRow_nil _ _ _ _), Lib.hid (Below.refl _ _)⟩
  case round =>
    obtain ⟨k, A1, c1, hk, rfl, rfl, HRW, HW⟩ := hrel
    have dd2 := HC2.out wr HW.out
    by_cases hlt : k < n
    · have hlt' : (k : Int) < n := by omega
      have hk0 : (0 : Int) ≤ k := by omega
      have hkl : k < l.length := by have := HN.out; omega
      obtain ⟨bb, off, c', e1, _, _, hbw, _, q1⟩ := HL.out k hkl
      obtain ⟨rfl, rfl⟩ : A = some ⟨bb, off, none⟩ ∧ c = c' := by simpa using e1
      have dq := (HW.out.cell (p := ⟨bb, off + k * 2 + 1, none⟩) hbw).trans q1
      have hnx := HNX.out k hkl
      generalize l[k].i = xi at *
      obtain ⟨A2, c2, w2, hrun, hv2, hb2⟩ := intElt.app_new xi HRW.out (by omega) HW.out.size
      have HR2 := Lib.hid (show w2.ownsRow w.heap.size 3 1 (.slice A2 (k + 1) c2) (k + 1) (srs csI ((l.take (k + 1)).map (·.i))) by rw [hnx]; exact hv2)
      have HW2 := Lib.hid (HW.out.trans hb2)
      unfold csI at hrun
      clear HL e1 q1 hnx hv2 hb2 HRW HPA HRA HPE HPH HPO HRO HC1 HC2 HNX HEN HLN HN
      go_wp2_with (at_builtin; refine wpList_append_run rfl (.tmp 18) (.tmp 27) 22 rfl rfl rfl hrun ?_)
      go_roundw
      case rel => exact ⟨k + 1, A2, c2, by omega, by go_num, rfl, HR2, HW2⟩
      case measure => simp [intOf]; omega
    · obtain rfl : k = n := by omega
      have hrow := HRW.out
      rw [HEN.out] at hrow
      have hlen : ids.length = k := by have := hrow.1; rw [srs_len intElt.len] at this; omega
      have HID := Lib.hid (fun (W : World) (hb : Below wr.drew.heap.size wr.drew W) => ((intElt.row_ls hrow hlen.symm).any (fun b hb => hb.2)).later ((Below.refl _ wr).drew.trans hb))
      obtain ⟨vI, hvI⟩ : ∃ vI, Value.slice A1 k c1 = vI := ⟨_, rfl⟩
      rw [hvI] at HID
      have HBW := Lib.hid (fun (W : World) (hb : Below wr.drew.heap.size wr.drew W) => (HW.out.trans (((Below.refl _ wr).drew.trans hb).mono HW.out.size) : Below w.heap.size w W))
      have HC0 := Lib.hid (show SmC wr.drew 30 wr.drew from Below.refl _ _)
      clear HRW HNX HEN HL hrow hlen dd2 HN
      have dd2 := HC2.out wr HW.out
      go_wp2_with fail
      rw [hvI]
      refine wp_region_loose 58 (by kernel_rfl) (by kernel_rfl) (SmC wr.drew) SmR (SmV R S a1 a2 nx id ho ids vI) rfl (fun i v w w' h hv => SmV.keep i v w w' h hv) HC0.out ?_ ?_
      · simp only [OblAll]
        refine ⟨?_, ?_, ?_, ?_, ?_, ?_, ?_, ?_, ?_, ?_, ?_, ?_, ?_, ?_, ?_, ?_, ?_, ?_, ?_, ?_, ?_, ?_, ?_, ?_, ?_, ?_, ?_, ?_, ?_, ?_, trivial⟩
        all_goals
          intro fu wx vals hC hp
          simp [predL, predE, Region.binds, PreV, SmV] at hp
          simp only [fillA, if_true, Act.put]
          simp
          have HCx := Lib.hid hC
        · clear hp hC
          go_wp2
          exact ⟨rfl, HCx.out, Below.refl _ _, rfl⟩
        · have HX := Lib.hid (HPA.out wx (HBW.out wx hC))
          simp only [hp]
          clear hp hC
          go_wp2_with fail
          (with_reducible refine HX.out.mono ?_); rintro e w9 ⟨rfl, hb⟩
          have HB := Lib.hid hb
          clear hb
          go_wp2
          exact ⟨rfl, HCx.out.trans (HB.out.mono HCx.out.size), HB.out, rfl⟩
        · clear hp hC
          go_wp2
          exact ⟨rfl, HCx.out, Below.refl _ _, rfl⟩
        · have HX := Lib.hid (HRA.out wx (HBW.out wx hC))
          simp only [hp]
          clear hp hC
          go_wp2_with fail
          (with_reducible refine HX.out.mono ?_); rintro e w9 ⟨rfl, hb⟩
          have HB := Lib.hid hb
          clear hb
          go_wp2
          exact ⟨rfl, HCx.out.trans (HB.out.mono HCx.out.size), HB.out, rfl⟩
        · simp only [hp]
          clear hp hC
          go_wp2
          exact ⟨rfl, HCx.out, Below.refl _ _, rfl⟩
        · simp only [hp]
          clear hp hC
          go_wp2
          exact ⟨rfl, HCx.out, Below.refl _ _, rfl⟩
        · simp only [hp]
          clear hp hC
          go_wp2
          exact ⟨rfl, HCx.out, Below.refl _ _, rfl⟩
        · have HX := Lib.hid (HPE.out wx (HBW.out wx hC))
          simp only [hp]
          clear hp hC
          go_wp2_with fail
          (with_reducible refine HX.out.mono ?_); rintro e w9 ⟨rfl, hb⟩
          have HB := Lib.hid hb
          clear hb
          go_wp2
          exact ⟨rfl, HCx.out.trans (HB.out.mono HCx.out.size), HB.out, rfl⟩
        · simp only [hp]
          clear hp hC
          go_wp2
          exact ⟨rfl, HCx.out, Below.refl _ _, rfl⟩
        · simp only [hp]
          clear hp hC
          go_wp2
          exact ⟨rfl, HCx.out, Below.refl _ _, rfl⟩
        · simp only [hp]
          clear hp hC
          go_wp2
          exact ⟨rfl, HCx.out, Below.refl _ _, rfl⟩
        · have x1 := HC1.out wx (HBW.out wx hC)
          simp only [hp]
          clear hp hC
          go_wp2
          exact ⟨rfl, HCx.out, Below.refl _ _, rfl⟩
        · have hnn9 : (nx == nx) = true := by simp
          simp only [hp]
          clear hp hC
          go_wp2
          exact ⟨rfl, HCx.out, Below.refl _ _, rfl⟩
        · simp only [hp]
          clear hp hC
          go_wp2
          exact ⟨rfl, HCx.out, Below.refl _ _, rfl⟩
        · simp only [hp]
          clear hp hC
          go_wp2
          exact ⟨rfl, HCx.out, Below.refl _ _, rfl⟩
        · simp only [hp]
          clear hp hC
          go_wp2
          exact ⟨rfl, HCx.out, Below.refl _ _, rfl⟩
        · have HX := Lib.hid (HPH.out wx (HBW.out wx hC))
          simp only [hp]
          clear hp hC
          go_wp2_with fail
          (with_reducible refine HX.out.mono ?_); intro e w9 hg
          obtain ⟨v9, rfl, hr9, hb⟩ := GotLs.any hg
          have HB := Lib.hid hb
          have HR9 := Lib.hid hr9
          clear hb hr9 hg
          go_wp2
          exact ⟨rfl, HCx.out.trans (HB.out.mono HCx.out.size), HB.out, HR9.out⟩
        · simp only [hp]
          clear hp hC
          go_wp2
          exact ⟨rfl, HCx.out, Below.refl _ _, rfl⟩
        · have hp1 : LsA csI 1 3 (vals 16) ids wx := by simp [hp]
          have hx := eqI_any (by have := HLN.out; omega) hp1 (HID.out wx hC)
          unfold Calm at hx
          have HX := Lib.hid hx
          simp only [hp]
          clear hp hC hx hp1
          generalize vals 16 = v16 at *
          go_wp2_with fail
          (with_reducible refine HX.out.mono ?_); rintro e w9 ⟨rfl, hb⟩
          have HB := Lib.hid hb
          clear hb
          go_wp2
          exact ⟨rfl, HCx.out.trans (HB.out.mono HCx.out.size), HB.out, rfl⟩
        · simp only [hp]
          clear hp hC
          go_wp2
          exact ⟨rfl, HCx.out, Below.refl _ _, rfl⟩
        · simp only [hp]
          clear hp hC
          go_wp2
          exact ⟨rfl, HCx.out, Below.refl _ _, rfl⟩
        · simp only [hp]
          clear hp hC
          go_wp2
          exact ⟨rfl, HCx.out, Below.refl _ _, rfl⟩
        · simp only [hp]
          clear hp hC
          go_wp2
          exact ⟨rfl, HCx.out, Below.refl _ _, rfl⟩
        · have HX := Lib.hid (HPO.out wx (HBW.out wx hC))
          simp only [hp]
          clear hp hC
          go_wp2_with fail
          (with_reducible refine HX.out.mono ?_); rintro e w9 ⟨rfl, hb⟩
          have HB := Lib.hid hb
          clear hb
          go_wp2
          exact ⟨rfl, HCx.out.trans (HB.out.mono HCx.out.size), HB.out, rfl⟩
        · simp only [hp]
          clear hp hC
          go_wp2
          exact ⟨rfl, HCx.out, Below.refl _ _, rfl⟩
        · simp only [hp]
          clear hp hC
          go_wp2
          exact ⟨rfl, HCx.out, Below.refl _ _, rfl⟩
        · have HX := Lib.hid (HRO.out wx (HBW.out wx hC))
          simp only [hp]
          clear hp hC
          go_wp2_with fail
          (with_reducible refine HX.out.mono ?_); rintro e w9 ⟨rfl, hb⟩
          have HB := Lib.hid hb
          clear hb
          go_wp2
          exact ⟨rfl, HCx.out.trans (HB.out.mono HCx.out.size), HB.out, rfl⟩
        · have hbb9 : (ho == ho) = true := by simp
          simp only [hp]
          clear hp hC
          go_wp2
          exact ⟨rfl, HCx.out, Below.refl _ _, rfl⟩
        · simp only [hp]
          clear hp hC
          go_wp2
          exact ⟨rfl, HCx.out, Below.refl _ _, rfl⟩
        · simp only [hp]
          clear hp hC
          go_wp2
          exact ⟨rfl, HCx.out, Below.refl _ _, rfl⟩
      · intro wz vals hC hV
        have e29 := hV 29 (by simp)
        simp only [SmV] at e29
        have HF := Lib.hid (HBW.out wz hC)
        simp only [fillA, if_true, Act.put]
        simp
        simp only [e29]
        clear e29 hV hC HC0
        go_wp2
        go_ret
        exact ⟨rfl, HF.out⟩
end Go.Proofs.Ythmncipenjhknaa

