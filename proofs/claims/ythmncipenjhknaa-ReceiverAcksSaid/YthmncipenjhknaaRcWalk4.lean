/-
  Layer 17: the walk of the statement on acknowledgements (ReceiverAcks). Every input; no condition.
-/
import Derived.Test.YthmncipenjhknaaRcHas
import Derived.Test.YthmncipenjhknaaRcBits
import Derived.Test.YthmncipenjhknaaInvR
import Derived.Laws.StructEq
import Derived.Deep.LoopGhost
import Derived.LoopTactic
namespace Go.Proofs.Ythmncipenjhknaa
open Go.ChangeShapes Go.WideShapes Go.ChangeAt Go.RowKit
set_option linter.unusedVariables false

/-- What is known of the receiver and of what has come. -/
structure AckR (j : Nat) (s : RcS) (L : List Int) : Prop where
  a : RcAs s 16
  w : s.w = 16
  n : s.l.length ≤ j
  b : L.length ≤ j
  l : ∀ k : Int, 0 ≤ k → k < 16 → ((k < s.nx ∨ ∃ x ∈ s.l, x.q = k) ↔ k ∈ L)
theorem AckR.new : AckR 0 (RcS.new 16) [] := ⟨RcAs.new ⟨by decide, by decide⟩ ⟨by decide, by decide⟩, rfl, by simp [RcS.new], by simp, fun k h0 h1 => by simp [RcS.new]; omega⟩
theorem AckR.next {j : Nat} {s : RcS} {L : List Int} (h : AckR j s L) {q : Int} (q0 : 0 ≤ q) (q1 : q < 16) : rcRvE s 0 q (q + 1) = 0 ∧ AckR (j + 1) (s.rcv 0 q (q + 1)) (L ++ [q]) := by
  have hn := h.a.nx
  obtain ⟨r1, r2, r3, _, _, _, _, r8⟩ := h.a.rcv (b := 0) (q := q) ⟨by omega, by omega⟩ (by rw [h.w]; omega) (by rw [h.w]; omega)
  refine ⟨r1, r2, r3.trans h.w, ?_, ?_, fun k k0 k1 => ?_⟩
  · have := rcv_len s 0 q (q + 1); have := h.n; omega
  · have := h.b; simp; omega
  · rw [r8, List.mem_append, List.mem_singleton, ← h.l k k0 k1]
    constructor
    · rintro (h1 | h1 | h1 | h1)
      · exact .inl (.inl h1)
      · omega
      · exact .inl (.inr h1)
      · exact .inr h1
    · rintro ((h1 | h1) | h1)
      · exact .inl h1
      · exact .inr (.inr (.inl h1))
      · exact .inr (.inr (.inr h1))
set_option maxRecDepth 100000 in
set_option maxHeartbeats 16000000 in
theorem walkAcks17 (A : Option Addr) (len cap : Nat) (w : World) (he : Elems w.heap.size A len w) :
    Calls Try.prog 6 #[.slice A len cap] w (Calm (.bool true) w) := by
  have h0 := GenP.new (w0 := w) (cap := cap) he (Below.refl _ _) he
  have HX := Lib.hid (h0.emp.call ((prnew_any (wi := 16) (by decide)).star GenP.frm))
  have HAW := Lib.hid (fun w => awake17_any w)
  clear h0 he
  unfold Calm at *
  go_enter Try.func6, Try.ntmps6
  go_wp2_with fail
  (with_reducible refine (new_any A len cap _).mono ?_); rintro e w' ⟨rfl, rfl⟩
  go_wp2_with fail
  (with_reducible refine HX.out.mono ?_); rintro e w1 ⟨R, rfl, h1⟩
  have HI := Lib.hid (show Inv w.heap.size w (Star (RowP csI 1 3 w.heap.size (.slice none 0 0) []) (Star (RcP R (RcS.new 16)) (GenP w.heap.size w.heap.size A len cap 0))) w1 from h1.row0)
  clear h1 HX
  go_wp2_with fail
  go_loopw [6, 7] (fun s6 s7 wr => ∃ (j : Nat) (s : RcS) (L : List Int) (A6 : Option Addr) (c6 : Nat), j ≤ 20 ∧ s7 = .int .i64 j ∧ s6 = .slice A6 L.length c6 ∧ Hid (AckR j s L) ∧ Hid (Inv w.heap.size w (Star (RowP csI 1 3 w.heap.size (.slice A6 L.length c6) L) (Star (RcP R s) (GenP w.heap.size w.heap.size A len cap j))) wr)) (fun _ s7 _ => 20 - (intOf s7).toNat)
  case atStart => exact ⟨0, RcS.new 16, [], none, 0, by omega, rfl, rfl, Lib.hid AckR.new, HI⟩
  case round =>
    obtain ⟨j, s, L, A6, c6, hj, rfl, rfl, HR, HS⟩ := hrel
    clear HI
    by_cases hlt : j < 20
    · have hlt' : (j : Int) < 20 := by omega
      have HX := Lib.hid (HS.out.call (Acts.right RowP.frm (Acts.right RcP.frm (GenP.next (n := 16) (by omega) (by omega) (by omega)))))
      clear HS
      go_wp2_with fail
      (with_reducible refine HX.out.mono ?_); rintro e w2 ⟨⟨r, r0, r1⟩, rfl, h1⟩
      have hwr : IntKind.i64.wrap (r + 1) = r + 1 := IntWalk.i64_in _ (by omega)
      have hsl : s.l.length ≤ 9999 := by have := HR.out.n; omega
      have hLn : L.length ≤ 9999 := by have := HR.out.b; omega
      have HX := Lib.hid (Inv.call h1 (Acts.right RowP.frm ((prrcv_any hsl 0 r (r + 1)).star GenP.frm)))
      obtain ⟨hE, hR2⟩ := HR.out.next r0 r1
      have HR2 := Lib.hid hR2
      clear h1 hR2 HR
      rw [hE] at HX
      go_wp2_with fail
      (with_reducible refine HX.out.mono ?_); rintro e w3 ⟨v3, rfl, h1⟩
      have h2 := (h1.imp fun T => Star.mapR fun A => Star.assoc).imp fun T => Star.pick2
      obtain ⟨A7, c7, w4, hrun, h4⟩ := Inv.app intElt h2.drop (RcP.frm.star GenP.frm) (by omega) r
      unfold csI at hrun
      clear h1 h2 hE HX
      generalize s.rcv 0 r (r + 1) = s2 at *
      have hsl2 : s2.l.length ≤ 9999 := by have := HR2.out.n; omega
      obtain ⟨T9, hp9⟩ : ∃ T, RcP R s2 T w4 := by
        obtain ⟨T, _, _, _, _, _, A2, B2, _, _, hp, _⟩ := h4.get
        exact ⟨A2, hp⟩
      have HX := Lib.hid (Inv.calm h4 (RowP.frm.star (RcP.frm.star GenP.frm)) (pracks_any hsl2 hp9))
      have HSEEN := Lib.hid (fun (k : Int) (k0 : 0 ≤ k) (k1 : k < 16) => HR2.out.a.seen HR2.out.l k0 k1)
      have HWD := Lib.hid (rcAk_wd s2.nx s2.l)
      obtain ⟨ab, hab⟩ : ∃ ab, (rcAk s2.nx s2.l).1 = ab := ⟨_, rfl⟩
      obtain ⟨ax, hax⟩ : ∃ ax, (rcAk s2.nx s2.l).2 = ax := ⟨_, rfl⟩
      rw [hab, hax] at HX HSEEN
      rw [hax] at HWD
      have hL2 : (L ++ [r]).length = L.length + 1 := by simp
      generalize L ++ [r] = L2 at *
      have hl2 : L2.length ≤ 9999 := by have := HR2.out.b; omega
      clear h4 hp9 hab hax
      go_wp2_with (at_builtin; refine wpList_append_run rfl (.tmp 34) (.tmp 36) 22 rfl rfl rfl hrun ?_)
      clear hrun
      (with_reducible refine HX.out.mono ?_); rintro e w5 ⟨rfl, h5⟩
      have h6 := h5.step (RowP.frm.star (RcP.frm.star GenP.frm)) ((Below.refl w5.heap.size w5).alloc (Nat.le_refl _) (.cells #[.int .i64 ab, .int .u64 ax] 49))
      have HLA := Lib.hid (fun (W : World) (hw : Below (w5.alloc (.cells #[.int .i64 ab, .int .u64 ax] 49)).heap.size (w5.alloc (.cells #[.int .i64 ab, .int .u64 ax] 49)) W) => hasI_any (by omega) ((Inv.rowA intElt h6).later hw))
      have hfr := Whole.fresh w5 49 #[.int .i64 ab, .int .u64 ax]
      have HBM := Lib.hid (fun (W : World) (hw : Below (w5.alloc (.cells #[.int .i64 ab, .int .u64 ax] 49)).heap.size (w5.alloc (.cells #[.int .i64 ab, .int .u64 ax] 49)) W) => (by
        have h9 := hfr.later hw
        exact ⟨(h9.read 0).trans rfl, (h9.read 1).trans rfl⟩ : W.cell? ⟨w5.heap.size, 0, none⟩ = some (.int .i64 ab) ∧ W.cell? ⟨w5.heap.size, 1, none⟩ = some (.int .u64 ax)))
      have HS6 := Lib.hid h6
      unfold Calm at HLA
      clear h5 h6 hfr HX hwr
      have HL2 := Lib.hid hL2
      clear hL2
      go_wp2_with fail
      obtain ⟨wo, hwo⟩ : ∃ wo, w5.alloc (.cells #[.int .i64 ab, .int .u64 ax] 49) = wo := ⟨_, rfl⟩
      rw [hwo] at HLA HBM HS6 ⊢
      clear hwo
      go_loopw [10] (fun s10 wr => ∃ k : Nat, k ≤ 16 ∧ s10 = .int .i64 k ∧ Hid (Below wo.heap.size wo wr)) (fun s10 _ => 16 - (intOf s10).toNat)
      case atStart => exact ⟨0, by omega, rfl, Lib.hid (Below.refl _ _)⟩
      case round =>
        obtain ⟨k, hk, rfl, HB⟩ := hrel
        by_cases hlk : k < 16
        · have hlk' : (k : Int) < 16 := by omega
          have hk0 : (0 : Int) ≤ k := by omega
          obtain ⟨m0, m1⟩ := HBM.out wr HB.out
          have hseen := HSEEN.out k hk0 hlk'
          have HBF := Lib.hid (fun W => refBefore_any (k : Int) ab W)
          have HHS := Lib.hid (fun W => refHas_any ab ax (k : Int) HWD.out W)
          have HLA2 := Lib.hid (fun (W : World) (hw : Below wo.heap.size wo W) => HLA.out W hw (k : Int))
          clear HSEEN HBM HLA
          generalize befB (k : Int) ab = b1 at *
          generalize hasB ab ax (k : Int) = b2 at *
          generalize L2.any (fun y => y == (k : Int)) = b3 at *
          cases b1
          · go_wp2_with fail
            (with_reducible refine (HBF.out _).mono ?_); rintro e w9 ⟨rfl, rfl⟩
            clear HBF
            go_wp2_with fail
            (with_reducible refine (HHS.out _).mono ?_); rintro e w9 ⟨rfl, hb⟩
            have HB2 := Lib.hid (HB.out.trans (hb.mono HB.out.size))
            have HX := Lib.hid (HLA2.out _ HB2.out)
            clear hb HHS m0 m1 HLA2 HB
            rw [Bool.false_or] at hseen
            subst hseen
            go_wp2_with fail
            (with_reducible refine HX.out.mono ?_); rintro e w10 ⟨rfl, hb⟩
            have HB3 := Lib.hid (HB2.out.trans (hb.mono HB2.out.size))
            have hxx : (b2 != b2) = false := by simp
            clear hb HX HB2
            go_wp2
            go_roundw
            case rel => exact ⟨k + 1, by omega, by go_num, HB3⟩
            case measure => simp [intOf]; omega
          · rw [Bool.true_or] at hseen
            subst hseen
            have HX := Lib.hid (HLA2.out _ HB.out)
            clear HLA2 HHS
            go_wp2_with fail
            (with_reducible refine (HBF.out _).mono ?_); rintro e w9 ⟨rfl, rfl⟩
            clear HBF
            go_wp2_with fail
            (with_reducible refine HX.out.mono ?_); rintro e w10 ⟨rfl, hb⟩
            have HB3 := Lib.hid (HB.out.trans (hb.mono HB.out.size))
            clear hb HX HB m0 m1
            go_wp2
            go_roundw
            case rel => exact ⟨k + 1, by omega, by go_num, HB3⟩
            case measure => simp [intOf]; omega
        · obtain rfl : k = 16 := by omega
          have HS7 := Lib.hid (HS6.out.step (RowP.frm.star (RcP.frm.star GenP.frm)) HB.out)
          rw [← HL2.out] at HS7
          clear HSEEN HBM HLA HB HS6
          go_wp2
          go_roundw
          case rel => exact ⟨j + 1, s2, L2, A7, c7, by omega, by go_num, by rw [HL2.out], HR2, HS7⟩
          case measure => simp [intOf]; omega
    · obtain rfl : j = 20 := by omega
      have HB := Lib.hid HS.out.out
      clear HS HR
      go_wp2_with fail
      (with_reducible refine (HAW.out _).mono ?_); rintro e w11 ⟨rfl, hb⟩
      have HF := Lib.hid (HB.out.trans (hb.mono HB.out.size))
      clear hb HB
      go_wp2
      go_ret
      exact ⟨rfl, HF.out⟩
end Go.Proofs.Ythmncipenjhknaa

