/-
  Layer 15: the walk of the statement on the last state and on windows (ChannelLast). Every input; no condition.
-/
import Derived.Test.YtaohfcchejedkaaChAwake
namespace Go.Proofs.Ytaohfcchejedkaa
open Go.ChangeShapes Go.WideShapes Go.ChangeAt Go.RowKit
set_option linter.unusedVariables false

/-- Three channels of the program. -/
def E3 (X Y Z : Nat) (s t u : Ch) : RP := Star (ChP X s) (Star (ChP Y t) (Star (ChP Z u) Emp))
section
variable {base X Y Z : Nat} {s t u : Ch} {w w0 : World}
theorem E3.frm : Frm base (E3 X Y Z s t u) := ChP.frm.star (ChP.frm.star (ChP.frm.star Frm.emp))
theorem E3.px (h : Inv base w0 (E3 X Y Z s t u) w) (hn : s.l.length ≤ 99999) : Calls Try.prog 20 #[.pointer (some ⟨X, 0, none⟩)] w fun e w' => e = .returned (.bool (prB s)) ∧ Inv base w0 (E3 X Y Z s t u) w' :=
  Inv.ppred h (ChP.frm.star (ChP.frm.star Frm.emp)) (by omega)
theorem E3.py (h : Inv base w0 (E3 X Y Z s t u) w) (hn : t.l.length ≤ 99999) : Calls Try.prog 20 #[.pointer (some ⟨Y, 0, none⟩)] w fun e w' => e = .returned (.bool (prB t)) ∧ Inv base w0 (E3 X Y Z s t u) w' :=
  Inv.call1 h (Acts.right ChP.frm ((Acts.calm ChP.frm fun T w h => ppred_any (by omega) h).star (ChP.frm.star Frm.emp)))
theorem E3.pz (h : Inv base w0 (E3 X Y Z s t u) w) (hn : u.l.length ≤ 99999) : Calls Try.prog 20 #[.pointer (some ⟨Z, 0, none⟩)] w fun e w' => e = .returned (.bool (prB u)) ∧ Inv base w0 (E3 X Y Z s t u) w' :=
  Inv.call1 h (Acts.right ChP.frm (Acts.right ChP.frm ((Acts.calm ChP.frm fun T w h => ppred_any (by omega) h).star Frm.emp)))
theorem E3.ox (h : Inv base w0 (E3 X Y Z s t u) w) (hn : s.l.length ≤ 99999) (g : Bool) : Calls Try.prog 17 #[.pointer (some ⟨X, 0, none⟩), .bool g] w fun e w' => e = .returned (.tuple #[]) ∧ Inv base w0 (E3 X Y Z (s.obs g) t u) w' :=
  Inv.call1 h ((pobs_any hn g).star (ChP.frm.star (ChP.frm.star Frm.emp)))
theorem E3.oy (h : Inv base w0 (E3 X Y Z s t u) w) (hn : t.l.length ≤ 99999) (g : Bool) : Calls Try.prog 17 #[.pointer (some ⟨Y, 0, none⟩), .bool g] w fun e w' => e = .returned (.tuple #[]) ∧ Inv base w0 (E3 X Y Z s (t.obs g) u) w' :=
  Inv.call1 h (Acts.right ChP.frm ((pobs_any hn g).star (ChP.frm.star Frm.emp)))
theorem E3.oz (h : Inv base w0 (E3 X Y Z s t u) w) (hn : u.l.length ≤ 99999) (g : Bool) : Calls Try.prog 17 #[.pointer (some ⟨Z, 0, none⟩), .bool g] w fun e w' => e = .returned (.tuple #[]) ∧ Inv base w0 (E3 X Y Z s t (u.obs g)) w' :=
  Inv.call1 h (Acts.right ChP.frm (Acts.right ChP.frm ((pobs_any hn g).star Frm.emp)))
end
/-- All of the states from a up to j. -/
def alK (l : List Bool) (a j : Nat) : Bool := ((l.take j).drop a).all id
theorem alK_start (l : List Bool) (a : Nat) : alK l a a = true := by
  unfold alK
  have : (l.take a).drop a = [] := List.drop_of_length_le (by rw [List.length_take]; omega)
  rw [this]; rfl
theorem alK_next {l : List Bool} {a j : Nat} (h1 : a ≤ j) (h2 : j < l.length) : alK l a (j + 1) = (alK l a j && l[j]) := by
  unfold alK
  rw [List.take_add_one, List.getElem?_eq_getElem h2, List.drop_append_of_le_length (by rw [List.length_take]; omega), List.all_append]
  simp
theorem alK_end {l : List Bool} {i K : Nat} (hi : i ≤ l.length) : alK l (i - K) i = (lastN (l.take i) K).all id := by
  unfold alK lastN
  rw [List.length_take, Nat.min_eq_left hi]
structure L3 (l : List Bool) (K i : Nat) (s t u : Ch) : Prop where
  sp : s.p.k = 0
  tp : t.p = ⟨1, 1, 1⟩
  up : u.p = ⟨1, K, K⟩
  sl : s.l = l.take i
  tl : t.l = l.take i
  ul : u.l = l.take i
theorem L3.ps {l : List Bool} {K i : Nat} {s t u : Ch} (h : L3 l K i s t u) (hK : 0 < K) : prB s = laB (l.take i) ∧ prB t = laB (l.take i) ∧ prB u = (lastN (l.take i) K).all id := by
  refine ⟨?_, ?_, ?_⟩
  · rw [pr_last (by rw [h.sp]; omega) (by rw [h.sp]; omega), h.sl]
  · rw [pr_window (by rw [h.tp]), h.tp, h.tl]; exact win_one _
  · rw [pr_window (by rw [h.up]), h.up, h.ul]; exact win_all _ K hK
theorem L3.obs {l : List Bool} {K i : Nat} {s t u : Ch} (h : L3 l K i s t u) (hi : i < l.length) : L3 l K (i + 1) (s.obs l[i]) (t.obs l[i]) (u.obs l[i]) := by
  have e : l.take (i + 1) = l.take i ++ [l[i]] := by rw [List.take_add_one, List.getElem?_eq_getElem hi]; rfl
  exact ⟨h.sp, h.tp, h.up, by rw [e, ← h.sl]; rfl, by rw [e, ← h.tl]; rfl, by rw [e, ← h.ul]; rfl⟩
theorem L3.len {l : List Bool} {K i : Nat} {s t u : Ch} (h : L3 l K i s t u) (hi : i ≤ l.length) : s.l.length = i ∧ t.l.length = i ∧ u.l.length = i := by
  rw [h.sl, h.tl, h.ul, List.length_take]; omega
theorem la_take {l : List Bool} {i : Nat} (hi : i < l.length) : laB (l.take (i + 1)) = l[i] := by
  have e : l.take (i + 1) = l.take i ++ [l[i]] := by rw [List.take_add_one, List.getElem?_eq_getElem hi]; rfl
  rw [e, la_snoc]
set_option maxRecDepth 100000 in
set_option maxHeartbeats 8000000 in
theorem walkLast15 (A1 : Option Addr) (cap1 : Nat) (l : List Bool) (n : Int) (w : World) (n0 : 0 ≤ n) (n1 : n ≤ 255) (hn1 : l.length ≤ 9223372036854775807) (ha : SrAt csB 1 w 0 w.heap.size A1 l) :
    Calls Try.prog 6 #[.slice A1 l.length cap1, .int .u8 n] w (Calm (.bool true) w) := by
  have h0 : Inv w.heap.size w Emp w := Inv.start (T := fun _ => False) (fun k h => h) (fun k h => h.elim) (Below.refl _ _)
  have HAW := Lib.hid (fun w => awake15_any w)
  have HR := Lib.hid (fun (W : World) (hb : Below w.heap.size w W) i (hi : i < l.length) => (by
    obtain ⟨b, off, e, _, h2, h3⟩ := ha.bl hi
    exact ⟨b, off, e, (hb.cell (p := ⟨b, _, none⟩) h2).trans h3⟩ : ∃ b off, A1 = some ⟨b, off, none⟩ ∧ W.cell? ⟨b, off + i, none⟩ = some (.bool l[i])))
  obtain ⟨K, hK⟩ : ∃ K : Nat, 1 + Int.tmod n 8 = K := ⟨(1 + Int.tmod n 8).toNat, by have := Int.tmod_nonneg 8 n0; omega⟩
  have hm0 := Int.tmod_nonneg 8 n0
  have hm1 := Int.tmod_lt_of_pos n (show (0 : Int) < 8 by omega)
  have hK1 : 1 ≤ K ∧ K ≤ 8 := by omega
  have HK1 := Lib.hid hK1
  obtain ⟨r, hr⟩ : ∃ r, Int.tmod n 8 = r := ⟨_, rfl⟩
  have hr2 : n % 8 = r := by rw [← hr, Int.tmod_eq_emod_of_nonneg n0]
  rw [hr] at hK hm0 hm1
  have hw1 : IntKind.i64.wrap (1 + r) = (K : Int) := by rw [hK]; exact IntWalk.i64_in _ (by omega)
  have hw2 : IntKind.i64.wrap r = r := IntWalk.i64_in _ (by omega)
  have HX := h0.pnew Frm.emp (p := ⟨0, 0, 0⟩) rfl
  unfold aggPd at HX
  simp only at HX
  have HX := Lib.hid HX
  obtain ⟨N, hN⟩ : ∃ N, l.length = N := ⟨_, rfl⟩
  have HN := Lib.hid hN
  rw [hN] at hn1 ⊢
  unfold Calm
  clear h0 ha hN hK
  go_enter Try.func6, Try.ntmps6
  go_wp2_with fail
  (with_reducible refine HX.out.mono ?_); rintro e w1 ⟨X, rfl, h1⟩
  have HX2 := h1.pnew (ChP.frm.star Frm.emp) (p := ⟨1, 1, 1⟩) rfl
  unfold aggPd at HX2
  simp only at HX2
  have HX2 := Lib.hid HX2
  clear h1 HX
  go_wp2_with fail
  (with_reducible refine HX2.out.mono ?_); rintro e w2 ⟨Y, rfl, h1⟩
  have hp3 : pdB ⟨1, K, K⟩ = true := pd_of (.inr ⟨rfl, by show 1 ≤ (K : Int) ∧ (K : Int) ≤ 32; omega, by show 1 ≤ (K : Int) ∧ (K : Int) ≤ K; omega⟩)
  have HX3 := h1.pnew (ChP.frm.star (ChP.frm.star Frm.emp)) hp3
  unfold aggPd at HX3
  simp only at HX3
  have HX3 := Lib.hid HX3
  clear h1 HX2 hp3
  go_wp2_with fail
  (with_reducible refine HX3.out.mono ?_); rintro e w3 ⟨Z, rfl, h1⟩
  have HI := Lib.hid (show Inv w.heap.size w (E3 X Y Z (Ch.new ⟨0, 0, 0⟩) (Ch.new ⟨1, 1, 1⟩) (Ch.new ⟨1, K, K⟩)) w3 from h1.imp fun T h => Star.mapR (fun _ => Star.pick2) (Star.pick2 (Star.mapR (fun _ => Star.pick2) h)) )
  clear h1 HX3
  by_cases h200 : 200 < N
  · have h200' : (200 : Int) < N := by omega
    have HF := Lib.hid HI.out.out
    clear HI
    go_wp2
    go_ret
    exact ⟨ret_bool (by simp <;> omega), HF.out⟩
  have h200' : ¬ (200 : Int) < N := by omega
  have hN200 : N ≤ 200 := by omega
  clear hw1 hw2 hr hr2 hm0 hm1
  go_wp2_with fail
  go_loopw [12] (fun s12 wr => ∃ (i : Nat) (s t u : Ch), i ≤ N ∧ s12 = .int .i64 i ∧ Hid (L3 l K i s t u) ∧ Hid (Inv w.heap.size w (E3 X Y Z s t u) wr)) (fun s12 _ => N - (intOf s12).toNat)
  case atStart => exact ⟨0, _, _, _, by omega, rfl, Lib.hid ⟨rfl, rfl, rfl, rfl, rfl, rfl⟩, HI⟩
  case round =>
    obtain ⟨i, s, t, u, hi, rfl, HL, HI2⟩ := hrel
    clear HI
    by_cases hlt : i < N
    · have hlt' : (i : Int) < N := by omega
      have hil : i < l.length := by have := HN.out; omega
      obtain ⟨a, ha⟩ : ∃ a, i - K = a := ⟨_, rfl⟩
      have HA := Lib.hid ha
      obtain ⟨ps, pt, pu⟩ := HL.out.ps (by omega)
      obtain ⟨ns, nt, nu⟩ := HL.out.len (by omega)
      have HE := Lib.hid (show prB u = alK l a i by rw [pu, ← ha]; exact (alK_end (by omega)).symm)
      have HPS := Lib.hid (And.intro ps pt)
      have HNS := Lib.hid (And.intro ns (And.intro nt nu))
      have hdiff : (i : Int) - K < 0 ∨ ((i : Int) - K ≤ 0 ∧ 0 ≤ (i : Int) - K) ∨ 0 < (i : Int) - K := by omega
      clear ps pt pu ns nt nu
      obtain ⟨d, hd⟩ : ∃ d, (i : Int) - K = d := ⟨_, rfl⟩
      rw [hd] at hdiff
      have hwd : IntKind.i64.wrap ((i : Int) - K) = d := by rw [hd]; exact IntWalk.i64_in _ (by omega)
      have HD := Lib.hid (show max d 0 = (a : Int) by omega)
      have HAI := Lib.hid (show a ≤ i by omega)
      clear hd ha
      rcases hdiff with hdf | ⟨hdf, hdf2⟩ | hdf
      · have had : a = 0 := by have := HD.out; omega
        go_wp2_with fail
        obtain ⟨wo, rfl⟩ : ∃ wo : World, wo = wr := ⟨_, rfl⟩
        go_loopw [13, 14] (fun s13 s14 wr => ∃ (j : Nat) (b : Bool), a ≤ j ∧ j ≤ i ∧ s14 = .int .i64 j ∧ s13 = .bool b ∧ Hid (alK l a j = b) ∧ Hid (wr = wo)) (fun _ s14 _ => i - (intOf s14).toNat)
        case atStart => exact ⟨a, true, Nat.le_refl _, HAI.out, congrArg (Value.int .i64) (by have := HD.out; omega), rfl, Lib.hid (alK_start l a), Lib.hid rfl⟩
        case round =>
          obtain ⟨j, b, haj, hji, rfl, rfl, HB, HW⟩ := hrel
          obtain rfl := HW.out
          by_cases hlj : j < i
          · have hlj' : (j : Int) < i := by omega
            have hjl : j < l.length := by have := HN.out; omega
            have hjN : j < N := by omega
            obtain ⟨bb, off, rfl, dj⟩ := HR.out wr HI2.out.out j hjl
            have hnx := alK_next haj hjl
            rw [HB.out] at hnx
            have HNX := Lib.hid hnx
            generalize l[j] = g at *
            clear hnx HB HW HR
            cases b
            · have HB2 : Hid (alK l a (j + 1) = false) := Lib.hid (by rw [HNX.out]; rfl)
              clear HNX
              go_wp2
              go_roundw
              case rel => exact ⟨j + 1, false, by omega, by omega, by go_num, rfl, HB2, (by first | exact Lib.hid rfl | exact Lib.hid trivial)⟩
              case measure => simp [intOf]; omega
            · have HB2 : Hid (alK l a (j + 1) = g) := Lib.hid (by rw [HNX.out]; rfl)
              clear HNX
              go_wp2
              go_roundw
              case rel => exact ⟨j + 1, g, by omega, by omega, by go_num, rfl, HB2, (by first | exact Lib.hid rfl | exact Lib.hid trivial)⟩
              case measure => simp [intOf]; omega
          · obtain rfl : j = i := by omega
            have hpu := HE.out.trans HB.out
            obtain ⟨bb, off, rfl, _⟩ := HR.out wr HI2.out.out j hil
            have HRk := Lib.hid (fun (W : World) (hb : Below w.heap.size w W) => (by
              obtain ⟨b', off', q1, q2⟩ := HR.out W hb j hil
              obtain ⟨rfl, rfl⟩ : bb = b' ∧ off = off' := by simpa using q1
              exact q2 : W.cell? ⟨bb, off + j, none⟩ = some (.bool l[j])))
            have HRp := Lib.hid (fun (m : Nat) (hm : j = m + 1) (W : World) (hb : Below w.heap.size w W) => (by
              obtain ⟨b', off', q1, q2⟩ := HR.out W hb m (by omega)
              obtain ⟨rfl, rfl⟩ : bb = b' ∧ off = off' := by simpa using q1
              have h9 := la_take (l := l) (i := m) (by omega)
              rw [← hm, ← HPS.out.1] at h9
              rw [h9]; exact q2 : W.cell? ⟨bb, off + m, none⟩ = some (.bool (prB s))))
            have HL2 := Lib.hid (HL.out.obs hil)
            have hst : prB t = prB s := HPS.out.2.trans HPS.out.1.symm
            have hs0 : j = 0 → prB s = true := fun h => by rw [HPS.out.1, h]; rfl
            obtain ⟨ns, nt, nu⟩ := HNS.out
            have h1 := E3.px HI2.out (by omega)
            obtain ⟨v, hv⟩ : ∃ v, prB s = v := ⟨_, rfl⟩
            rw [hv] at h1 hst hs0 HRp
            have HX := Lib.hid h1
            have HV := Lib.hid hv
            have HST := Lib.hid hst
            have HU := Lib.hid hpu
            clear h1 hv hst hpu HI2 HL HB HW HR HE HPS HNS
            go_wp2_with fail
            (with_reducible refine HX.out.mono ?_); rintro e w4 ⟨rfl, h1⟩
            have h2 := E3.py h1 (by omega)
            rw [HST.out] at h2
            have HX := Lib.hid h2
            clear h1 h2
            go_wp2_with fail
            (with_reducible refine HX.out.mono ?_); rintro e w5 ⟨rfl, h1⟩
            have h2 := E3.px h1 (by omega)
            rw [HV.out] at h2
            have HX := Lib.hid h2
            clear h1 h2
            have hvv : (v != v) = false := by simp
            obtain ⟨g, hg⟩ : ∃ g, l[j] = g := ⟨_, rfl⟩
            rw [hg] at HL2 HRk
            clear hg
            have hbb : (b != b) = false := by simp
            go_wp2_with fail
            (with_reducible refine HX.out.mono ?_); rintro e w6 ⟨rfl, h1⟩
            have h2 := E3.pz h1 (by omega)
            rw [HU.out] at h2
            have HZZ := Lib.hid h2
            have HI6 := Lib.hid h1.out
            clear h1 h2 HU HV HST HX
            rcases Nat.eq_zero_or_pos j with hj0 | hj0
            · have hz : ((j : Int) == 0) = true := by simp [hj0]
              obtain rfl := hs0 hj0
              have HJ0 := Lib.hid hj0
              clear hs0 HRp HI6 hj0
              go_wp2_with fail
              (with_reducible refine HZZ.out.mono ?_); rintro e w7 ⟨rfl, h1⟩
              clear HZZ
              have q0 := HRk.out w7 h1.out
              have HX := Lib.hid (E3.ox h1 (by omega) g)
              clear h1
              go_wp2_with fail
              (with_reducible refine HX.out.mono ?_); rintro e w8 ⟨rfl, h1⟩
              clear q0
              have q0 := HRk.out w8 h1.out
              have HX := Lib.hid (E3.oy h1 (by omega) g)
              clear h1
              go_wp2_with fail
              (with_reducible refine HX.out.mono ?_); rintro e w9 ⟨rfl, h1⟩
              clear q0
              have q0 := HRk.out w9 h1.out
              have HX := Lib.hid (E3.oz h1 (by omega) g)
              clear h1
              go_wp2_with fail
              (with_reducible refine HX.out.mono ?_); rintro e w10 ⟨rfl, h1⟩
              have HI9 := Lib.hid h1
              clear h1 q0 HRk
              go_wp2
              go_roundw
              case rel => exact ⟨j + 1, s.obs g, t.obs g, u.obs g, by omega, by go_num, HL2, HI9⟩
              case measure => simp [intOf]; omega
            · obtain ⟨m, hm⟩ : ∃ m, j = m + 1 := ⟨j - 1, by omega⟩
              have hz : ((j : Int) == 0) = false := by simp; omega
              have hwm : IntKind.i64.wrap ((j : Int) - 1) = (m : Int) := by rw [IntWalk.i64_in _ (by omega)]; omega
              have dm := HRp.out m hm w6 HI6.out
              have hmN : (m : Int) < N := by omega
              have HM := Lib.hid hm
              clear hm
              have hmx : max (m : Int) 0 = (m : Int) := by omega
              clear hs0 HRp HI6 hj0
              go_wp2_with fail
              (with_reducible refine HZZ.out.mono ?_); rintro e w7 ⟨rfl, h1⟩
              clear HZZ
              clear dm
              have q0 := HRk.out w7 h1.out
              have HX := Lib.hid (E3.ox h1 (by omega) g)
              clear h1
              go_wp2_with fail
              (with_reducible refine HX.out.mono ?_); rintro e w8 ⟨rfl, h1⟩
              clear q0
              have q0 := HRk.out w8 h1.out
              have HX := Lib.hid (E3.oy h1 (by omega) g)
              clear h1
              go_wp2_with fail
              (with_reducible refine HX.out.mono ?_); rintro e w9 ⟨rfl, h1⟩
              clear q0
              have q0 := HRk.out w9 h1.out
              have HX := Lib.hid (E3.oz h1 (by omega) g)
              clear h1
              go_wp2_with fail
              (with_reducible refine HX.out.mono ?_); rintro e w10 ⟨rfl, h1⟩
              have HI9 := Lib.hid h1
              clear h1 q0 HRk
              go_wp2
              go_roundw
              case rel => exact ⟨j + 1, s.obs g, t.obs g, u.obs g, by omega, by go_num, HL2, HI9⟩
              case measure => simp [intOf]; omega
      · obtain rfl : d = 0 := by omega
        have had : a = 0 := by have := HD.out; omega
        go_wp2_with fail
        obtain ⟨wo, rfl⟩ : ∃ wo : World, wo = wr := ⟨_, rfl⟩
        go_loopw [13, 14] (fun s13 s14 wr => ∃ (j : Nat) (b : Bool), a ≤ j ∧ j ≤ i ∧ s14 = .int .i64 j ∧ s13 = .bool b ∧ Hid (alK l a j = b) ∧ Hid (wr = wo)) (fun _ s14 _ => i - (intOf s14).toNat)
        case atStart => exact ⟨a, true, Nat.le_refl _, HAI.out, congrArg (Value.int .i64) (by have := HD.out; omega), rfl, Lib.hid (alK_start l a), Lib.hid rfl⟩
        case round =>
          obtain ⟨j, b, haj, hji, rfl, rfl, HB, HW⟩ := hrel
          obtain rfl := HW.out
          by_cases hlj : j < i
          · have hlj' : (j : Int) < i := by omega
            have hjl : j < l.length := by have := HN.out; omega
            have hjN : j < N := by omega
            obtain ⟨bb, off, rfl, dj⟩ := HR.out wr HI2.out.out j hjl
            have hnx := alK_next haj hjl
            rw [HB.out] at hnx
            have HNX := Lib.hid hnx
            generalize l[j] = g at *
            clear hnx HB HW HR
            cases b
            · have HB2 : Hid (alK l a (j + 1) = false) := Lib.hid (by rw [HNX.out]; rfl)
              clear HNX
              go_wp2
              go_roundw
              case rel => exact ⟨j + 1, false, by omega, by omega, by go_num, rfl, HB2, (by first | exact Lib.hid rfl | exact Lib.hid trivial)⟩
              case measure => simp [intOf]; omega
            · have HB2 : Hid (alK l a (j + 1) = g) := Lib.hid (by rw [HNX.out]; rfl)
              clear HNX
              go_wp2
              go_roundw
              case rel => exact ⟨j + 1, g, by omega, by omega, by go_num, rfl, HB2, (by first | exact Lib.hid rfl | exact Lib.hid trivial)⟩
              case measure => simp [intOf]; omega
          · obtain rfl : j = i := by omega
            have hpu := HE.out.trans HB.out
            obtain ⟨bb, off, rfl, _⟩ := HR.out wr HI2.out.out j hil
            have HRk := Lib.hid (fun (W : World) (hb : Below w.heap.size w W) => (by
              obtain ⟨b', off', q1, q2⟩ := HR.out W hb j hil
              obtain ⟨rfl, rfl⟩ : bb = b' ∧ off = off' := by simpa using q1
              exact q2 : W.cell? ⟨bb, off + j, none⟩ = some (.bool l[j])))
            have HRp := Lib.hid (fun (m : Nat) (hm : j = m + 1) (W : World) (hb : Below w.heap.size w W) => (by
              obtain ⟨b', off', q1, q2⟩ := HR.out W hb m (by omega)
              obtain ⟨rfl, rfl⟩ : bb = b' ∧ off = off' := by simpa using q1
              have h9 := la_take (l := l) (i := m) (by omega)
              rw [← hm, ← HPS.out.1] at h9
              rw [h9]; exact q2 : W.cell? ⟨bb, off + m, none⟩ = some (.bool (prB s))))
            have HL2 := Lib.hid (HL.out.obs hil)
            have hst : prB t = prB s := HPS.out.2.trans HPS.out.1.symm
            have hs0 : j = 0 → prB s = true := fun h => by rw [HPS.out.1, h]; rfl
            obtain ⟨ns, nt, nu⟩ := HNS.out
            have h1 := E3.px HI2.out (by omega)
            obtain ⟨v, hv⟩ : ∃ v, prB s = v := ⟨_, rfl⟩
            rw [hv] at h1 hst hs0 HRp
            have HX := Lib.hid h1
            have HV := Lib.hid hv
            have HST := Lib.hid hst
            have HU := Lib.hid hpu
            clear h1 hv hst hpu HI2 HL HB HW HR HE HPS HNS
            go_wp2_with fail
            (with_reducible refine HX.out.mono ?_); rintro e w4 ⟨rfl, h1⟩
            have h2 := E3.py h1 (by omega)
            rw [HST.out] at h2
            have HX := Lib.hid h2
            clear h1 h2
            go_wp2_with fail
            (with_reducible refine HX.out.mono ?_); rintro e w5 ⟨rfl, h1⟩
            have h2 := E3.px h1 (by omega)
            rw [HV.out] at h2
            have HX := Lib.hid h2
            clear h1 h2
            have hvv : (v != v) = false := by simp
            obtain ⟨g, hg⟩ : ∃ g, l[j] = g := ⟨_, rfl⟩
            rw [hg] at HL2 HRk
            clear hg
            have hbb : (b != b) = false := by simp
            go_wp2_with fail
            (with_reducible refine HX.out.mono ?_); rintro e w6 ⟨rfl, h1⟩
            have h2 := E3.pz h1 (by omega)
            rw [HU.out] at h2
            have HZZ := Lib.hid h2
            have HI6 := Lib.hid h1.out
            clear h1 h2 HU HV HST HX
            rcases Nat.eq_zero_or_pos j with hj0 | hj0
            · have hz : ((j : Int) == 0) = true := by simp [hj0]
              obtain rfl := hs0 hj0
              have HJ0 := Lib.hid hj0
              clear hs0 HRp HI6 hj0
              go_wp2_with fail
              (with_reducible refine HZZ.out.mono ?_); rintro e w7 ⟨rfl, h1⟩
              clear HZZ
              have q0 := HRk.out w7 h1.out
              have HX := Lib.hid (E3.ox h1 (by omega) g)
              clear h1
              go_wp2_with fail
              (with_reducible refine HX.out.mono ?_); rintro e w8 ⟨rfl, h1⟩
              clear q0
              have q0 := HRk.out w8 h1.out
              have HX := Lib.hid (E3.oy h1 (by omega) g)
              clear h1
              go_wp2_with fail
              (with_reducible refine HX.out.mono ?_); rintro e w9 ⟨rfl, h1⟩
              clear q0
              have q0 := HRk.out w9 h1.out
              have HX := Lib.hid (E3.oz h1 (by omega) g)
              clear h1
              go_wp2_with fail
              (with_reducible refine HX.out.mono ?_); rintro e w10 ⟨rfl, h1⟩
              have HI9 := Lib.hid h1
              clear h1 q0 HRk
              go_wp2
              go_roundw
              case rel => exact ⟨j + 1, s.obs g, t.obs g, u.obs g, by omega, by go_num, HL2, HI9⟩
              case measure => simp [intOf]; omega
            · obtain ⟨m, hm⟩ : ∃ m, j = m + 1 := ⟨j - 1, by omega⟩
              have hz : ((j : Int) == 0) = false := by simp; omega
              have hwm : IntKind.i64.wrap ((j : Int) - 1) = (m : Int) := by rw [IntWalk.i64_in _ (by omega)]; omega
              have dm := HRp.out m hm w6 HI6.out
              have hmN : (m : Int) < N := by omega
              have HM := Lib.hid hm
              clear hm
              have hmx : max (m : Int) 0 = (m : Int) := by omega
              clear hs0 HRp HI6 hj0
              go_wp2_with fail
              (with_reducible refine HZZ.out.mono ?_); rintro e w7 ⟨rfl, h1⟩
              clear HZZ
              clear dm
              have q0 := HRk.out w7 h1.out
              have HX := Lib.hid (E3.ox h1 (by omega) g)
              clear h1
              go_wp2_with fail
              (with_reducible refine HX.out.mono ?_); rintro e w8 ⟨rfl, h1⟩
              clear q0
              have q0 := HRk.out w8 h1.out
              have HX := Lib.hid (E3.oy h1 (by omega) g)
              clear h1
              go_wp2_with fail
              (with_reducible refine HX.out.mono ?_); rintro e w9 ⟨rfl, h1⟩
              clear q0
              have q0 := HRk.out w9 h1.out
              have HX := Lib.hid (E3.oz h1 (by omega) g)
              clear h1
              go_wp2_with fail
              (with_reducible refine HX.out.mono ?_); rintro e w10 ⟨rfl, h1⟩
              have HI9 := Lib.hid h1
              clear h1 q0 HRk
              go_wp2
              go_roundw
              case rel => exact ⟨j + 1, s.obs g, t.obs g, u.obs g, by omega, by go_num, HL2, HI9⟩
              case measure => simp [intOf]; omega
      · obtain rfl : d = (a : Int) := by have := HD.out; omega
        go_wp2_with fail
        obtain ⟨wo, rfl⟩ : ∃ wo : World, wo = wr := ⟨_, rfl⟩
        go_loopw [13, 14] (fun s13 s14 wr => ∃ (j : Nat) (b : Bool), a ≤ j ∧ j ≤ i ∧ s14 = .int .i64 j ∧ s13 = .bool b ∧ Hid (alK l a j = b) ∧ Hid (wr = wo)) (fun _ s14 _ => i - (intOf s14).toNat)
        case atStart => exact ⟨a, true, Nat.le_refl _, HAI.out, congrArg (Value.int .i64) (by have := HD.out; omega), rfl, Lib.hid (alK_start l a), Lib.hid rfl⟩
        case round =>
          obtain ⟨j, b, haj, hji, rfl, rfl, HB, HW⟩ := hrel
          obtain rfl := HW.out
          by_cases hlj : j < i
          · have hlj' : (j : Int) < i := by omega
            have hjl : j < l.length := by have := HN.out; omega
            have hjN : j < N := by omega
            obtain ⟨bb, off, rfl, dj⟩ := HR.out wr HI2.out.out j hjl
            have hnx := alK_next haj hjl
            rw [HB.out] at hnx
            have HNX := Lib.hid hnx
            generalize l[j] = g at *
            clear hnx HB HW HR
            cases b
            · have HB2 : Hid (alK l a (j + 1) = false) := Lib.hid (by rw [HNX.out]; rfl)
              clear HNX
              go_wp2
              go_roundw
              case rel => exact ⟨j + 1, false, by omega, by omega, by go_num, rfl, HB2, (by first | exact Lib.hid rfl | exact Lib.hid trivial)⟩
              case measure => simp [intOf]; omega
            · have HB2 : Hid (alK l a (j + 1) = g) := Lib.hid (by rw [HNX.out]; rfl)
              clear HNX
              go_wp2
              go_roundw
              case rel => exact ⟨j + 1, g, by omega, by omega, by go_num, rfl, HB2, (by first | exact Lib.hid rfl | exact Lib.hid trivial)⟩
              case measure => simp [intOf]; omega
          · obtain rfl : j = i := by omega
            have hpu := HE.out.trans HB.out
            obtain ⟨bb, off, rfl, _⟩ := HR.out wr HI2.out.out j hil
            have HRk := Lib.hid (fun (W : World) (hb : Below w.heap.size w W) => (by
              obtain ⟨b', off', q1, q2⟩ := HR.out W hb j hil
              obtain ⟨rfl, rfl⟩ : bb = b' ∧ off = off' := by simpa using q1
              exact q2 : W.cell? ⟨bb, off + j, none⟩ = some (.bool l[j])))
            have HRp := Lib.hid (fun (m : Nat) (hm : j = m + 1) (W : World) (hb : Below w.heap.size w W) => (by
              obtain ⟨b', off', q1, q2⟩ := HR.out W hb m (by omega)
              obtain ⟨rfl, rfl⟩ : bb = b' ∧ off = off' := by simpa using q1
              have h9 := la_take (l := l) (i := m) (by omega)
              rw [← hm, ← HPS.out.1] at h9
              rw [h9]; exact q2 : W.cell? ⟨bb, off + m, none⟩ = some (.bool (prB s))))
            have HL2 := Lib.hid (HL.out.obs hil)
            have hst : prB t = prB s := HPS.out.2.trans HPS.out.1.symm
            have hs0 : j = 0 → prB s = true := fun h => by rw [HPS.out.1, h]; rfl
            obtain ⟨ns, nt, nu⟩ := HNS.out
            have h1 := E3.px HI2.out (by omega)
            obtain ⟨v, hv⟩ : ∃ v, prB s = v := ⟨_, rfl⟩
            rw [hv] at h1 hst hs0 HRp
            have HX := Lib.hid h1
            have HV := Lib.hid hv
            have HST := Lib.hid hst
            have HU := Lib.hid hpu
            clear h1 hv hst hpu HI2 HL HB HW HR HE HPS HNS
            go_wp2_with fail
            (with_reducible refine HX.out.mono ?_); rintro e w4 ⟨rfl, h1⟩
            have h2 := E3.py h1 (by omega)
            rw [HST.out] at h2
            have HX := Lib.hid h2
            clear h1 h2
            go_wp2_with fail
            (with_reducible refine HX.out.mono ?_); rintro e w5 ⟨rfl, h1⟩
            have h2 := E3.px h1 (by omega)
            rw [HV.out] at h2
            have HX := Lib.hid h2
            clear h1 h2
            have hvv : (v != v) = false := by simp
            obtain ⟨g, hg⟩ : ∃ g, l[j] = g := ⟨_, rfl⟩
            rw [hg] at HL2 HRk
            clear hg
            have hbb : (b != b) = false := by simp
            go_wp2_with fail
            (with_reducible refine HX.out.mono ?_); rintro e w6 ⟨rfl, h1⟩
            have h2 := E3.pz h1 (by omega)
            rw [HU.out] at h2
            have HZZ := Lib.hid h2
            have HI6 := Lib.hid h1.out
            clear h1 h2 HU HV HST HX
            rcases Nat.eq_zero_or_pos j with hj0 | hj0
            · have hz : ((j : Int) == 0) = true := by simp [hj0]
              obtain rfl := hs0 hj0
              have HJ0 := Lib.hid hj0
              clear hs0 HRp HI6 hj0
              go_wp2_with fail
              (with_reducible refine HZZ.out.mono ?_); rintro e w7 ⟨rfl, h1⟩
              clear HZZ
              have q0 := HRk.out w7 h1.out
              have HX := Lib.hid (E3.ox h1 (by omega) g)
              clear h1
              go_wp2_with fail
              (with_reducible refine HX.out.mono ?_); rintro e w8 ⟨rfl, h1⟩
              clear q0
              have q0 := HRk.out w8 h1.out
              have HX := Lib.hid (E3.oy h1 (by omega) g)
              clear h1
              go_wp2_with fail
              (with_reducible refine HX.out.mono ?_); rintro e w9 ⟨rfl, h1⟩
              clear q0
              have q0 := HRk.out w9 h1.out
              have HX := Lib.hid (E3.oz h1 (by omega) g)
              clear h1
              go_wp2_with fail
              (with_reducible refine HX.out.mono ?_); rintro e w10 ⟨rfl, h1⟩
              have HI9 := Lib.hid h1
              clear h1 q0 HRk
              go_wp2
              go_roundw
              case rel => exact ⟨j + 1, s.obs g, t.obs g, u.obs g, by omega, by go_num, HL2, HI9⟩
              case measure => simp [intOf]; omega
            · obtain ⟨m, hm⟩ : ∃ m, j = m + 1 := ⟨j - 1, by omega⟩
              have hz : ((j : Int) == 0) = false := by simp; omega
              have hwm : IntKind.i64.wrap ((j : Int) - 1) = (m : Int) := by rw [IntWalk.i64_in _ (by omega)]; omega
              have dm := HRp.out m hm w6 HI6.out
              have hmN : (m : Int) < N := by omega
              have HM := Lib.hid hm
              clear hm
              have hmx : max (m : Int) 0 = (m : Int) := by omega
              clear hs0 HRp HI6 hj0
              go_wp2_with fail
              (with_reducible refine HZZ.out.mono ?_); rintro e w7 ⟨rfl, h1⟩
              clear HZZ
              clear dm
              have q0 := HRk.out w7 h1.out
              have HX := Lib.hid (E3.ox h1 (by omega) g)
              clear h1
              go_wp2_with fail
              (with_reducible refine HX.out.mono ?_); rintro e w8 ⟨rfl, h1⟩
              clear q0
              have q0 := HRk.out w8 h1.out
              have HX := Lib.hid (E3.oy h1 (by omega) g)
              clear h1
              go_wp2_with fail
              (with_reducible refine HX.out.mono ?_); rintro e w9 ⟨rfl, h1⟩
              clear q0
              have q0 := HRk.out w9 h1.out
              have HX := Lib.hid (E3.oz h1 (by omega) g)
              clear h1
              go_wp2_with fail
              (with_reducible refine HX.out.mono ?_); rintro e w10 ⟨rfl, h1⟩
              have HI9 := Lib.hid h1
              clear h1 q0 HRk
              go_wp2
              go_roundw
              case rel => exact ⟨j + 1, s.obs g, t.obs g, u.obs g, by omega, by go_num, HL2, HI9⟩
              case measure => simp [intOf]; omega
    · obtain rfl : i = N := by omega
      have HF := Lib.hid HI2.out.out
      clear HI2 HL HR
      go_wp2_with fail
      (with_reducible refine (HAW.out _).mono ?_); rintro e w4 ⟨rfl, hb⟩
      have HF2 := Lib.hid (HF.out.trans (hb.mono HF.out.size))
      clear hb HF
      go_wp2
      go_ret
      exact ⟨rfl, HF2.out⟩
end Go.Proofs.Ytaohfcchejedkaa

