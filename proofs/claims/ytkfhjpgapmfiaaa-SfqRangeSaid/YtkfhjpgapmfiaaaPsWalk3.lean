/-
  Layer 13: the walk of the statement on tags that would be too great (SfqRange). Every input; no condition.
-/
import Derived.Test.YtkfhjpgapmfiaaaPsEq
namespace Go.Proofs.Ytkfhjpgapmfiaaa
open Go.ChangeShapes Go.WideShapes Go.ChangeAt Go.RowKit
set_option linter.unusedVariables false

/-- Flow 0 with weight x has been charged to the start tag y; flow 1 has the start tag 0. -/
structure Rg (x y : Int) (s : Sf) : Prop where
  on : ∀ g, s.on g = true ↔ g = 0 ∨ g = 1
  w0 : s.wt 0 = x
  w1 : s.wt 1 = 16
  s0 : s.st 0 = y
  s1 : s.st 1 = 0
  at_ : s.at_ = 1099511627776
  away : s.away = 0
theorem rg_joined {x : Int} (hx : wtB x = true) : ∃ s, jnT (jnT (Sf.new 1099511627776) (0 : Nat) x) (1 : Nat) 16 = s ∧ Rg x 0 s := by
  obtain ⟨a1, a2⟩ := jn_0 (s := Sf.new 1099511627776) (n := 0) (x := x) (by omega) hx rfl
  obtain ⟨b1, b2⟩ := jn_0 (s := (Sf.new 1099511627776).join 0 x) (n := 1) (x := 16) (by omega) (by decide) (by simp only [Sf.join]; rw [fset_ne _ _ (by omega)]; rfl)
  refine ⟨_, rfl, ?_⟩
  rw [a2, b2]
  refine ⟨fun g => ?_, rfl, rfl, rfl, rfl, rfl, rfl⟩
  simp only [Sf.join, Sf.new, fset]
  by_cases h1 : g = 1 <;> by_cases h0 : g = 0 <;> simp [h0, h1]
section
variable {x y : Int} {s t : Sf}
theorem Rg.on0 (h : Rg x y s) : s.on 0 = true := (h.on 0).2 (.inl rfl)
theorem Rg.on1 (h : Rg x y s) : s.on 1 = true := (h.on 1).2 (.inr rfl)
theorem Rg.ch (h : Rg x y s) (hle : y + 4096 * unC x ≤ 1099511627776) : chE s (0 : Nat) 4096 = 0 ∧ ∀ t, ChT s (0 : Nat) 4096 t → Rg x (y + 4096 * unC x) t := by
  have hs0 := h.s0
  have hs1 := h.s1
  have hat := h.at_
  obtain ⟨c1, c2⟩ := ch_0 (s := s) (n := 0) (l := 4096) (by omega) h.on0 (by decide) (by rw [hs0, h.w0]; exact hle)
  refine ⟨c1, fun t ht => ?_⟩
  have hch := (c2 t).1 ht
  rw [h.w0] at hch
  obtain ⟨g1, g2, g3, m, b, ⟨_, q4⟩, hbe, hk⟩ := hch
  have hm := q4 1 (by omega) h.on1
  rw [fset_ne _ _ (by omega), hs1] at hm
  rcases hk with ⟨k1, _⟩ | ⟨k1, k2, k3, k4, k5⟩
  · exfalso; omega
  · have a0 := k2 0 h.on0
    have a1 := k2 1 h.on1
    rw [fset_at] at a0
    rw [fset_ne _ _ (by omega)] at a1
    exact ⟨fun g => by rw [g2]; exact h.on g, by rw [g3]; exact h.w0, by rw [g3]; exact h.w1, by rw [a0, hs0], by rw [a1, hs1], by rw [g1]; exact hat, by rw [k5]; exact h.away⟩
theorem Rg.no (h : Rg x y s) (hgt : 1099511627776 < y + 4096 * unC x) : chE s (0 : Nat) 4096 = 2 ∧ ∀ t, ChT s (0 : Nat) 4096 t → t = s := by
  obtain ⟨c1, c2⟩ := ch_2 (s := s) (n := 0) (l := 4096) (by omega) h.on0 (by decide) (by rw [h.s0, h.w0]; omega)
  exact ⟨c1, fun t ht => (c2 t).1 ht⟩
theorem Rg.one (h : Rg x y s) {l : Int} (hl : 1 ≤ l ∧ l ≤ 4096) : chE s (1 : Nat) l = 0 := by
  have hb := co_bd (le_of hl) (w := 16) (by decide)
  exact (ch_0 (s := s) (n := 1) (l := l) (by omega) h.on1 (le_of hl) (by rw [h.s1, h.w1]; omega)).1
end
/-- How many charges fit. -/
theorem rg_most {n : Int} (h : 184504320 ≤ n ∧ n ≤ 2952069120) : ∃ m : Nat, 1099511627776 / n = (m : Int) ∧ m < 7000 ∧ (∀ k : Nat, k < m → (k : Int) * n + n ≤ 1099511627776) ∧ 1099511627776 < (m : Int) * n + n := by
  have h0 : 0 ≤ 1099511627776 / n := Int.ediv_nonneg (by omega) (by omega)
  obtain ⟨m, hm⟩ := Int.eq_ofNat_of_zero_le h0
  have h1 : (m : Int) * n ≤ 1099511627776 := by rw [← hm]; exact Int.ediv_mul_le _ (by omega)
  have h2 : 1099511627776 < ((m : Int) + 1) * n := by rw [← hm]; exact Int.lt_ediv_add_one_mul_self _ (by omega)
  rw [Int.add_mul, Int.one_mul] at h2
  refine ⟨m, hm, ?_, fun k hk => ?_, h2⟩
  · have : (m : Int) * 184504320 ≤ (m : Int) * n := Int.mul_le_mul_of_nonneg_left h.1 (by omega)
    omega
  · have : ((k : Int) + 1) * n ≤ (m : Int) * n := Int.mul_le_mul_of_nonneg_right (by omega) (by omega)
    rw [Int.add_mul, Int.one_mul] at this
    omega
set_option maxRecDepth 100000 in
set_option maxHeartbeats 8000000 in
theorem walkRange (A : Option Addr) (len cap : Nat) (x : Int) (hx0 : 0 ≤ x) (hx1 : x ≤ 255) (w : World) (he : Elems w.heap.size A len w) :
    Calls Try.prog 7 #[.slice A len cap, .int .u8 x] w (Calm (.bool true) w) := by
  have HG := Lib.hid (Has.new (cap := cap) he)
  have HAW := Lib.hid (fun w => awake13_any w)
  have HN := Lib.hid (fun w => psnew_any (a := 1099511627776) (by omega) w)
  have hx16 : 0 ≤ x % 16 ∧ x % 16 < 16 := by omega
  obtain ⟨y, hy⟩ : ∃ y, x % 16 = y := ⟨_, rfl⟩
  rw [hy] at hx16
  have hwt : wtB (1 + y) = true := wt_of (by omega)
  obtain ⟨s0, hj, hrg⟩ := rg_joined hwt
  have HJ := Lib.hid hj
  have HRG := Lib.hid hrg
  have hun := un_bd hwt
  obtain ⟨u, hu⟩ : ∃ u, unC (1 + y) = u := ⟨_, rfl⟩
  rw [hu] at hun
  have hq : 720720 / (1 + y) = u := hu
  obtain ⟨n, hn⟩ : ∃ n, 4096 * u = n := ⟨_, rfl⟩
  have hnb : 184504320 ≤ n ∧ n ≤ 2952069120 := by omega
  obtain ⟨m, hm, hm7, hmk, hmm⟩ := rg_most hnb
  have HM := Lib.hid (And.intro hmk hmm)
  have HUN := Lib.hid (And.intro hu hn)
  clear he hwt hj hrg hu hmk hmm
  unfold Calm at HAW ⊢
  go_enter Try.func7, Try.ntmps7
  go_wp2_with fail
  (with_reducible refine (new_any A len cap _).mono ?_); rintro e w' ⟨rfl, rfl⟩
  go_wp2_with fail
  (with_reducible refine (HN.out _).mono ?_); rintro e w1 hnew
  obtain ⟨R, rfl, hso⟩ := SO.newC HG.out hnew
  have HS1 := Lib.hid hso
  clear hnew hso HG HN
  go_wp2_with fail
  have HX := HS1.out.join XC.kx (f := ((0 : Nat) : Int)) (by omega) (1 + y)
  rw [show ((0 : Nat) : Int) = 0 from rfl] at HX
  have HX := Lib.hid HX
  (with_reducible refine HX.out.mono ?_); rintro e w2 ⟨rfl, hso⟩
  have HX2 := hso.join XC.kx (f := ((1 : Nat) : Int)) (by omega) 16
  have hjj := HJ.out
  rw [show ((0 : Nat) : Int) = 0 from rfl] at hjj
  rw [hjj, show ((1 : Nat) : Int) = 1 from rfl] at HX2
  have HX2 := Lib.hid HX2
  clear hso HX HS1 hjj HJ
  go_wp2_with fail
  (with_reducible refine HX2.out.mono ?_); rintro e w3 ⟨rfl, hso⟩
  have HS := Lib.hid hso
  have HR0 : Hid (Rg (1 + y) (((0 : Nat) : Int) * n) s0) := Lib.hid (by rw [show ((0 : Nat) : Int) * n = 0 by simp]; exact HRG.out)
  clear hso HX2 HRG
  go_wp2_with fail
  simp only [hm]
  clear hn hm hq hy
  go_loopw [10] (fun s10 wr => ∃ (k : Nat) (s : Sf), k ≤ m ∧ s10 = .int .i64 k ∧ Hid (Rg (1 + y) ((k : Int) * n) s) ∧ Hid (SO (XC w.heap.size A len cap 0 w) R s wr)) (fun s10 _ => m - (intOf s10).toNat)
  case atStart => exact ⟨0, s0, Nat.zero_le _, rfl, HR0, HS⟩
  case round =>
    obtain ⟨k, s, hk, rfl, HR, HS2⟩ := hrel
    clear HR0 HS
    by_cases hlt : k < m
    · have hlt' : (k : Int) < m := by omega
      have hk7 : (k : Int) < 7000 := by omega
      have hfit := HM.out.1 k hlt
      obtain ⟨c1, c2⟩ := HR.out.ch (by rw [HUN.out.1, HUN.out.2]; exact hfit)
      have HX := HS2.out.charge XC.kx (f := ((0 : Nat) : Int)) (by omega) 4096 (by have := HR.out.away; omega)
      rw [c1, show ((0 : Nat) : Int) = 0 from rfl] at HX
      rw [HUN.out.1, HUN.out.2, show (k : Int) * n + n = ((k + 1 : Nat) : Int) * n by rw [Int.natCast_add, Int.add_mul]; simp] at c2
      have HX := Lib.hid HX
      have HC2 := Lib.hid c2
      clear c1 c2 hfit HS2 HR
      go_wp2_with fail
      (with_reducible refine HX.out.mono ?_); rintro e w4 ⟨rfl, t, ht, hso⟩
      have HS3 := Lib.hid hso
      have HR3 := Lib.hid (HC2.out t ht)
      clear hso ht HX HC2
      go_wp2
      go_roundw
      case rel => exact ⟨k + 1, t, by omega, by go_num, HR3, HS3⟩
      case measure => simp [intOf]; omega
    · obtain rfl : k = m := by omega
      have hk7 : ¬ (7000 : Int) < k := by omega
      have hkk : ¬ (k : Int) < k := by omega
      have hgt := HM.out.2
      obtain ⟨c1, c2⟩ := HR.out.no (by rw [HUN.out.1, HUN.out.2]; exact hgt)
      have HTG := Lib.hid HS2.out.tags
      unfold TgAns at HTG
      have HC1 := Lib.hid c1
      have HC2 := Lib.hid c2
      have hle := tgl_le s 32
      clear hgt c1 c2
      go_wp2_with fail
      (with_reducible refine HTG.out.mono ?_); rintro e w4 ⟨A1, d1, rfl, ha1, hb1⟩
      have HS3 := Lib.hid (HS2.out.list XC.kx ha1 hb1)
      have HX := HS3.out.charge (XT.kx XC.kx) (f := ((0 : Nat) : Int)) (by omega) 4096 (by have := HR.out.away; omega)
      rw [HC1.out, show ((0 : Nat) : Int) = 0 from rfl] at HX
      have HX := Lib.hid HX
      clear ha1 hb1 HTG HS2 HC1 HS3
      go_wp2_with fail
      (with_reducible refine HX.out.mono ?_); rintro e w5 ⟨rfl, t, ht, hso⟩
      have hts := HC2.out t ht
      subst hts
      have HS4 := Lib.hid hso
      have HTG := Lib.hid hso.tags
      unfold TgAns at HTG
      clear hso ht HX HC2
      go_wp2_with fail
      (with_reducible refine HTG.out.mono ?_); rintro e w6 ⟨A2, d2, rfl, ha2, hb2⟩
      have HS5 := Lib.hid (HS4.out.below (XT.kx XC.kx) hb2)
      obtain ⟨L1, B1, hB1, hl1⟩ := HS5.out.listAt
      have HEQ := equalTg_any A1 A2 d1 d2 (tgl t 32) L1 B1 _ _ w6 (by omega) hl1 ha2
      unfold Calm at HEQ
      have HEQ := Lib.hid HEQ
      have HS6 := Lib.hid HS5.out.nolist
      clear ha2 hb2 HTG HS4 HS5 hB1 hl1
      go_wp2_with fail
      (with_reducible refine HEQ.out.mono ?_); rintro e w7 ⟨rfl, hb7⟩
      have HS7 := Lib.hid (HS6.out.below XC.kx hb7)
      have HX := Lib.hid (HS7.out.length (by omega))
      unfold NxAns at HX
      clear hb7 HEQ HS6
      go_wp2_with fail
      (with_reducible refine HX.out.mono ?_); rintro e w8 ⟨l, l0, l1, rfl, hso⟩
      have c1 := HR.out.one (l := l) (by omega)
      have HX2 := hso.charge XC.kx (f := ((1 : Nat) : Int)) (by omega) l (by have := HR.out.away; omega)
      rw [c1, show ((1 : Nat) : Int) = 1 from rfl] at HX2
      have HX2 := Lib.hid HX2
      clear hso HX HS7 c1
      go_wp2_with fail
      (with_reducible refine HX2.out.mono ?_); rintro e w9 ⟨rfl, t2, ht2, hso⟩
      have HF := Lib.hid hso.has.2
      have HX3 := Lib.hid (HAW.out w9)
      clear hso HX2 ht2
      go_wp2_with fail
      (with_reducible refine HX3.out.mono ?_); rintro e w10 ⟨rfl, hb⟩
      have HF2 := Lib.hid (HF.out.trans (hb.mono HF.out.size))
      clear hb HF HX3
      go_wp2
      go_ret
      exact ⟨rfl, HF2.out⟩
end Go.Proofs.Ytkfhjpgapmfiaaa

