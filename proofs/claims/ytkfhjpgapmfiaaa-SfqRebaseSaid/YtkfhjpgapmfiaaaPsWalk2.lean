/-
  Layer 13: two of the program's references side by side; the walk of the statement on rebasing (SfqRebase). Every input; no condition.
-/
import Derived.Test.YtkfhjpgapmfiaaaPsTm
import Derived.Deep.CutBlock
import Derived.Deep.DeepCutAuto
namespace Go.Proofs.Ytkfhjpgapmfiaaa
open Go.ChangeShapes Go.WideShapes Go.ChangeAt Go.RowKit
set_option linter.unusedVariables false

/-- The choices and another reference. -/
def X2 (B : Nat) (a : Option Addr) (len cap q : Nat) (w0 : World) (R2 : Nat) (t : Sf) (T : Nat → Prop) (w : World) : Prop := (Has B a len cap q w0 w ∧ ∀ k, T k → B < k) ∧ ∃ T2, PsO T2 R2 t w ∧ ∀ k, T2 k → B < k ∧ ¬ T k
section
variable {B : Nat} {a : Option Addr} {len cap q q' : Nat} {w0 : World} {R R2 : Nat} {s t : Sf} {w w' : World}
theorem X2.kx : Kx (X2 B a len cap q w0 R2 t) := by
  intro T T' w w' hT hx hc ht
  obtain ⟨⟨h1, h2⟩, T2, h3, h4⟩ := hx
  refine ⟨⟨h1.trod (S := T) h2 hc, fun k hk => ?_⟩, T2, h3.chg hc (fun k hk => (h4 k hk).2), fun k hk => ⟨(h4 k hk).1, fun e => ?_⟩⟩
  · rcases ht k hk with h5 | h5
    · exact h2 k h5
    · have := h1.1.lt; omega
  · rcases ht k e with h5 | h5
    · exact (h4 k hk).2 h5
    · have := h3.lt k hk; omega
theorem SO.swap (h : SO (X2 B a len cap q w0 R2 t) R s w) : SO (X2 B a len cap q w0 R s) R2 t w := by
  obtain ⟨T, h1, ⟨h2, h3⟩, T2, h4, h5⟩ := h
  exact ⟨T2, h4, ⟨h2, fun k hk => (h5 k hk).1⟩, T, h1, fun k hk => ⟨h3 k hk, fun e => (h5 k e).2 hk⟩⟩
theorem SO.has2 (h : SO (X2 B a len cap q w0 R2 t) R s w) : Has B a len cap q w0 w := by obtain ⟨T, _, ⟨h2, _⟩, _⟩ := h; exact h2
theorem SO.drawn2 (h : SO (X2 B a len cap q w0 R2 t) R s w) (hg : Gen B a len cap q' w') (ho : Only B w w') : SO (X2 B a len cap q' w0 R2 t) R s w' := by
  obtain ⟨T, h1, ⟨h2, h3⟩, T2, h4, h5⟩ := h
  exact ⟨T, h1.only ho (fun e => by have := h3 B e; omega), ⟨⟨hg, h2.2.trans (ho.below (by have := h2.1.lt; omega))⟩, h3⟩, T2, h4.only ho (fun e => by have := (h5 B e).1; omega), h5⟩
theorem SO.new2 {at_ : Int} {e : Ending} (h : SO (XC B a len cap q w0) R s w) (hn : PsNew at_ w e w') : ∃ R2, e = .returned (.tuple #[.pointer (some ⟨R2, 0, none⟩), .int .i64 0]) ∧ SO (X2 B a len cap q w0 R2 (Sf.new at_)) R s w' := by
  obtain ⟨T2, R2, e1, k2, k3, k4⟩ := hn
  obtain ⟨T, h1, h2, h3⟩ := h
  exact ⟨R2, e1, T, h1.below k4, ⟨h2.below k4, h3⟩, T2, k2, fun k hk => ⟨by have := k3 k hk; have := h2.1.lt; omega, fun e => by have := h1.lt k e; have := k3 k hk; omega⟩⟩
def NxAns2 (B : Nat) (a : Option Addr) (len cap q : Nat) (w0 : World) (R R2 : Nat) (s t : Sf) (lo hi : Int) (e : Ending) (w' : World) : Prop := ∃ x : Int, lo ≤ x ∧ x < hi ∧ e = .returned (.int .i64 x) ∧ SO (X2 B a len cap (q + 1) w0 R2 t) R s w'
theorem SO.nextT (h : SO (X2 B a len cap q w0 R2 t) R s w) {n : Int} (n0 : 1 ≤ n) (n1 : n ≤ 1000000000) (hq : q ≤ 1000000000) :
    Calls Try.prog 9 #[.pointer (some ⟨B, 0, none⟩), .int .i64 n] w (NxAns2 B a len cap q w0 R R2 s t 0 n) := by
  refine (next_any B a len cap q n w n0 n1 hq h.has2.1).mono ?_
  rintro e w' ⟨x, x0, x1, e1, hg, ho⟩
  exact ⟨x, x0, x1, e1, h.drawn2 hg ho⟩
theorem SO.lengthT (h : SO (X2 B a len cap q w0 R2 t) R s w) (hq : q ≤ 1000000000) :
    Calls Try.prog 21 #[.pointer (some ⟨B, 0, none⟩)] w (NxAns2 B a len cap q w0 R R2 s t 1 4097) := by
  refine (length_any B a len cap q w h.has2.1 hq).mono ?_
  rintro e w' ⟨x, x0, x1, e1, hg, ho⟩
  exact ⟨x, x0, by omega, e1, h.drawn2 hg ho⟩
theorem SO.weightT (h : SO (X2 B a len cap q w0 R2 t) R s w) (hq : q ≤ 1000000000) :
    Calls Try.prog 17 #[.pointer (some ⟨B, 0, none⟩)] w (NxAns2 B a len cap q w0 R R2 s t 1 17) := by
  refine (weight_any B a len cap q w0 w h.has2 hq).mono ?_
  rintro e w' ⟨x, x0, x1, e1, hg, ho⟩
  exact ⟨x, x0, by omega, e1, h.drawn2 hg.1 ho⟩
end
/-! ### two references that are rebased at other times -/
structure Pr (i : Nat) (s t : Sf) : Prop where
  l : Tm i s
  r : Tm i t
  like : ∃ D, s.Alike D t
section
variable {i : Nat} {s t s' t' : Sf}
theorem Pr.new {a b : Int} (ha : 1 ≤ a) (hb : 1 ≤ b) : Pr 0 (Sf.new a) (Sf.new b) := ⟨Tm.new ha, Tm.new hb, 0, Sf.alike_new⟩
theorem Pr.on (h : Pr i s t) : t.on = s.on := by obtain ⟨D, h1⟩ := h.like; exact h1.1
theorem Pr.here (h : Pr i s t) (f : Int) : t.here f = s.here f := by unfold Sf.here; rw [h.on]
theorem Pr.jnE (h : Pr i s t) (f x : Int) : jnE t f x = jnE s f x := by unfold Proofs.Ytkfhjpgapmfiaaa.jnE; rw [h.on]
theorem Pr.jn (h : Pr i s t) (f x : Int) : Pr i (jnT s f x) (jnT t f x) := by
  refine ⟨h.l.jn f x, h.r.jn f x, ?_⟩
  obtain ⟨D, hd⟩ := h.like
  unfold jnT
  rw [h.jnE]
  split
  · exact ⟨D, hd.join _ _ h.l.inv.2.1 h.r.inv.2.1⟩
  · exact ⟨D, hd⟩
theorem Pr.lvE (h : Pr i s t) (f : Int) : lvE t f = lvE s f := by unfold Proofs.Ytkfhjpgapmfiaaa.lvE; rw [h.here]
theorem Pr.lv (h : Pr i s t) (hs : SfOk s) (ht : SfOk t) {f : Int} (h1 : LvT s f s') (h2 : LvT t f t') : Pr i s' t' := by
  refine ⟨h.l.lv hs h1, h.r.lv ht h2, ?_⟩
  obtain ⟨D, hd⟩ := h.like
  unfold LvT at h1 h2
  rw [h.here] at h2
  split at h1
  · rename_i hh
    rw [if_pos hh] at h2
    have ho := (here_yes hh).2.2
    exact hd.left ho h1 h2 hs.lt (h.l.inv.2.2.1 _ ho).1
  · rename_i hh
    rw [if_neg hh] at h2
    subst h1; subst h2
    exact ⟨D, hd⟩
theorem Pr.sel (h : Pr i s t) {f g : Int} (ha : SelA s f g) : SelA t f g := by
  obtain ⟨D, hd⟩ := h.like
  rcases ha with ⟨h1, h2, h3⟩ | ⟨n, h1, h2, h3⟩
  · exact .inl ⟨fun k hk => by rw [h.on]; exact h1 k hk, h2, h3⟩
  · exact .inr ⟨n, hd.sel h1, h2, h3⟩
/-- What both select is charged in both, or in none. -/
theorem Pr.ch (h : Pr i s t) (hs : SfOk s) (ht : SfOk t) (hi : i ≤ 200) {f g : Int} (ha : SelA s f g) {l : Int} (hl : 1 ≤ l ∧ l ≤ 4096) : ∃ er, chE s f l = er ∧ chE t f l = er ∧ ∀ s' t', ChT s f l s' → ChT t f l t' → Pr (i + 1) s' t' := by
  have hb := h.sel ha
  rcases ha with ⟨h1, rfl, _⟩ | ⟨n, h1, rfl, _⟩
  · have hn : s.here 0 = false := by
      have := here_is (s := s) (n := 0) (by omega)
      rw [h1 0 (by omega)] at this; exact this
    have hn2 : t.here 0 = false := by rw [h.here]; exact hn
    obtain ⟨e1, e2⟩ := ch_6 (l := l) hn
    obtain ⟨e3, e4⟩ := ch_6 (l := l) hn2
    refine ⟨6, e1, e3, fun s' t' k1 k2 => ?_⟩
    rw [(e2 s').1 k1, (e4 t').1 k2]
    exact ⟨h.l.more, h.r.more, h.like⟩
  · have h2 : t.Sel n := by
      rcases hb with ⟨k1, _⟩ | ⟨m, k1, k2, _⟩
      · have := k1 n h1.1; rw [h.on, h1.2.1] at this; cases this
      · have : n = m := by omega
        subst this; exact k1
    obtain ⟨e1, e2⟩ := h.l.ch hs hi h1 hl
    obtain ⟨e3, e4⟩ := h.r.ch ht hi h2 hl
    refine ⟨0, e1, e3, fun s' t' k1 k2 => ⟨(e2 s' k1).1, (e4 t' k2).1, ?_⟩⟩
    obtain ⟨D, hd⟩ := h.like
    have hc2 := (e4 t' k2).2
    rw [hd.2.1] at hc2
    exact hd.charged h1.2.1 (e2 s' k1).2 hc2
end
set_option maxRecDepth 100000 in
set_option maxHeartbeats 8000000 in
theorem walkRebase13 (A : Option Addr) (len cap : Nat) (w : World) (he : Elems w.heap.size A len w) :
    Calls Try.prog 6 #[.slice A len cap] w (Calm (.bool true) w) := by
  have HG := Lib.hid (Has.new (cap := cap) he)
  have HAW := Lib.hid (fun w => awake13_any w)
  have HN := Lib.hid (fun a (h : 1 ≤ a ∧ a ≤ 1099511627776) w => psnew_any h w)
  clear he
  unfold Calm at HAW ⊢
  go_enter Try.func6, Try.ntmps6
  go_wp2_with fail
  (with_reducible refine (new_any A len cap _).mono ?_); rintro e w' ⟨rfl, rfl⟩
  go_wp2_with fail
  (with_reducible refine (HN.out 1 (by omega) _).mono ?_); rintro e w1 hnew
  obtain ⟨R1, rfl, hso⟩ := SO.newC HG.out hnew
  have HS1 := Lib.hid hso
  clear hnew hso HG
  go_wp2_with fail
  (with_reducible refine (HN.out 1099511627776 (by omega) _).mono ?_); rintro e w2 hnew
  obtain ⟨R2, rfl, hso⟩ := HS1.out.new2 hnew
  have HS := Lib.hid hso
  have HP := Lib.hid (Pr.new (a := 1) (b := 1099511627776) (by omega) (by omega))
  clear hnew hso HS1 HN
  go_wp2_with fail
  go_loopw [8] (fun s8 wr => ∃ (i q : Nat) (s t : Sf), i ≤ 50 ∧ s8 = .int .i64 i ∧ q ≤ 10 * i ∧ Hid (SO (X2 w.heap.size A len cap q w R2 t) R1 s wr) ∧ Hid (Pr i s t)) (fun s8 _ => 50 - (intOf s8).toNat)
  case atStart => exact ⟨0, 0, _, _, by omega, rfl, by omega, HS, HP⟩
  case round =>
    obtain ⟨i, q, s, t, hi, rfl, hq, HS2, HP2⟩ := hrel
    clear HS HP
    by_cases hlt : i < 50
    · have hlt' : (i : Int) < 50 := by omega
      have HX := Lib.hid (HS2.out.nextT (n := 5) (by omega) (by omega) (by omega))
      unfold NxAns2 at HX
      clear HS2
      go_wp2_with fail
      (with_reducible refine HX.out.mono ?_); rintro e w3 ⟨k, k0, k1, rfl, hso⟩
      have HX2 := Lib.hid (hso.weightT (by omega))
      unfold NxAns2 at HX2
      clear hso HX
      go_wp2_with fail
      (with_reducible refine HX2.out.mono ?_); rintro e w4 ⟨x, x0, x1, rfl, hso⟩
      have HX3 := Lib.hid (hso.nextT (n := 5) (by omega) (by omega) (by omega))
      unfold NxAns2 at HX3
      clear hso HX2
      go_wp2_with fail
      (with_reducible refine HX3.out.mono ?_); rintro e w5 ⟨v, v0, v1, rfl, hso⟩
      have HS3 := Lib.hid hso
      clear hso HX3
      go_upto_block 2 with fail
      go_cut [50] (fun s50 wx => ∃ (q' : Nat) (s' t' : Sf), q' ≤ q + 3 ∧ Hid (SO (X2 w.heap.size A len cap q' w R2 t') R1 s' wx) ∧ Hid (Pr i s' t'))
      case first =>
        rcases (by omega : v = 0 ∨ v = 1 ∨ (¬ v = 0 ∧ ¬ v = 1)) with rfl | rfl | ⟨hv0, hv1⟩
        · have HX := Lib.hid (HS3.out.join X2.kx (f := k) (by omega) x)
          go_wp2_with fail
          (with_reducible refine HX.out.mono ?_); rintro e w6 ⟨rfl, hso⟩
          have HX2 := hso.swap.join X2.kx (f := k) (by omega) x
          rw [HP2.out.jnE] at HX2
          have HX2 := Lib.hid HX2
          obtain ⟨er, her⟩ : ∃ er, jnE s k x = er := ⟨_, rfl⟩
          rw [her] at HX2
          simp only [her]
          have hne : (er != er) = false := by simp
          clear hso HX her
          go_wp2_with fail
          (with_reducible refine HX2.out.mono ?_); rintro e w7 ⟨rfl, hso⟩
          have HF := Lib.hid hso.swap
          have HPF := Lib.hid (HP2.out.jn k x)
          clear hso HX2
          go_wp2
          go_meet
          case rel => exact ⟨_, _, _, by omega, HF, HPF⟩
        · have HX := Lib.hid (HS3.out.leave X2.kx (f := k) (by omega))
          go_wp2_with fail
          (with_reducible refine HX.out.mono ?_); rintro e w6 ⟨rfl, s', hs', hso⟩
          have hok1 := HS3.out.ok
          have hok2 := HS3.out.swap.ok
          have HX2 := hso.swap.leave X2.kx (f := k) (by omega)
          rw [HP2.out.lvE] at HX2
          have HX2 := Lib.hid HX2
          obtain ⟨er, her⟩ : ∃ er, lvE s k = er := ⟨_, rfl⟩
          rw [her] at HX2
          simp only [her]
          have hne : (er != er) = false := by simp
          have HPF := Lib.hid (fun t' (ht : LvT t k t') => HP2.out.lv hok1 hok2 hs' ht)
          clear hso HX her hok1 hok2 hs'
          go_wp2_with fail
          (with_reducible refine HX2.out.mono ?_); rintro e w7 ⟨rfl, t', ht', hso⟩
          have HF := Lib.hid hso.swap
          have HPF2 := Lib.hid (HPF.out t' ht')
          clear hso HX2 HPF ht'
          go_wp2
          go_meet
          case rel => exact ⟨_, _, _, by omega, HF, HPF2⟩
        · go_wp2
          go_meet
          case rel => exact ⟨_, _, _, by omega, HS3, HP2⟩
      case rest =>
        obtain ⟨q', s', t', hq', HS4, HP4⟩ := hcut
        clear HS3 HP2
        obtain ⟨f, g, hsel⟩ := sel_some HS4.out.ok
        have HX := Lib.hid (HS4.out.select X2.kx hsel)
        have hfb := hsel.bd
        have hsel2 := HP4.out.sel hsel
        have hok1 := HS4.out.ok
        have hok2 := HS4.out.swap.ok
        have HCH := Lib.hid (fun (l : Int) (hl : 1 ≤ l ∧ l ≤ 4096) => HP4.out.ch hok1 hok2 (by omega) hsel hl)
        have HSE := Lib.hid hsel2
        have HA1 := Lib.hid (HP4.out.l.aw (by omega))
        have HA2 := Lib.hid (HP4.out.r.aw (by omega))
        clear hsel hsel2 HS4 hok1 hok2 HP4
        go_wp2_with fail
        (with_reducible refine HX.out.mono ?_); rintro e w6 ⟨rfl, hso⟩
        have HX2 := Lib.hid (hso.swap.select X2.kx HSE.out)
        clear hso HX
        go_wp2_with fail
        (with_reducible refine HX2.out.mono ?_); rintro e w7 ⟨rfl, hso⟩
        have HX3 := Lib.hid (hso.swap.lengthT (by omega))
        unfold NxAns2 at HX3
        clear hso HX2
        go_wp2_with fail
        (with_reducible refine HX3.out.mono ?_); rintro e w8 ⟨l, l0, l1, rfl, hso⟩
        obtain ⟨er, c1, c2, c3⟩ := HCH.out l (by omega)
        have HX4 := hso.charge X2.kx hfb l HA1.out
        rw [c1] at HX4
        have HX4 := Lib.hid HX4
        have HC2 := Lib.hid c2
        have HC3 := Lib.hid c3
        have hne : (f != f) = false := by simp
        have hne2 : (g != g) = false := by simp
        have hne3 : (er != er) = false := by simp
        clear hso HX3 HCH c1 c2 c3
        go_wp2_with fail
        (with_reducible refine HX4.out.mono ?_); rintro e w9 ⟨rfl, s2, hs2, hso⟩
        have HX5 := hso.swap.charge X2.kx hfb l HA2.out
        rw [HC2.out] at HX5
        have HX5 := Lib.hid HX5
        have HC4 := Lib.hid (fun t2 (ht : ChT t' f l t2) => HC3.out s2 t2 hs2 ht)
        clear hso HX4 HC2 HC3 hs2
        go_wp2_with fail
        (with_reducible refine HX5.out.mono ?_); rintro e w10 ⟨rfl, t2, ht2, hso⟩
        have HF := Lib.hid hso.swap
        have HPF := Lib.hid (HC4.out t2 ht2)
        clear hso HX5 HC4 ht2
        go_wp2
        go_roundw
        case rel => exact ⟨i + 1, q' + 1, s2, t2, by omega, by go_num, by omega, HF, HPF⟩
        case measure => simp [intOf]; omega
    · obtain rfl : i = 50 := by omega
      have HX := Lib.hid (HAW.out wr)
      have HF := Lib.hid HS2.out.has2.2
      clear HS2 HP2
      go_wp2_with fail
      (with_reducible refine HX.out.mono ?_); rintro e w3 ⟨rfl, hb⟩
      have HF2 := Lib.hid (HF.out.trans (hb.mono HF.out.size))
      clear hb HF HX
      go_wp2
      go_ret
      exact ⟨rfl, HF2.out⟩
end Go.Proofs.Ytkfhjpgapmfiaaa

