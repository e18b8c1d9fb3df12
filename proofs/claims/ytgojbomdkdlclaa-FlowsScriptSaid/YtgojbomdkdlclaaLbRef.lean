/-
  Layer 7: contract of the reference's runes. Every string of up to 2000000 bytes.
-/
import Derived.Test.YtgojbomdkdlclaaLbProg
import Derived.OwnWalk
import Derived.IntWalk
import Derived.BigRegion
namespace Go.Proofs.Ytgojbomdkdlclaa
open Go.ChangeShapes Go.WideShapes Go.ChangeAt Go.RowKit
set_option linter.unusedVariables false

/-- Runes as memory holds them. -/
def rc (l : List Nat) : List Value := l.map fun (r : Nat) => .int .i64 (r : Int)
theorem rc_app (l : List Nat) (r : Nat) : rc l ++ [.int .i64 (r : Int)] = rc (l ++ [r]) := by simp [rc]
theorem rcCell (w : World) (x : Value) (t : TypeId) : ∀ j u, [x][j]? = some u → (w.alloc (.cells #[x] t)).cell? ((⟨w.heap.size, 0, none⟩ : Addr).add j) = some u := by
  intro j u hj
  have h : ((⟨w.heap.size, 0, none⟩ : Addr).add j) = ⟨w.heap.size, j, none⟩ := by unfold Addr.add; split <;> simp_all
  rw [h]
  have e := (MapKept.heap_alloc w (.cells #[x] t)).1
  simp only [World.cell?, e]
  simpa using hj
theorem rcOne (x : Int) : ∀ u ∈ [Value.int .i64 x], u.oneCell' = true := by
  intro u hu; simp at hu; rcases hu with rfl; rfl
theorem rcBlock {w : World} {base : Nat} {e : TypeId} {size : Nat} {v : Value} {n : Nat} {xs : List Value} (h : w.ownsRow base e size v n xs) : ∀ k, v.ownBlock = some k → base ≤ k := by
  intro k hk
  rcases h.2 with ⟨hv, _⟩ | ⟨g, cap, cur, hv, hg, _⟩
  · subst hv; cases hk
  · subst hv; simp [Value.ownBlock] at hk; omega
theorem rcInfo : (Try.prog.info? 3).map (fun i => (i.zero, i.size, i.bytes)) = some (some (.int .i64 0), 1, 8) := by kernel_rfl
/-- A slice of the call's own holds the runes acc; nothing old has turned. -/
def RAt (w : World) (acc : List Nat) (v : Value) (wr : World) : Prop := wr.ownsRow w.heap.size 3 1 v acc.length (rc acc) ∧ Below w.heap.size w wr
theorem RAt.start (w : World) : RAt w [] (.slice none 0 0) w := ⟨⟨by simp [rc], .inl ⟨rfl, rfl⟩⟩, Below.refl _ _⟩
theorem RAt.next {w : World} {acc : List Nat} {v v' : Value} {wr w' : World} {o : Obj} {r : Nat} (h : RAt w acc v wr)
    (hown : w'.ownsRow w.heap.size 3 1 v' (acc.length + 1) (rc acc ++ [.int .i64 (r : Int)])) (hg : (wr.alloc o).grownBy w' v.ownBlock) : RAt w (acc ++ [r]) v' w' := by
  rw [rc_app] at hown
  refine ⟨by rw [List.length_append]; exact hown, (h.2.alloc h.2.size o).grown hg (by have := h.2.size; simp; omega) (rcBlock h.1)⟩
/-- What runes answers. -/
def RunAns (s : ByteArray) (w : World) (e : Ending) (w' : World) : Prop :=
  Below w.heap.size w w' ∧ match rs s with
  | none => e = .returned (.tuple #[.slice none 0 0, .bool false])
  | some l => ∃ v, e = .returned (.tuple #[v, .bool true]) ∧ w'.ownsRow w.heap.size 3 1 v l.length (rc l)
theorem RunAns.no {s : ByteArray} {w w' : World} (h : rs s = none) (hb : Below w.heap.size w w') : RunAns s w (.returned (.tuple #[.slice none 0 0, .bool false])) w' := by
  refine ⟨hb, ?_⟩; rw [h]
theorem RunAns.yes {s : ByteArray} {w w' : World} {v : Value} {l : List Nat} (h : rs s = some l) (hr : RAt w l v w') : RunAns s w (.returned (.tuple #[v, .bool true])) w' := by
  refine ⟨hr.2, ?_⟩; rw [h]; exact ⟨v, rfl, hr.1⟩
theorem bt_int (s : ByteArray) (i : Nat) (h : i < s.size) : ((s[i]'h).toNat : Int) = (bt s i : Int) := by rw [bt_get]
theorem bt_two (s : ByteArray) (i k : Nat) (g1 : 0 ≤ (i : Int) + (k : Int)) (g2 : (i : Int) + (k : Int) < s.size) : ((s[((i : Int) + (k : Int)).toNat]'(by omega)).toNat : Int) = (bt s (i + k) : Int) := by
  have et : ((i : Int) + (k : Int)).toNat = i + k := by omega
  simp only [et]; exact bt_int s (i + k) (by omega)
/-- What has been read of a rune when k of its bytes have been: r0 of the first. -/
def prt (s : ByteArray) (i r0 : Nat) : Nat → Nat
  | 0 => r0
  | k + 1 => if k = 0 then r0 else prt s i r0 k * 64 + bt s (i + k) - 128
theorem prt_next (s : ByteArray) (i r0 k : Nat) (h : 1 ≤ k) : prt s i r0 (k + 1) = prt s i r0 k * 64 + bt s (i + k) - 128 := by rw [prt, if_neg (by omega)]
theorem prt_le {s : ByteArray} {i r0 : Nat} (h : r0 ≤ 31) : ∀ k, (∀ j, 1 ≤ j → j < k → CntN s (i + j)) → prt s i r0 k + 1 ≤ 32 * 64 ^ k
  | 0, _ => by simp [prt]; omega
  | k + 1, hc => by
    by_cases h0 : k = 0
    · subst h0; rw [prt, if_pos rfl]; omega
    · rw [prt_next s i r0 k (by omega)]
      have ih := prt_le h k (fun j h1 h2 => hc j h1 (by omega))
      have := hc k (by omega) (by omega)
      unfold CntN at this
      have e : 32 * 64 ^ (k + 1) = 32 * 64 ^ k * 64 := by rw [Nat.pow_succ, Nat.mul_assoc]
      omega
/-- The first byte at i says that n bytes make a rune of at least 'least'; r0 is what it has of the rune. -/
structure Cls (s : ByteArray) (i n least r0 : Nat) : Prop where
  yes : i + n ≤ s.size → (∀ j, 1 ≤ j → j < n → CntN s (i + j)) → least ≤ prt s i r0 n → prt s i r0 n ≤ 1114111 → (prt s i r0 n < 55296 ∨ 57344 ≤ prt s i r0 n) → Utf8.decode s i = (prt s i r0 n, n)
  range : i + n ≤ s.size → (∀ j, 1 ≤ j → j < n → CntN s (i + j)) → ¬ (least ≤ prt s i r0 n ∧ prt s i r0 n ≤ 1114111 ∧ (prt s i r0 n < 55296 ∨ 57344 ≤ prt s i r0 n)) → ¬ Good (Utf8.decode s i)
  short : s.size < i + n → ¬ Good (Utf8.decode s i)
  cont : i + n ≤ s.size → ∀ j, 1 ≤ j → j < n → ¬ CntN s (i + j) → ¬ Good (Utf8.decode s i)
  bd : r0 ≤ 31
theorem bad_of {s : ByteArray} {i : Nat} (h : Utf8.decode s i = (65533, 1)) : ¬ Good (Utf8.decode s i) := fun hg => hg h
theorem cls2 {s : ByteArray} {i : Nat} (h : 194 ≤ bt s i) (h' : bt s i < 224) : Cls s i 2 128 (bt s i - 192) := by
  have e : prt s i (bt s i - 192) 2 = (bt s i - 192) * 64 + bt s (i + 1) - 128 := by simp [prt]
  have hb := bt_lt s (i + 1)
  refine ⟨fun h1 h2 h3 h4 h5 => by rw [e]; exact dec_two h h' h1 (h2 1 (by omega) (by omega)), fun h1 h2 h3 => ?_, fun h1 => bad_of (dec_two_no h h' (by omega)), fun h1 j h2 h3 h4 => bad_of (dec_two_no h h' (fun k => ?_)), by omega⟩
  · exfalso; apply h3
    have := h2 1 (by omega) (by omega)
    unfold CntN at this
    omega
  · obtain rfl : j = 1 := by omega
    exact h4 k.2
theorem cls3 {s : ByteArray} {i : Nat} (h : 224 ≤ bt s i) (h' : bt s i < 240) : Cls s i 3 2048 (bt s i - 224) := by
  have e : prt s i (bt s i - 224) 3 = ((bt s i - 224) * 64 + bt s (i + 1) - 128) * 64 + bt s (i + 2) - 128 := by simp [prt]
  refine ⟨fun h1 h2 h3 h4 h5 => ?_, fun h1 h2 h3 => bad_of ?_, fun h1 => bad_of (dec_three_no h h' (by omega)), fun h1 j h2 h3 h4 => bad_of (dec_three_no h h' (fun k => ?_)), by omega⟩
  · rw [dec_three h h' h1 (h2 1 (by omega) (by omega)) (h2 2 (by omega) (by omega)) e.symm, if_pos ⟨h3, h5⟩]
  · rw [dec_three h h' h1 (h2 1 (by omega) (by omega)) (h2 2 (by omega) (by omega)) e.symm, if_neg]
    have hb := bt_lt s (i + 2)
    have k1 := h2 1 (by omega) (by omega)
    have k2 := h2 2 (by omega) (by omega)
    unfold CntN at k1 k2
    omega
  · rcases (by omega : j = 1 ∨ j = 2) with rfl | rfl
    · exact h4 k.2.1
    · exact h4 k.2.2
theorem cls4 {s : ByteArray} {i : Nat} (h : 240 ≤ bt s i) (h' : bt s i < 245) : Cls s i 4 65536 (bt s i - 240) := by
  have e : prt s i (bt s i - 240) 4 = (((bt s i - 240) * 64 + bt s (i + 1) - 128) * 64 + bt s (i + 2) - 128) * 64 + bt s (i + 3) - 128 := by simp [prt]
  refine ⟨fun h1 h2 h3 h4 h5 => ?_, fun h1 h2 h3 => bad_of ?_, fun h1 => bad_of (dec_four_no h h' (by omega)), fun h1 j h2 h3 h4 => bad_of (dec_four_no h h' (fun k => ?_)), by omega⟩
  · rw [dec_four h h' h1 (h2 1 (by omega) (by omega)) (h2 2 (by omega) (by omega)) (h2 3 (by omega) (by omega)) e.symm, if_pos ⟨h3, h4⟩]
  · rw [dec_four h h' h1 (h2 1 (by omega) (by omega)) (h2 2 (by omega) (by omega)) (h2 3 (by omega) (by omega)) e.symm, if_neg]
    omega
  · rcases (by omega : j = 1 ∨ j = 2 ∨ j = 3) with rfl | rfl | rfl
    · exact h4 k.2.1
    · exact h4 k.2.2.1
    · exact h4 k.2.2.2
theorem grown_undrew {a w' : World} {b : Option Nat} (h : a.drew.grownBy w' b) : a.grownBy w' b := ⟨h.os, h.tape, h.output, h.size, h.block⟩
theorem pow_four {k : Nat} (h : k ≤ 4) : 32 * 64 ^ k ≤ 536870912 := by
  have : 64 ^ k ≤ 64 ^ 4 := Nat.pow_le_pow_right (by omega) h
  omega
set_option maxHeartbeats 8000000 in
set_option maxRecDepth 100000 in
theorem runes_any (s : ByteArray) (w : World) (hs : s.size ≤ 2000000) : Calls Try.prog 55 #[.string s] w (RunAns s w) := by
  obtain ⟨i0, hii, hz0, hz1, hz2⟩ := info_parts rcInfo
  have P0 := Lib.hid (RAt.start w)
  go_enter Try.func55, Try.ntmps55
  go_wp2
  go_loopw [4, 5] (fun v s5 wr => ∃ (i f : Nat) (acc : List Nat), i ≤ s.size ∧ s.size ≤ i + f ∧ s5 = .int .i64 i ∧ acc.length ≤ i ∧ Hid (RAt w acc v wr) ∧ Hid ((rsF s f i).map (acc ++ ·) = rs s)) (fun _ s5 _ => s.size - (intOf s5).toNat)
  case atStart => exact ⟨0, s.size, [], by omega, by omega, rfl, by simp, P0, Lib.hid (by unfold rs; cases rsF s s.size 0 <;> simp)⟩
  case round =>
    obtain ⟨i, f, acc, hi, hf, rfl, hl, HR, HE⟩ := hrel
    clear P0
    by_cases hp : i < s.size
    · obtain ⟨g, rfl⟩ : ∃ g, f = g + 1 := ⟨f - 1, by omega⟩
      have hv0 := bt_int s i hp
      have HN := Lib.hid (fun (h : ¬ Good (Utf8.decode s i)) => show rs s = none by rw [← HE.out, rsF_bad hp h]; rfl)
      have HY := Lib.hid (fun (r n : Nat) (h : Utf8.decode s i = (r, n)) (hg : Good (r, n)) => show (rsF s g (i + n)).map ((acc ++ [r]) ++ ·) = rs s by
        rw [← HE.out, rsF_ok hp (by rw [h]; exact hg), h]
        show _ = ((rsF s g (i + n)).map (r :: ·)).map (acc ++ ·)
        cases rsF s g (i + n) <;> simp)
      have hq := bt_lt s i
      have HX := Lib.hid (fun v' w' o r => HR.out.next (v' := v') (w' := w') (o := o) (r := r))
      have hBw := Lib.hid HR.out.2
      have hwr := HR.out.2.size
      have HO := Lib.hid (fun r : Nat => HR.out.1.alloc (.cells #[.int .i64 (r : Int)] 3))
      clear HE HR
      by_cases c1 : bt s i < 128
      · have HY' := Lib.hid (HY.out _ _ (dec_one c1) (by unfold Good; simp; omega))
        have c1' : (bt s i : Int) < 128 := by omega
        clear HY HN
        generalize bt s i = b at *
        have hown := HO.out b
        clear HO
        go_wp2
        go_region
        go_wp2
        go_loop [8, 9] (fun s8 s9 => s8 = .int .i64 b ∧ s9 = .int .i64 1) (fun _ _ => 0)
        case atStart => exact ⟨rfl, rfl⟩
        case round =>
          obtain ⟨rfl, rfl⟩ := hrel
          go_wp2_with (at_builtin; refine wpList_append_own _ rfl (.tmp 112) (.tmp 114) 22 rfl w.heap.size 3 i0 (.int .i64 0) 1 8 Try.underlying22 hii hz0 hz1 hz2 rfl (by decide) _ acc.length (rc acc) rfl hown ⟨wr.heap.size, 0, none⟩ 1 1 [.int .i64 (b : Int)] rfl rfl (rcCell _ _ _) (rcOne _) (by unfold maxLen; omega) (by omega) (by simp; omega) ?_; intro v4 w4 hown4 hg4 _)
          have HR := Lib.hid (HX.out _ _ (.cells #[.int .i64 (b : Int)] 3) b hown4 (grown_undrew hg4))
          clear hown hown4 hg4 HX hBw
          go_wp2
          go_roundw
          case rel => exact ⟨i + 1, g, acc ++ [b], by omega, by omega, by go_num, by simp; omega, HR, HY'⟩
          case measure => simp [intOf]; omega
      · by_cases c0 : bt s i < 194 ∨ 245 ≤ bt s i
        · have HF := Lib.hid (RunAns.no (s := s) (w := w) (w' := wr.drew) (HN.out (bad_of (dec_lead (by omega) c0))) hBw.out.drew)
          have c1' : (128 : Int) ≤ bt s i := by omega
          clear HY HN HX HO hBw
          generalize bt s i = b at *
          rcases c0 with c0 | c0
          · have c0' : (b : Int) < 194 := by omega
            go_wp2
            go_region
            go_wp2
            go_ret2
            exact HF.out
          · have c0' : (245 : Int) ≤ b := by omega
            go_wp2
            go_region
            go_wp2
            go_ret2
            exact HF.out
        · by_cases c2 : bt s i < 224
          · obtain ⟨r0, hr0⟩ : ∃ r0, bt s i = r0 + 192 := ⟨bt s i - 192, by omega⟩
            have HC := cls2 (s := s) (i := i) (by omega) (by omega)
            rw [show bt s i - 192 = r0 by omega] at HC
            have hr1 := HC.bd
            have hr2 : 2 ≤ r0 := by omega
            have hr3 : r0 < 32 := by omega
            have HC := Lib.hid HC
            rw [hr0] at hv0
            have hv0 : ((s[i]).toNat : Int) = (r0 : Int) + 192 := by rw [hv0]; omega
            clear c0 c1 hr0 hq c2
            by_cases hz : i + 2 ≤ s.size
            · go_wp2
              go_region
              go_wp2
              go_loop [8, 9] (fun s8 s9 => ∃ k : Nat, 1 ≤ k ∧ k ≤ 2 ∧ s9 = .int .i64 k ∧ s8 = .int .i64 (prt s i r0 k : Nat) ∧ Hid (∀ j, 1 ≤ j → j < k → CntN s (i + j))) (fun _ s9 => 2 - (intOf s9).toNat)
              case atStart => exact ⟨1, by omega, by omega, rfl, rfl, Lib.hid (fun j h1 h2 => by omega)⟩
              case round =>
                obtain ⟨k, k1, k2, rfl, rfl, HK⟩ := hrel
                have hP := prt_le (s := s) (i := i) hr1 k HK.out
                have hP2 := pow_four (k := k) (by omega)
                have hP3 : prt s i r0 k ≤ 536870912 := by omega
                clear hP hP2
                by_cases hk : k < 2
                · have g1 : (0 : Int) ≤ (i : Int) + (k : Int) := by omega
                  have g2 : (i : Int) + (k : Int) < (s.size : Int) := by omega
                  have hv := bt_two s i k g1 g2
                  have hq := bt_lt s (i + k)
                  have hnx := Lib.hid (prt_next s i r0 k k1)
                  by_cases d : CntN s (i + k)
                  · have HK' := Lib.hid (fun j (h1 : 1 ≤ j) (h2 : j < k + 1) => show CntN s (i + j) by
                      rcases (by omega : j < k ∨ j = k) with h3 | rfl
                      · exact HK.out j h1 h3
                      · exact d)
                    unfold CntN at d
                    clear HK
                    generalize bt s (i + k) = y at *
                    generalize prt s i r0 k = P at *
                    go_wp2
                    go_round
                    case rel => exact ⟨_, _, .int .i64 ((P : Int) * 64 + y - 128), .int .i64 ((k : Int) + 1), ⟨k + 1, by omega, by omega, by go_num, by rw [hnx.out]; congr 1; omega, HK'⟩, rfl, rfl, rfl, rfl⟩
                    case measure => simp [intOf]; omega
                  · have HF := Lib.hid (RunAns.no (s := s) (w := w) (w' := wr.drew) (HN.out (HC.out.cont hz k k1 hk d)) hBw.out.drew)
                    unfold CntN at d
                    clear HK hnx
                    generalize bt s (i + k) = y at *
                    generalize prt s i r0 k = P at *
                    rcases (by omega : y < 128 ∨ (128 ≤ y ∧ 192 ≤ y)) with d1 | ⟨d1, d2⟩
                    · go_wp2
                      go_ret2
                      exact HF.out
                    · go_wp2
                      go_ret2
                      exact HF.out
                · obtain rfl : k = 2 := by omega
                  by_cases d : 128 ≤ prt s i r0 2 ∧ prt s i r0 2 ≤ 1114111 ∧ (prt s i r0 2 < 55296 ∨ 57344 ≤ prt s i r0 2)
                  · have HY' := Lib.hid (HY.out _ _ (HC.out.yes hz HK.out d.1 d.2.1 d.2.2) (by unfold Good; simp))
                    clear HC HK HN HY
                    obtain ⟨d1, d2, d3⟩ := d
                    generalize prt s i r0 2 = b at *
                    have hown := HO.out b
                    clear HO
                    rcases (by omega : b < 55296 ∨ (55296 ≤ b ∧ 57344 ≤ b)) with d4 | ⟨d4, d5⟩
                    all_goals
                      go_wp2_with (at_builtin; refine wpList_append_own _ rfl (.tmp 112) (.tmp 114) 22 rfl w.heap.size 3 i0 (.int .i64 0) 1 8 Try.underlying22 hii hz0 hz1 hz2 rfl (by decide) _ acc.length (rc acc) rfl hown ⟨wr.heap.size, 0, none⟩ 1 1 [.int .i64 (b : Int)] rfl rfl (rcCell _ _ _) (rcOne _) (by unfold maxLen; omega) (by omega) (by simp; omega) ?_; intro v4 w4 hown4 hg4 _)
                      have HR := Lib.hid (HX.out _ _ (.cells #[.int .i64 (b : Int)] 3) b hown4 (grown_undrew hg4))
                      clear hown hown4 hg4 HX hBw
                      go_wp2
                      go_roundw
                      case rel => exact ⟨i + 2, g, acc ++ [b], by omega, by omega, by go_num, by simp; omega, HR, HY'⟩
                      case measure => simp [intOf]; omega
                  · have HF := Lib.hid (RunAns.no (s := s) (w := w) (w' := wr.drew) (HN.out (HC.out.range hz HK.out d)) hBw.out.drew)
                    clear HC HK HN HY HX HO hBw
                    generalize prt s i r0 2 = b at *
                    rcases (by omega : b < 128 ∨ (128 ≤ b ∧ 1114111 < b) ∨ (128 ≤ b ∧ b ≤ 1114111 ∧ 55296 ≤ b ∧ b < 57344)) with d1 | ⟨d1, d2⟩ | ⟨d1, d2, d3, d4⟩
                    all_goals
                      clear d
                      go_wp2
                      go_ret2
                      exact HF.out
            · have HF := Lib.hid (RunAns.no (s := s) (w := w) (w' := wr.drew) (HN.out (HC.out.short (by omega))) hBw.out.drew)
              have hz' : (s.size : Int) < (i : Int) + 2 := by omega
              clear HC HN HY HX HO hBw
              go_wp2
              go_region
              go_wp2
              go_ret2
              exact HF.out
          · by_cases c3 : bt s i < 240
            · obtain ⟨r0, hr0⟩ : ∃ r0, bt s i = r0 + 224 := ⟨bt s i - 224, by omega⟩
              have HC := cls3 (s := s) (i := i) (by omega) (by omega)
              rw [show bt s i - 224 = r0 by omega] at HC
              have hr1 := HC.bd
              have hr2 : r0 < 16 := by omega
              have hr3 : r0 < 16 := by omega
              have HC := Lib.hid HC
              rw [hr0] at hv0
              have hv0 : ((s[i]).toNat : Int) = (r0 : Int) + 224 := by rw [hv0]; omega
              clear c0 c1 hr0 hq c2 c3
              by_cases hz : i + 3 ≤ s.size
              · go_wp2
                go_region
                go_wp2
                go_loop [8, 9] (fun s8 s9 => ∃ k : Nat, 1 ≤ k ∧ k ≤ 3 ∧ s9 = .int .i64 k ∧ s8 = .int .i64 (prt s i r0 k : Nat) ∧ Hid (∀ j, 1 ≤ j → j < k → CntN s (i + j))) (fun _ s9 => 3 - (intOf s9).toNat)
                case atStart => exact ⟨1, by omega, by omega, rfl, rfl, Lib.hid (fun j h1 h2 => by omega)⟩
                case round =>
                  obtain ⟨k, k1, k2, rfl, rfl, HK⟩ := hrel
                  have hP := prt_le (s := s) (i := i) hr1 k HK.out
                  have hP2 := pow_four (k := k) (by omega)
                  have hP3 : prt s i r0 k ≤ 536870912 := by omega
                  clear hP hP2
                  by_cases hk : k < 3
                  · have g1 : (0 : Int) ≤ (i : Int) + (k : Int) := by omega
                    have g2 : (i : Int) + (k : Int) < (s.size : Int) := by omega
                    have hv := bt_two s i k g1 g2
                    have hq := bt_lt s (i + k)
                    have hnx := Lib.hid (prt_next s i r0 k k1)
                    by_cases d : CntN s (i + k)
                    · have HK' := Lib.hid (fun j (h1 : 1 ≤ j) (h2 : j < k + 1) => show CntN s (i + j) by
                        rcases (by omega : j < k ∨ j = k) with h3 | rfl
                        · exact HK.out j h1 h3
                        · exact d)
                      unfold CntN at d
                      clear HK
                      generalize bt s (i + k) = y at *
                      generalize prt s i r0 k = P at *
                      go_wp2
                      go_round
                      case rel => exact ⟨_, _, .int .i64 ((P : Int) * 64 + y - 128), .int .i64 ((k : Int) + 1), ⟨k + 1, by omega, by omega, by go_num, by rw [hnx.out]; congr 1; omega, HK'⟩, rfl, rfl, rfl, rfl⟩
                      case measure => simp [intOf]; omega
                    · have HF := Lib.hid (RunAns.no (s := s) (w := w) (w' := wr.drew) (HN.out (HC.out.cont hz k k1 hk d)) hBw.out.drew)
                      unfold CntN at d
                      clear HK hnx
                      generalize bt s (i + k) = y at *
                      generalize prt s i r0 k = P at *
                      rcases (by omega : y < 128 ∨ (128 ≤ y ∧ 192 ≤ y)) with d1 | ⟨d1, d2⟩
                      · go_wp2
                        go_ret2
                        exact HF.out
                      · go_wp2
                        go_ret2
                        exact HF.out
                  · obtain rfl : k = 3 := by omega
                    by_cases d : 2048 ≤ prt s i r0 3 ∧ prt s i r0 3 ≤ 1114111 ∧ (prt s i r0 3 < 55296 ∨ 57344 ≤ prt s i r0 3)
                    · have HY' := Lib.hid (HY.out _ _ (HC.out.yes hz HK.out d.1 d.2.1 d.2.2) (by unfold Good; simp))
                      clear HC HK HN HY
                      obtain ⟨d1, d2, d3⟩ := d
                      generalize prt s i r0 3 = b at *
                      have hown := HO.out b
                      clear HO
                      rcases (by omega : b < 55296 ∨ (55296 ≤ b ∧ 57344 ≤ b)) with d4 | ⟨d4, d5⟩
                      all_goals
                        go_wp2_with (at_builtin; refine wpList_append_own _ rfl (.tmp 112) (.tmp 114) 22 rfl w.heap.size 3 i0 (.int .i64 0) 1 8 Try.underlying22 hii hz0 hz1 hz2 rfl (by decide) _ acc.length (rc acc) rfl hown ⟨wr.heap.size, 0, none⟩ 1 1 [.int .i64 (b : Int)] rfl rfl (rcCell _ _ _) (rcOne _) (by unfold maxLen; omega) (by omega) (by simp; omega) ?_; intro v4 w4 hown4 hg4 _)
                        have HR := Lib.hid (HX.out _ _ (.cells #[.int .i64 (b : Int)] 3) b hown4 (grown_undrew hg4))
                        clear hown hown4 hg4 HX hBw
                        go_wp2
                        go_roundw
                        case rel => exact ⟨i + 3, g, acc ++ [b], by omega, by omega, by go_num, by simp; omega, HR, HY'⟩
                        case measure => simp [intOf]; omega
                    · have HF := Lib.hid (RunAns.no (s := s) (w := w) (w' := wr.drew) (HN.out (HC.out.range hz HK.out d)) hBw.out.drew)
                      clear HC HK HN HY HX HO hBw
                      generalize prt s i r0 3 = b at *
                      rcases (by omega : b < 2048 ∨ (2048 ≤ b ∧ 1114111 < b) ∨ (2048 ≤ b ∧ b ≤ 1114111 ∧ 55296 ≤ b ∧ b < 57344)) with d1 | ⟨d1, d2⟩ | ⟨d1, d2, d3, d4⟩
                      all_goals
                        clear d
                        go_wp2
                        go_ret2
                        exact HF.out
              · have HF := Lib.hid (RunAns.no (s := s) (w := w) (w' := wr.drew) (HN.out (HC.out.short (by omega))) hBw.out.drew)
                have hz' : (s.size : Int) < (i : Int) + 3 := by omega
                clear HC HN HY HX HO hBw
                go_wp2
                go_region
                go_wp2
                go_ret2
                exact HF.out
            · obtain ⟨r0, hr0⟩ : ∃ r0, bt s i = r0 + 240 := ⟨bt s i - 240, by omega⟩
              have HC := cls4 (s := s) (i := i) (by omega) (by omega)
              rw [show bt s i - 240 = r0 by omega] at HC
              have hr1 := HC.bd
              have hr2 : r0 < 5 := by omega
              have hr3 : r0 < 5 := by omega
              have HC := Lib.hid HC
              rw [hr0] at hv0
              have hv0 : ((s[i]).toNat : Int) = (r0 : Int) + 240 := by rw [hv0]; omega
              clear c0 c1 hr0 hq c2 c3
              by_cases hz : i + 4 ≤ s.size
              · go_wp2
                go_region
                go_wp2
                go_loop [8, 9] (fun s8 s9 => ∃ k : Nat, 1 ≤ k ∧ k ≤ 4 ∧ s9 = .int .i64 k ∧ s8 = .int .i64 (prt s i r0 k : Nat) ∧ Hid (∀ j, 1 ≤ j → j < k → CntN s (i + j))) (fun _ s9 => 4 - (intOf s9).toNat)
                case atStart => exact ⟨1, by omega, by omega, rfl, rfl, Lib.hid (fun j h1 h2 => by omega)⟩
                case round =>
                  obtain ⟨k, k1, k2, rfl, rfl, HK⟩ := hrel
                  have hP := prt_le (s := s) (i := i) hr1 k HK.out
                  have hP2 := pow_four (k := k) (by omega)
                  have hP3 : prt s i r0 k ≤ 536870912 := by omega
                  clear hP hP2
                  by_cases hk : k < 4
                  · have g1 : (0 : Int) ≤ (i : Int) + (k : Int) := by omega
                    have g2 : (i : Int) + (k : Int) < (s.size : Int) := by omega
                    have hv := bt_two s i k g1 g2
                    have hq := bt_lt s (i + k)
                    have hnx := Lib.hid (prt_next s i r0 k k1)
                    by_cases d : CntN s (i + k)
                    · have HK' := Lib.hid (fun j (h1 : 1 ≤ j) (h2 : j < k + 1) => show CntN s (i + j) by
                        rcases (by omega : j < k ∨ j = k) with h3 | rfl
                        · exact HK.out j h1 h3
                        · exact d)
                      unfold CntN at d
                      clear HK
                      generalize bt s (i + k) = y at *
                      generalize prt s i r0 k = P at *
                      go_wp2
                      go_round
                      case rel => exact ⟨_, _, .int .i64 ((P : Int) * 64 + y - 128), .int .i64 ((k : Int) + 1), ⟨k + 1, by omega, by omega, by go_num, by rw [hnx.out]; congr 1; omega, HK'⟩, rfl, rfl, rfl, rfl⟩
                      case measure => simp [intOf]; omega
                    · have HF := Lib.hid (RunAns.no (s := s) (w := w) (w' := wr.drew) (HN.out (HC.out.cont hz k k1 hk d)) hBw.out.drew)
                      unfold CntN at d
                      clear HK hnx
                      generalize bt s (i + k) = y at *
                      generalize prt s i r0 k = P at *
                      rcases (by omega : y < 128 ∨ (128 ≤ y ∧ 192 ≤ y)) with d1 | ⟨d1, d2⟩
                      · go_wp2
                        go_ret2
                        exact HF.out
                      · go_wp2
                        go_ret2
                        exact HF.out
                  · obtain rfl : k = 4 := by omega
                    by_cases d : 65536 ≤ prt s i r0 4 ∧ prt s i r0 4 ≤ 1114111 ∧ (prt s i r0 4 < 55296 ∨ 57344 ≤ prt s i r0 4)
                    · have HY' := Lib.hid (HY.out _ _ (HC.out.yes hz HK.out d.1 d.2.1 d.2.2) (by unfold Good; simp))
                      clear HC HK HN HY
                      obtain ⟨d1, d2, d3⟩ := d
                      generalize prt s i r0 4 = b at *
                      have hown := HO.out b
                      clear HO
                      have d4 : 57344 ≤ b := by omega
                      all_goals
                        go_wp2_with (at_builtin; refine wpList_append_own _ rfl (.tmp 112) (.tmp 114) 22 rfl w.heap.size 3 i0 (.int .i64 0) 1 8 Try.underlying22 hii hz0 hz1 hz2 rfl (by decide) _ acc.length (rc acc) rfl hown ⟨wr.heap.size, 0, none⟩ 1 1 [.int .i64 (b : Int)] rfl rfl (rcCell _ _ _) (rcOne _) (by unfold maxLen; omega) (by omega) (by simp; omega) ?_; intro v4 w4 hown4 hg4 _)
                        have HR := Lib.hid (HX.out _ _ (.cells #[.int .i64 (b : Int)] 3) b hown4 (grown_undrew hg4))
                        clear hown hown4 hg4 HX hBw
                        go_wp2
                        go_roundw
                        case rel => exact ⟨i + 4, g, acc ++ [b], by omega, by omega, by go_num, by simp; omega, HR, HY'⟩
                        case measure => simp [intOf]; omega
                    · have HF := Lib.hid (RunAns.no (s := s) (w := w) (w' := wr.drew) (HN.out (HC.out.range hz HK.out d)) hBw.out.drew)
                      clear HC HK HN HY HX HO hBw
                      generalize prt s i r0 4 = b at *
                      rcases (by omega : b < 65536 ∨ (65536 ≤ b ∧ 1114111 < b)) with d1 | ⟨d1, d2⟩
                      all_goals
                        clear d
                        go_wp2
                        go_ret2
                        exact HF.out
              · have HF := Lib.hid (RunAns.no (s := s) (w := w) (w' := wr.drew) (HN.out (HC.out.short (by omega))) hBw.out.drew)
                have hz' : (s.size : Int) < (i : Int) + 4 := by omega
                clear HC HN HY HX HO hBw
                go_wp2
                go_region
                go_wp2
                go_ret2
                exact HF.out
    · have HF := Lib.hid (RunAns.yes (s := s) (l := acc) (by rw [← HE.out, rsF_end hp]; simp) HR.out)
      clear HE HR
      go_wp2
      go_ret2
      exact HF.out
end Go.Proofs.Ytgojbomdkdlclaa

