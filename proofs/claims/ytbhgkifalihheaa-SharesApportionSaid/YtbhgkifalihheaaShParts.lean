/-
  The generator's Parts (package airsharegen): a valid list of at most n parts, n <= 10.
-/
import Derived.Test.YtbhgkifalihheaaShEq
namespace Go.Proofs.Ytbhgkifalihheaa
open Go.ChangeShapes Go.WideShapes Go.ChangeAt Go.RowKit
set_option linter.unusedVariables false

theorem PartsAt.push {B : Nat} {a : Option Addr} {len cap K q' j : Nat} {w0 W w1 w2 : World} {v v' : Value} {x : Int} {I V : Nat → Int} {r : Int} {o : Obj}
    (hB : B < W.heap.size) (hq' : q' ≤ K + 4 * (j + 1)) (hok : ∀ i, i < j → okPart I V i ∧ I i ≤ 3 * (i : Int) + 2) (r0 : 0 ≤ r) (r1 : r < 3) (x0 : 1 ≤ x) (x1 : x ≤ 2147483648)
    (hg : Has B a len cap q' w0 w1) (ho : Only B W w1) (hown : (w1.alloc o).ownsRow W.heap.size 39 2 v j (flatP I V j))
    (hown' : w2.ownsRow W.heap.size 39 2 v' (j + 1) (flatP I V j ++ [.int .i64 (before I j + (1 + r)), .int .i64 x])) (hgr : (w1.alloc o).grownBy w2 v.ownBlock) :
    PartsAt B a len cap K w0 W (j + 1) v' (before I j + (1 + r)) w2 := by
  have hvb : ∀ k, v.ownBlock = some k → W.heap.size ≤ k := by
    intro k hk
    rcases hown.2 with ⟨hv, _⟩ | ⟨g, cap', cur, hv, hg', _⟩
    · subst hv; cases hk
    · subst hv; simp [Value.ownBlock] at hk; omega
  have hb : Below W.heap.size w1 w2 := ((Below.refl _ _).alloc ho.size o).grown hgr (by simp; have := ho.size; omega) hvb
  have hge := before_ge (I := I) (V := V) (i := j) (fun i hi => (hok i hi).1)
  have hbe : before I j ≤ 3 * (j : Int) - 1 := by
    unfold before; split
    · omega
    · have := (hok (j - 1) (by omega)).2; omega
  have hbc : before (upd I j (before I j + (1 + r))) (j + 1) = before I j + (1 + r) := by
    show (if j + 1 = 0 then -1 else upd I j (before I j + (1 + r)) (j + 1 - 1)) = _
    rw [if_neg (by omega), show j + 1 - 1 = j by omega, upd_at]
  refine ⟨upd I j (before I j + (1 + r)), upd V j x, q', by omega, ⟨hg.1.kept (hb.mono (by omega)), hg.2.trans (hb.mono (by omega))⟩, ho.low hb (Nat.le_refl _), ?_, hbc.symm, fun i hi => ?_⟩
  · have e : flatP (upd I j (before I j + (1 + r))) (upd V j x) (j + 1) = flatP I V j ++ [.int .i64 (before I j + (1 + r)), .int .i64 x] := by
      simp only [flatP, upd_at]
      rw [flatP_congr (I' := I) (V' := V) (fun i hi => ⟨upd_ne (by omega), upd_ne (by omega)⟩)]
    rw [e]; exact hown'
  · rcases (by omega : i = j ∨ i < j) with rfl | h
    · refine ⟨okPart_mk (I := upd I i _) (V := upd V i x) ?_ ?_ ?_ ?_, ?_⟩
      · have : before (upd I i (before I i + (1 + r))) i = before I i := by
          unfold before; split
          · rfl
          · rw [upd_ne (by omega)]
        rw [this, upd_at]; omega
      · have : before (upd I i (before I i + (1 + r))) i = before I i := by
          unfold before; split
          · rfl
          · rw [upd_ne (by omega)]
        rw [this]; exact hge
      · rw [upd_at]; exact x0
      · rw [upd_at]; exact x1
      · rw [upd_at]; omega
    · obtain ⟨⟨h1, h2, h3, h4⟩, h5⟩ := hok i h
      refine ⟨⟨by rw [upd_ne (by omega)]; exact h1, fun hi0 => by rw [upd_ne (by omega), upd_ne (by omega)]; exact h2 hi0, by rw [upd_ne (by omega)]; exact h3, by rw [upd_ne (by omega)]; exact h4⟩, by rw [upd_ne (by omega)]; exact h5⟩
theorem own_shape {w : World} {base : Nat} {e : TypeId} {size : Nat} {v : Value} {n : Nat} {xs : List Value} (h : w.ownsRow base e size v n xs) : ∃ A c, v = .slice A n c := by
  rcases h.2 with ⟨hv, rfl⟩ | ⟨g, cap, cur, hv, _⟩
  · exact ⟨none, 0, hv⟩
  · exact ⟨_, _, hv⟩
theorem cells2 (w : World) (x y : Value) (t : TypeId) : ∀ j u, [x, y][j]? = some u → (w.alloc (.cells #[x, y] t)).cell? ((⟨w.heap.size, 0, none⟩ : Addr).add j) = some u := by
  intro j u hj
  have h : ((⟨w.heap.size, 0, none⟩ : Addr).add j) = ⟨w.heap.size, j, none⟩ := by unfold Addr.add; split <;> simp_all
  rw [h]
  exact cell_new (by simpa using hj)
theorem one2 {k : IntKind} (x y : Int) : ∀ u ∈ [Value.int k x, Value.int k y], u.oneCell' = true := by
  intro u hu; simp at hu; rcases hu with rfl | rfl <;> rfl
def list3 : Array Value := #[Value.int IntKind.i64 2147483648, Value.int IntKind.i64 1048576, Value.int IntKind.i64 2147483647]
theorem words3 (w : World) (n : Nat) (hn : n ≤ 2) : ∃ x : Int, 1 ≤ x ∧ x ≤ 2147483648 ∧ (w.alloc (.cells list3 2)).cell? ⟨w.heap.size, n, none⟩ = some (.int .i64 x) := by
  obtain ⟨x, h0, h1, h2⟩ := pick_int (k := .i64) (lo := 1) (hi := 2147483648) (cs := list3) (by decide) (n := n) (by show n < 3; omega)
  exact ⟨x, h0, h1, cell_new h2⟩

set_option maxHeartbeats 2000000 in
theorem has_parts (B : Nat) (a : Option Addr) (len cap K n : Nat) (w0 W : World) (hn : n ≤ 10) (hK : K ≤ 900000000) (h : Has B a len cap K w0 W) :
    Calls Try.prog 11 #[.pointer (some ⟨B, 0, none⟩), .int .i64 n] W (GaveP B a len cap K n w0 W) := by
  have hBW := h.1.lt
  obtain ⟨i0, hii, hz0, hz1, hz2⟩ := info_parts info_part
  go_enter Try.func11, Try.ntmps11
  go_wp2_with fail
  refine (has_next B a len cap K _ w0 _ h (by omega) (by omega) (by omega)).mono ?_
  rintro e w1 ⟨r, r0, r1, rfl, hg1, ho1⟩
  obtain ⟨m, rfl⟩ := Int.eq_ofNat_of_zero_le r0
  clear h r0
  have hPA : PartsAt B a len cap (K + 1) w0 W 0 (.slice none 0 0) (-1) w1 := ⟨fun _ => 0, fun _ => 0, K + 1, by omega, hg1, ho1, World.ownsRow_nil _ _ _ _, rfl, fun i hi => by omega⟩
  clear hg1 ho1
  go_wp2_with fail
  go_loopw [5, 6, 7] (fun v id i wr => ∃ (j : Nat) (z : Int), j ≤ m ∧ i = .int .i64 ((m : Int) - j) ∧ id = .int .i64 z ∧ PartsAt B a len cap (K + 1) w0 W j v z wr) (fun _ _ i _ => (intOf i).toNat)
  case atStart => exact ⟨0, -1, by omega, by simp, rfl, hPA⟩
  case round =>
    obtain ⟨j, z, hj, rfl, rfl, I, V, q, hq, hg, ho, hown, hz, hok⟩ := hrel
    clear hPA
    by_cases hlt : j < m
    · obtain rfl : z = before I j := hz
      have hge := before_ge (I := I) (V := V) (i := j) (fun i hi => (hok i hi).1)
      have hbe : before I j ≤ 3 * (j : Int) - 1 := by
        unfold before; split
        · omega
        · have := (hok (j - 1) (by omega)).2; omega
      have HOK := Lib.hid hok
      clear hok
      go_wp2_with fail
      refine (has_next B a len cap q 3 w0 _ hg (by decide) (by decide) (by omega)).mono ?_
      rintro e w2 ⟨r, r0, r1, rfl, hg2, ho2⟩
      have ho2' := ho.trans ho2
      have hown2 := ownsRow_only hown ho2 hBW
      clear hg ho ho2 hown
      go_wp2_with fail
      refine (has_weight B a len cap (q + 1) w0 _ hg2 (by omega)).mono ?_
      rintro e w3 ⟨x, x0, x1, rfl, hg3, ho3⟩
      have ho3' := ho2'.trans ho3
      have hown3 := ownsRow_only hown2 ho3 hBW
      clear hg2 ho2' ho3 hown2
      go_wp2_with fail
      refine (has_next B a len cap (q + 1 + 1) 6 w0 _ hg3 (by decide) (by decide) (by omega)).mono ?_
      rintro e w4 ⟨s, s0, s1, rfl, hg4, ho4⟩
      have ho4' := ho3'.trans ho4
      have hown4 := ownsRow_only hown3 ho4 hBW
      clear hg3 ho3' ho4 hown3
      by_cases h5 : s = 5
      · subst h5
        have hW := words3 w4
        have hne : w4.heap.size ≠ B := by have := ho4'.size; omega
        have hO := ho4'.trans (Only.alloc B w4 (.cells list3 2))
        have hg5 := hg4.alloc (.cells list3 2)
        have hown5 := hown4.alloc (.cells list3 2)
        unfold list3 at hO hg5 hW hown5
        have HW := Lib.hid hW
        clear hg4 ho4' hown4 hW
        go_wp2_with fail
        refine (has_next B a len cap (q + 1 + 1 + 1) 3 w0 _ hg5 (by decide) (by decide) (by omega)).mono ?_
        rintro e w6 ⟨t, t0, t1, rfl, hg6, ho6⟩
        obtain ⟨p, rfl⟩ := Int.eq_ofNat_of_zero_le t0
        obtain ⟨y, y0, y1, hy⟩ := HW.out p (by omega)
        have hy' := ho6.keep hne hy
        have ho6' := hO.trans ho6
        have hown6 := ownsRow_only hown5 ho6 hBW
        clear hg5 hO ho6 hown5 hy
        have hp2 : p ≤ 2 := by omega
        have hqq : q + 1 + 1 + 1 + 1 ≤ K + 1 + 4 * (j + 1) := by omega
        have hownA := hown6.alloc (.cells #[.int .i64 (before I j + (1 + r)), .int .i64 y] 39)
        go_wp2_with (at_builtin; refine wpList_append_own _ rfl (.tmp 32) (.tmp 36) 23 rfl W.heap.size 39 i0 (.agg #[.int .i64 0, .int .i64 0]) 2 16 Try.underlying23 hii hz0 hz1 hz2 rfl (by decide) _ j (flatP I V j) rfl hownA ⟨w6.heap.size, 0, none⟩ 1 1 [.int .i64 (before I j + (1 + r)), .int .i64 y] rfl rfl (cells2 _ _ _ _) (one2 _ _) (by unfold maxLen; omega) (by omega) (by simp; have := ho6'.size; omega) ?_; intro v' w9 hown' hgr _)
        have hPA' := PartsAt.push hBW hqq HOK.out r0 r1 y0 y1 hg6 ho6' hownA hown' hgr
        clear hown' hgr hownA hg6 ho6'
        go_wp2
        go_roundw
        case rel => exact ⟨j + 1, _, by omega, by first | rfl | (congr 1; omega) | go_num, rfl, hPA'⟩
        case measure => simp [intOf]; omega
      · have h5' : (s == 5) = false := beq_eq_false_iff_ne.2 h5
        have x1' : x ≤ 2147483648 := by omega
        have hqq : q + 1 + 1 + 1 ≤ K + 1 + 4 * (j + 1) := by omega
        have hownA := hown4.alloc (.cells #[.int .i64 (before I j + (1 + r)), .int .i64 x] 39)
        clear h5
        go_wp2_with (at_builtin; refine wpList_append_own _ rfl (.tmp 32) (.tmp 36) 23 rfl W.heap.size 39 i0 (.agg #[.int .i64 0, .int .i64 0]) 2 16 Try.underlying23 hii hz0 hz1 hz2 rfl (by decide) _ j (flatP I V j) rfl hownA ⟨w4.heap.size, 0, none⟩ 1 1 [.int .i64 (before I j + (1 + r)), .int .i64 x] rfl rfl (cells2 _ _ _ _) (one2 _ _) (by unfold maxLen; omega) (by omega) (by simp; have := ho4'.size; omega) ?_; intro v' w9 hown' hgr _)
        have hPA' := PartsAt.push hBW hqq HOK.out r0 r1 x0 x1' hg4 ho4' hownA hown' hgr
        clear hown' hgr hownA hg4 ho4'
        go_wp2
        go_roundw
        case rel => exact ⟨j + 1, _, by omega, by first | rfl | (congr 1; omega) | go_num, rfl, hPA'⟩
        case measure => simp [intOf]; omega
    · obtain rfl : m = j := by omega
      obtain ⟨A, c, rfl⟩ := own_shape hown
      clear hz
      go_wp2
      go_ret
      exact ⟨m, A, c, I, V, q, by omega, by omega, rfl, Prs.of_own hown, hown, hok, hg, ho⟩
end Go.Proofs.Ytbhgkifalihheaa
