/-
  Layer 3: the walk of the statement about Fill (package shares). Every input; no condition.
-/
import Derived.Test.YtbhgkifalihheaaShLaws
import Derived.Test.YtbhgkifalihheaaShFillQ
namespace Go.Proofs.Ytbhgkifalihheaa
open Go.ChangeShapes Go.WideShapes Go.ChangeAt Go.RowKit
set_option linter.unusedVariables false

theorem fills_any (x : Int) (A D : Option Addr) (n nc ca cd : Nat) (I V C : Nat → Int) (w : World) (x0 : -9223372036854775808 ≤ x) (x1 : x ≤ 9223372036854775807) (hn : n ≤ 9223372036854775807) (hnc : nc ≤ 9223372036854775807) (hi : Fits n I) (hv : Fits n V) (hfc : Fits nc C) (hp : Prs w 0 w.heap.size A n I V) (hd : Nums w 0 w.heap.size D nc C) :
    Calls Try.prog 14 #[.int .i64 x, .slice A n ca, .slice D nc cd] w fun e w' => e = .returned (.bool true) ∧ Below w.heap.size w w' := by
  have h1 := Lib.hid (fill_any x A D n nc ca cd I V C w x1 hn hnc hi hv hp hd)
  have h2 := Lib.hid (fun w' (hb : Below w.heap.size w w') => refFill_any x A D n nc ca cd I V C w' x1 hn hnc hi hv hfc (Cells.wider (Cells.below hp hb (Nat.le_refl _)) (Nat.le_refl _) hb.size) (Cells.wider (Cells.below hd hb (Nat.le_refl _)) (Nat.le_refl _) hb.size))
  clear hi hv hp hfc hd
  go_enter Try.func14, Try.ntmps14
  go_wp2_with fail
  (with_reducible refine h1.out.mono ?_)
  rintro e w1 ⟨A1, c1, L, X, r, E, rfl, hn1, hb1, hf1⟩
  go_wp2_with fail
  (with_reducible refine (h2.out _ hb1).mono ?_)
  rintro e w2 ⟨A2, c2, L', X', r', E', rfl, hn2, hb2, hf2⟩
  obtain ⟨rfl, rfl, rfl, hx⟩ := hf1.one hf2
  have hL : L ≤ 9223372036854775807 := by rcases hf1 with ⟨_, rfl, _, _⟩ | ⟨_, rfl, _, _⟩ <;> omega
  have hE := Lib.hid (equal64_any A1 A2 L c1 c2 X _ _ _ _ w2 hL (Cells.below hn1 hb2 (Nat.le_refl _)) (Cells.same hn2 (fun j hj => by show Value.int .i64 (X' j) = .int .i64 (X j); rw [hx j hj])))
  have hb3 := hb1.trans (hb2.mono hb1.size)
  clear hn1 hn2 hb1 hb2 hf1 hf2 hx
  go_wp2_with fail
  (with_reducible refine hE.out.mono ?_)
  rintro e w5 ⟨rfl, hb5⟩
  have hb5' := hb3.trans (hb5.mono hb3.size)
  clear hb3 hb5
  go_wp2
  go_ret
  exact ⟨rfl, hb5'⟩

/-- The cells of n numbers. -/
def flatN (X : Nat → Int) : Nat → List Value
  | 0 => []
  | n + 1 => flatN X n ++ [.int .i64 (X n)]
theorem flatN_len (X : Nat → Int) (n : Nat) : (flatN X n).length = n := by
  induction n with
  | zero => rfl
  | succ n ih => simp only [flatN, List.length_append, ih, List.length_cons, List.length_nil]
theorem flatN_congr {X Y : Nat → Int} {n : Nat} (h : ∀ i, i < n → X i = Y i) : flatN X n = flatN Y n := by
  induction n with
  | zero => rfl
  | succ n ih => simp only [flatN]; rw [ih (fun i hi => h i (by omega)), h n (by omega)]
theorem flatN_at (X : Nat → Int) (n j : Nat) (h : j < n) : (flatN X n)[j]? = some (.int .i64 (X j)) := by
  induction n with
  | zero => omega
  | succ n ih =>
    simp only [flatN]
    rcases (by omega : j < n ∨ j = n) with h' | rfl
    · rw [List.getElem?_append_left (by rw [flatN_len]; exact h')]; exact ih h'
    · rw [List.getElem?_append_right (by rw [flatN_len]; omega), flatN_len, Nat.sub_self]; rfl
theorem Nums.of_flat {w : World} {base : Nat} {t : TypeId} {A : Option Addr} {n c : Nat} {X : Nat → Int} (h : w.ownsRow base t 1 (.slice A n c) n (flatN X n)) : Nums w base w.heap.size A n X := by
  intro j hj
  rcases h.2 with ⟨hv, hn⟩ | ⟨g, cap, cur, hv, hg, hh, hn, _, hc, htake⟩
  · omega
  · simp only [Value.slice.injEq] at hv
    obtain ⟨rfl, _, rfl⟩ := hv
    refine ⟨g, 0, rfl, hg, lt_of_block hh, ?_⟩
    rw [cell_of_row w g (0 + j) cur t (0, 0) hh, Nat.zero_add]
    have := flatN_at X n j hj
    rw [← htake, List.getElem?_take, if_pos (by omega)] at this
    simpa using this
/-- A row that grows by one number, beside choices. -/
theorem push_num {B : Nat} {a : Option Addr} {len cap q k : Nat} {w0 W w1 w2 : World} {v v' : Value} {x : Int} {X : Nat → Int} {t : TypeId} {o : Obj} (hB : B < W.heap.size)
    (hg : Has B a len cap q w0 w1) (ho : Only B W w1) (hown : (w1.alloc o).ownsRow W.heap.size t 1 v k (flatN X k))
    (hown' : w2.ownsRow W.heap.size t 1 v' (k + 1) (flatN X k ++ [.int .i64 x])) (hgr : (w1.alloc o).grownBy w2 v.ownBlock) :
    Has B a len cap q w0 w2 ∧ Only B W w2 ∧ w2.ownsRow W.heap.size t 1 v' (k + 1) (flatN (upd X k x) (k + 1)) := by
  have hb : Below W.heap.size w1 w2 := ((Below.refl _ _).alloc ho.size o).grown hgr (by simp; have := ho.size; omega) (own_block hown)
  refine ⟨⟨hg.1.kept (hb.mono (by omega)), hg.2.trans (hb.mono (by omega))⟩, ho.low hb (Nat.le_refl _), ?_⟩
  have e : flatN (upd X k x) (k + 1) = flatN X k ++ [.int .i64 x] := by
    simp only [flatN, upd_at]
    rw [flatN_congr (Y := X) (fun i hi => upd_ne (by omega))]
  rw [e]; exact hown'
def list8 : Array Value := #[Value.int IntKind.i64 0, Value.int IntKind.i64 1, Value.int IntKind.i64 10, Value.int IntKind.i64 1000, Value.int IntKind.i64 2199023255552, Value.int IntKind.i64 7, Value.int IntKind.i64 2199023255553, Value.int IntKind.i64 (-1)]
theorem words8 (w : World) (n : Nat) (hn : n ≤ 7) : ∃ x : Int, -1 ≤ x ∧ x ≤ 2199023255553 ∧ (w.alloc (.cells list8 2)).cell? ⟨w.heap.size, n, none⟩ = some (.int .i64 x) := by
  obtain ⟨x, h0, h1, h2⟩ := pick_int (k := .i64) (lo := -1) (hi := 2199023255553) (cs := list8) (by decide) (n := n) (by show n < 8; omega)
  exact ⟨x, h0, h1, cell_new h2⟩
def list6 : Array Value := #[Value.int IntKind.i64 0, Value.int IntKind.i64 10, Value.int IntKind.i64 999, Value.int IntKind.i64 1099511627776, Value.int IntKind.i64 4611686018427387904, Value.int IntKind.i64 (-1)]
theorem words6 (w : World) (n : Nat) (hn : n ≤ 5) : ∃ x : Int, -9223372036854775808 ≤ x ∧ x ≤ 9223372036854775807 ∧ (w.alloc (.cells list6 2)).cell? ⟨w.heap.size, n, none⟩ = some (.int .i64 x) := by
  obtain ⟨x, h0, h1, h2⟩ := pick_int (k := .i64) (lo := -9223372036854775808) (hi := 9223372036854775807) (cs := list6) (by decide) (n := n) (by show n < 6; omega)
  exact ⟨x, h0, h1, cell_new h2⟩
set_option maxHeartbeats 4000000 in
theorem walkFill (a : Option Addr) (len cap : Nat) (x : Int) (P : Option Addr) (n pc : Nat) (I V : Nat → Int) (D : Option Addr) (nc dc : Nat) (C : Nat → Int) (x0 : -9223372036854775808 ≤ x) (x1 : x ≤ 9223372036854775807) (w : World) (he : Elems w.heap.size a len w)
    (hn : n ≤ 9223372036854775807) (hnc : nc ≤ 9223372036854775807) (hi : Fits n I) (hv : Fits n V) (hfc : Fits nc C) (hp : Prs w 0 w.heap.size P n I V) (hd : Nums w 0 w.heap.size D nc C) :
    Calls Try.prog 4 #[.slice a len cap, .int .i64 x, .slice P n pc, .slice D nc dc] w fun e w' => e = .returned (.bool true) ∧ Below w.heap.size w w' := by
  have hg := Has.new (cap := cap) he
  have HP := Lib.hid (fun w' (hb : Below w.heap.size w w') => fills_any x P D n nc pc dc I V C w' x0 x1 hn hnc hi hv hfc (Cells.wider (Cells.below hp hb (Nat.le_refl _)) (Nat.le_refl _) hb.size) (Cells.wider (Cells.below hd hb (Nat.le_refl _)) (Nat.le_refl _) hb.size))
  obtain ⟨i0, hii, hz0, hz1, hz2⟩ := info_parts infoInt64
  clear he hi hv hp hd hfc
  go_enter Try.func4, Try.ntmps4
  go_wp2_with (go_at_call 8; (with_reducible refine (new_any a len cap _).mono ?_); rintro e w' ⟨rfl, rfl⟩)
  go_loopw [10] (fun i wr => ∃ j q : Nat, j ≤ 4 ∧ i = .int .i64 j ∧ q ≤ 100 * j ∧ Has w.heap.size a len cap q w wr) (fun i _ => 4 - (intOf i).toNat)
  case atStart => exact ⟨0, 0, by omega, rfl, by omega, hg⟩
  case round =>
    obtain ⟨wo, rfl⟩ : ∃ wo : World, wo = wr := ⟨_, rfl⟩
    obtain ⟨j, q, hj, rfl, hq, hgj⟩ := hrel
    clear hg
    by_cases hlt : j < 4
    · go_wp2_with fail
      refine (has_parts w.heap.size a len cap q 5 w _ (by omega) (by omega) hgj).mono ?_
      rintro e w2 ⟨m, A, c, I1, V1, q2, hm, hq2, rfl, hp2, _, hok2, hg2, ho2⟩
      have hBw2 : w.heap.size < w2.heap.size := hg2.1.lt
      have HOK2 := Lib.hid hok2
      have HPS := Lib.hid hp2
      have hwB := hgj.1.lt
      have hsz2 := ho2.size
      clear ho2 hgj hp2 hok2
      go_wp2_with fail
      go_loopw [12, 13] (fun v i wr => ∃ (k p : Nat) (X : Nat → Int), k ≤ m + 1 ∧ i = .int .i64 k ∧ p ≤ q2 + 4 * k ∧ (∀ i, i < k → -1 ≤ X i ∧ X i ≤ 2199023255553) ∧ Has w.heap.size a len cap p w wr ∧ Only w.heap.size w2 wr ∧ wr.ownsRow w2.heap.size 2 1 v k (flatN X k)) (fun _ i _ => m + 1 - (intOf i).toNat)
      case atStart => exact ⟨0, q2, fun _ => 0, by omega, rfl, by omega, fun i hi => by omega, hg2, Only.refl _ _, World.ownsRow_nil _ _ _ _⟩
      case round =>
        obtain ⟨k, p, X, hk, rfl, hp, hX, hgk, hok, hown⟩ := hrel
        clear hg2
        have HX := Lib.hid hX
        clear hX
        go_wp2_with fail
        refine (has_next w.heap.size a len cap p 20 w _ hgk (by decide) (by decide) (by omega)).mono ?_
        rintro e w3 ⟨r, r0, r1, rfl, hg3, ho3⟩
        have hok3 := hok.trans ho3
        have hown3 := ownsRow_only hown ho3 hBw2
        clear hgk hok ho3 hown
        have hqb : 0 ≤ r / 19 ∧ r / 19 ≤ 1 := by omega
        by_cases hlt2 : (k : Int) < m + r / 19
        · have hk' : k ≤ m := by omega
          have hW := words8 w3
          have hne : w3.heap.size ≠ w.heap.size := by have := hok3.size; omega
          have hO := hok3.trans (Only.alloc w.heap.size w3 (.cells list8 2))
          have hg5 := hg3.alloc (.cells list8 2)
          have hown5 := hown3.alloc (.cells list8 2)
          unfold list8 at hO hg5 hW hown5
          have HW := Lib.hid hW
          clear hg3 hok3 hown3 hW
          go_wp2_with fail
          refine (has_next w.heap.size a len cap (p + 1) 7 w _ hg5 (by decide) (by decide) (by omega)).mono ?_
          rintro e w6 ⟨s, s0, s1, rfl, hg6, ho6⟩
          have hW6 := Lib.hid (fun n hn => by
            obtain ⟨x, y0, y1, h⟩ := HW.out n hn
            exact (⟨x, y0, y1, ho6.keep hne h⟩ : ∃ x : Int, -1 ≤ x ∧ x ≤ 2199023255553 ∧ w6.cell? ⟨w3.heap.size, n, none⟩ = some (.int .i64 x)))
          have hO6 := hO.trans ho6
          have hown6 := ownsRow_only hown5 ho6 hBw2
          clear hg5 hO ho6 hown5 HW
          go_wp2_with fail
          refine (has_next w.heap.size a len cap (p + 1 + 1) (6 + s / 6 * 2) w _ hg6 (by omega) (by omega) (by omega)).mono ?_
          rintro e w7 ⟨t, t0, t1, rfl, hg7, ho7⟩
          obtain ⟨y, rfl⟩ := Int.eq_ofNat_of_zero_le t0
          have hy7 : y ≤ 7 := by omega
          obtain ⟨z, z0, z1, hz⟩ := hW6.out y hy7
          have hz7 := ho7.keep hne hz
          have hO7 := hO6.trans ho7
          have hown7 := ownsRow_only hown6 ho7 hBw2
          have hs7 := hO7.size
          clear hg6 hO6 ho7 hown6 hz hW6 t1
          have hownA := hown7.alloc (.cells #[.int .i64 z] 2)
          go_wp2_with (at_builtin; refine wpList_append_own _ rfl (.tmp 32) (.tmp 43) 31 rfl w2.heap.size 2 i0 (.int .i64 0) 1 8 Try.underlying31 hii hz0 hz1 hz2 rfl (by decide) _ k (flatN X k) rfl hownA ⟨w7.heap.size, 0, none⟩ 1 1 [.int .i64 z] rfl rfl (cells1 _ _ _) (one1 _) (by unfold maxLen; omega) (by omega) (by simp; omega) ?_; intro v8 w8 hown8 hg8 _)
          obtain ⟨k1, k2, k3⟩ := push_num hBw2 hg7 hO7 hownA hown8 hg8
          clear hg7 hO7 hown7 hownA hown8 hg8
          go_wp2
          go_roundw
          case rel => exact ⟨k + 1, p + 1 + 1 + 1, upd X k z, by omega, by go_num, by omega, fun i hi => by
            rcases (by omega : i = k ∨ i < k) with rfl | h
            · rw [upd_at]; exact ⟨z0, z1⟩
            · rw [upd_ne (by omega)]; exact HX.out i h, k1, k2, k3⟩
          case measure => simp [intOf]; omega
        · obtain ⟨A3, c3, rfl⟩ := own_shape hown3
          have hW := words6 w3
          have hne : w3.heap.size ≠ w.heap.size := by have := hok3.size; omega
          have hO := hok3.trans (Only.alloc w.heap.size w3 (.cells list6 2))
          have hg5 := hg3.alloc (.cells list6 2)
          have hown5 := hown3.alloc (.cells list6 2)
          unfold list6 at hO hg5 hW hown5
          have HW := Lib.hid hW
          clear hg3 hok3 hown3 hW
          go_wp2_with fail
          refine (has_next w.heap.size a len cap (p + 1) 6 w _ hg5 (by decide) (by decide) (by omega)).mono ?_
          rintro e w6 ⟨s, s0, s1, rfl, hg6, ho6⟩
          obtain ⟨y, rfl⟩ := Int.eq_ofNat_of_zero_le s0
          have hy5 : y ≤ 5 := by omega
          obtain ⟨z, z0, z1, hz⟩ := HW.out y hy5
          have hz6 := ho6.keep hne hz
          have hO6 := hO.trans ho6
          have hown6 := ownsRow_only hown5 ho6 hBw2
          have hs6 := hO6.size
          have hFN := Lib.hid (fun (u : Int) (u0 : -9223372036854775808 ≤ u) (u1 : u ≤ 9223372036854775807) (w' : World) (hb : Below w6.heap.size w6 w') => fills_any u A A3 m k c c3 I1 V1 X w' u0 u1 (by omega) (by omega) (fun i hi => by have := (HOK2.out i hi).1.1; have := (HOK2.out i hi).2; omega) (fun i hi => by have := (HOK2.out i hi).1.2.2; omega) (fun i hi => by have := HX.out i hi; omega)
            (Cells.wider (Cells.below (Cells.only HPS.out hO6 (.inl (by omega)) (Nat.le_refl _)) hb hs6) (Nat.zero_le _) (by have := hb.size; omega)) (Cells.wider (Cells.below (Nums.of_flat hown6) hb (Nat.le_refl _)) (Nat.zero_le _) hb.size))
          clear hg5 hO ho6 hown5 hz HW hO6 hown6
          go_wp2_with fail
          (with_reducible refine (hFN.out _ z0 z1 _ (Below.refl _ _)).mono ?_)
          rintro e w7 ⟨rfl, hb7⟩
          have hg7 := hg6.below hb7
          clear hg6
          go_wp2_with fail
          (with_reducible refine (hFN.out _ x0 x1 _ hb7).mono ?_)
          rintro e w8 ⟨rfl, hb8⟩
          have hg8 := hg7.below hb8
          clear hg7 hb7 hb8 hFN
          go_wp2
          go_roundw
          case rel => exact ⟨j + 1, p + 1 + 1, by omega, by go_num, by omega, hg8⟩
          case measure => simp [intOf]; omega
    · obtain rfl : j = 4 := by omega
      have hb := hgj.2
      by_cases hbig : 70 < n
      · go_wp2
        go_ret
        exact ⟨rfl, hb⟩
      · by_cases hbig2 : 70 < nc
        · go_wp2
          go_ret
          exact ⟨rfl, hb⟩
        · go_wp2_with fail
          (with_reducible refine (HP.out _ hb).mono ?_)
          rintro e w1 ⟨rfl, hb1⟩
          have hb1' := hb.trans (hb1.mono hb.size)
          clear hb1 hb hgj
          go_wp2_with fail
          (with_reducible refine (awake3_any _).mono ?_)
          rintro e w2 ⟨rfl, hb2⟩
          have hb2' := hb1'.trans (hb2.mono hb1'.size)
          clear hb2 hb1'
          go_wp2
          go_ret
          exact ⟨rfl, hb2'⟩
end Go.Proofs.Ytbhgkifalihheaa
