/-
  Layer 7: the walk of the statement LabelMatch. Every list of choices, every two strings; no condition but what the library's variable MaxLen holds a number.
-/
import Derived.Test.YthabmbjjpgcceaaDoorLbLaws
import Derived.Test.YthabmbjjpgcceaaDoorLbWalk1
namespace Go.Proofs.YthabmbjjpgcceaaDoor
open Go.ChangeShapes Go.WideShapes Go.ChangeAt Go.RowKit
set_option linter.unusedVariables false

/-- The patterns that are drawn from, at the name x. -/
def patL (x : ByteArray) : List ByteArray := [⟨#[42]⟩, ⟨#[97, 42]⟩, ⟨#[42, 110, 42]⟩, ⟨#[42, 42, 97]⟩, ⟨#[65, 42, 78]⟩, ⟨#[42]⟩ ++ x, x ++ ⟨#[42]⟩, x, ⟨#[97, 42, 195, 132, 42, 98]⟩, ⟨#[]⟩, ⟨#[42, 195]⟩]
theorem patL_size {x q : ByteArray} (hx : x.size ≤ 25) (h : q ∈ patL x) : q.size ≤ 26 := by
  unfold patL at h
  simp only [List.mem_cons, List.not_mem_nil, or_false] at h
  rcases h with rfl | rfl | rfl | rfl | rfl | rfl | rfl | rfl | rfl | rfl | rfl
  · show 1 ≤ 26; omega
  · show 2 ≤ 26; omega
  · show 3 ≤ 26; omega
  · show 3 ≤ 26; omega
  · show 3 ≤ 26; omega
  · rw [ByteArray.size_append]; show 1 + x.size ≤ 26; omega
  · rw [ByteArray.size_append]; show x.size + 1 ≤ 26; omega
  · omega
  · show 6 ≤ 26; omega
  · show 0 ≤ 26; omega
  · show 2 ≤ 26; omega
set_option maxHeartbeats 4000000 in
set_option maxRecDepth 100000 in
theorem walkMatch (a : Option Addr) (len cap : Nat) (s t : ByteArray) (w : World) (he : Elems w.heap.size a len w) (hw : ML w) :
    Calls Tryd.prog 7 #[.slice a len cap, .string s, .string t] w fun e w' => e = .returned (.bool true) ∧ Below w.heap.size w w' := by
  have H0 := Lib.hid (Has.new (cap := cap) he)
  have HW := Lib.hid hw
  clear he hw
  go_enter Tryd.func7, Tryd.ntmps7
  go_wp2_with fail
  (with_reducible refine (new_any a len cap w).mono ?_); rintro e w1 ⟨rfl, hw1⟩
  have H1 := Lib.hid (show Has w.heap.size a len cap 0 w w1 by rw [hw1]; exact H0.out)
  clear hw1 H0
  go_wp2
  go_loopw [8] (fun s8 wr => ∃ k p : Nat, k ≤ 6 ∧ p ≤ 2 * k ∧ s8 = .int .i64 k ∧ Hid (Has w.heap.size a len cap p w wr)) (fun s8 _ => 6 - (intOf s8).toNat)
  case atStart => exact ⟨0, 0, by omega, by omega, rfl, H1⟩
  case round =>
    obtain ⟨k, p, hk, hp, rfl, HR⟩ := hrel
    clear H1
    by_cases hlt : k < 6
    · have hlt' : (k : Int) < 6 := by omega
      go_wp2_with fail
      (with_reducible refine (has_name w.heap.size a len cap p w wr HR.out (by omega)).mono ?_); rintro e w2 ⟨x, hx, rfl, h2, _⟩
      have H2 := Lib.hid h2
      have hxs := name_size hx
      clear h2 HR hx
      go_wp2_with fail
      (with_reducible refine (has_next w.heap.size a len cap _ 11 w _ (H2.out.alloc _) (by decide) (by decide) (by omega)).mono ?_); rintro e w3 ⟨r, r0, r1, rfl, h3, ho⟩
      obtain ⟨n, rfl⟩ := Int.eq_ofNat_of_zero_le r0
      obtain ⟨q, hq, hc⟩ := pickS (L := patL x) rfl ho H2.out.1.lt (n := n) (by show n < 11; omega)
      have hqs := patL_size hxs hq
      have H3 := Lib.hid h3
      have hn : n ≤ 10 := by omega
      clear h3 ho hq H2
      have C1 := Lib.hid (fun w hw => match_any q x w hw)
      have C2 := Lib.hid (fun w => refMatch_any q x (by omega) (by omega) w)
      have C3 := Lib.hid (fun w hw => match_any q (x ++ x) w hw)
      have C4 := Lib.hid (fun w => refMatch_any q (x ++ x) (by omega) (by rw [ByteArray.size_append]; omega) w)
      unfold MtAns at C1 C2 C3 C4
      generalize mtB q x = m1 at *
      generalize mtB q (x ++ x) = m2 at *
      have t1 : (m1 != m1) = false := by simp
      have t2 : (m2 != m2) = false := by simp
      go_wp2_with fail
      (with_reducible refine (C1.out _ (H3.out.ml HW.out)).mono ?_); rintro e w5 ⟨rfl, hb⟩
      have H5 := Lib.hid (H3.out.below hb)
      clear hb H3
      go_wp2_with fail
      (with_reducible refine (C2.out _).mono ?_); rintro e w6 ⟨rfl, hb⟩
      have H6 := Lib.hid (H5.out.below hb)
      clear hb H5
      go_wp2_with fail
      (with_reducible refine (C3.out _ (H6.out.ml HW.out)).mono ?_); rintro e w7 ⟨rfl, hb⟩
      have H7 := Lib.hid (H6.out.below hb)
      clear hb H6
      go_wp2_with fail
      (with_reducible refine (C4.out _).mono ?_); rintro e w8 ⟨rfl, hb⟩
      have H8 := Lib.hid (H7.out.below hb)
      clear hb H7
      go_wp2
      go_roundw
      case rel => exact ⟨k + 1, p + 1 + 1, by omega, by omega, by go_num, H8⟩
      case measure => simp [intOf]; omega
    · obtain rfl : k = 6 := by omega
      have hge : ¬ ((6 : Nat) : Int) < 6 := by omega
      by_cases hl : 60 < s.size
      · have hl' : (60 : Int) < s.size := by omega
        go_wp2
        go_ret
        exact ⟨rfl, HR.out.2⟩
      · have hl' : ¬ (60 : Int) < s.size := by omega
        by_cases hm : 60 < t.size
        · have hm' : (60 : Int) < t.size := by omega
          go_wp2
          go_ret
          exact ⟨rfl, HR.out.2⟩
        · have hm' : ¬ (60 : Int) < t.size := by omega
          have C1 := Lib.hid (fun w hw => match_any s t w hw)
          have C2 := Lib.hid (fun w => refMatch_any s t (by omega) (by omega) w)
          unfold MtAns at C1 C2
          generalize mtB s t = c1 at *
          have t1 : (c1 == c1) = true := by simp
          go_wp2_with fail
          (with_reducible refine (C1.out _ (HR.out.ml HW.out)).mono ?_); rintro e w5 ⟨rfl, hb⟩
          have H5 := Lib.hid (HR.out.below hb)
          clear hb HR
          go_wp2_with fail
          (with_reducible refine (C2.out _).mono ?_); rintro e w6 ⟨rfl, hb⟩
          have H6 := Lib.hid (H5.out.below hb)
          clear hb H5
          go_wp2_with fail
          (with_reducible refine (awake_any _ (H6.out.ml HW.out)).mono ?_); rintro e v9 ⟨rfl, hb⟩
          have KZ := Lib.hid (H6.out.below hb)
          clear hb
          go_wp2
          go_ret
          exact ⟨rfl, KZ.out.2⟩
end Go.Proofs.YthabmbjjpgcceaaDoor

