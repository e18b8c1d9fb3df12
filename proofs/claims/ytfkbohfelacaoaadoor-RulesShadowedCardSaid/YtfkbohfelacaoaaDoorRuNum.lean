/-
  Layer 9: what the library's variables hold (WS); contracts of parseNumber, parseClass, parseFlow, parseStation and of the reference's digits.
-/
import Derived.Test.YtfkbohfelacaoaaDoorRuPlain2
import Derived.Test.YtfkbohfelacaoaaDoorRuShelf
import Derived.Test.YtfkbohfelacaoaaDoorPcSum
import Derived.Lib.AppendIntMem
import Derived.Laws.OwnMore
namespace Go.Proofs.YtfkbohfelacaoaaDoor
open Go.ChangeShapes Go.WideShapes Go.ChangeAt Go.RowKit
set_option linter.unusedVariables false

/-- What the library's table and its error hold. -/
def WS (w : World) : Prop := Lib.TabIs Tryd.prog w "internal/strconv.uint64pow10" .u64 Lib.pow10Tab ∧ ∃ ev, w.cell? ⟨2, 0, none⟩ = some ev ∧ (ev = .nilIface ∨ ∃ te pe, ev = .iface te pe)
theorem WS.below {w w' : World} (h : WS w) (hb : Below w.heap.size w w') : WS w' := by
  obtain ⟨h1, ev, h2, h3⟩ := h
  exact ⟨Lib.tabBelow_of_tabIs h1 w' hb, ev, cell_later h2 hb, h3⟩
theorem WS.drewN {w : World} (h : WS w) (n : Nat) : WS (w.drewN n) := h.below (Below_drewN (Below.refl _ _) n)
/-- What a word denotes, as a number and as a bool. -/
def nI (l : List UInt8) : Int := ((digN 5 l).getD 0 : Nat)
def nB (l : List UInt8) : Bool := (digN 5 l).isSome
theorem nI_none {l : List UInt8} (h : digN 5 l = none) : nI l = 0 ∧ nB l = false := by unfold nI nB; rw [h]; exact ⟨rfl, rfl⟩
theorem nI_some {l : List UInt8} {n : Nat} (h : digN 5 l = some n) : nI l = n ∧ nB l = true := by unfold nI nB; rw [h]; exact ⟨rfl, rfl⟩
def DigAns (l : List UInt8) (w : World) (e : Ending) (w' : World) : Prop := e = .returned (.tuple #[.int .i64 (nI l), .bool (nB l)]) ∧ Below w.heap.size w w'
theorem idx_nb (s : ByteArray) (j : Nat) (h : j < s.size) (w : World) : (Instr.index 9 (.string s) (.int .i64 (j : Int))).run Tryd.prog w = .ok (.int .u8 (nb s.data.toList j : Nat)) w := by
  rw [run_index_string w _ s .i64 (j : Int) Tryd.underlying9, dif_pos (by omega)]
  have := nb_idx s j h
  simp only [Int.toNat_natCast, this]
theorem len_size (s : ByteArray) : s.data.toList.length = s.size := by rw [Lib.size_eq]
theorem uint_ok {s : ByteArray} {n : Nat} (hs : s.size ≤ 5) (h : Lib.parseUintB 64 s.data.toList = .ok n) (w : World) : Calls Tryd.prog 72 #[.string s, .int .i64 10, .int .i64 64] w fun e w' => e = .returned (.tuple #[.int .u64 n, .nilIface]) ∧ Below w.heap.size w w' :=
  (strconv_ParseUint_10_at64_ok s (by omega) n h w).mono fun _ _ ⟨he, hw⟩ => ⟨he, by rcases hw with rfl | rfl; exact Below.refl _ _; exact Lib.bytesWorld_below _ _ _⟩
theorem uint_no {s : ByteArray} (hs : s.size ≤ 5) (h : Lib.parseUintB 64 s.data.toList = Lib.parseUintB 64 []) (w : World) (hw : WS w) : Calls Tryd.prog 72 #[.string s, .int .i64 10, .int .i64 64] w fun e w' => (∃ p, e = .returned (.tuple #[.int .u64 0, .iface 114 p])) ∧ Below w.heap.size w w' := by
  obtain ⟨_, ev, h2, h3⟩ := hw
  exact (strconv_ParseUint_bad s (by omega) h ev w h2 h3).mono fun _ _ ⟨N, he, _, _, hb⟩ => ⟨⟨_, he⟩, hb⟩
set_option maxHeartbeats 1000000 in
theorem parseNumber_any (s : ByteArray) (w : World) (hw : WS w) : Calls Tryd.prog 60 #[.string s] w (DigAns s.data.toList w) := by
  have hl := len_size s
  unfold DigAns
  rcases digN_cases s.data.toList with ⟨h1, h2⟩ | ⟨h1, h2, h3⟩ | ⟨h0, h1, _, h2, h3⟩ | ⟨n, hn, h0, h1, h3, h4⟩
  · rw [(nI_none h2).1, (nI_none h2).2]
    have h5 : (5 : Int) < s.size := by omega
    clear h1 h2 hl hw
    go_enter Tryd.func60, Tryd.ntmps60
    go_wp2
    go_ret2
    exact ⟨rfl, Below.refl _ _⟩
  · rw [(nI_none h2).1, (nI_none h2).2]
    have hs : s.size ≤ 5 := by rw [← hl, h1]; decide
    have H := Lib.hid (uint_no hs h3 w hw)
    have h5 : (s.size : Int) ≤ 5 := by omega
    clear h1 h2 h3 hl hw
    go_enter Tryd.func60, Tryd.ntmps60
    go_wp2_with fail
    (with_reducible refine H.out.mono ?_); rintro e w1 ⟨⟨p, rfl⟩, hb⟩
    have hb := Lib.hid hb
    go_wp2
    go_ret2
    exact ⟨rfl, hb.out⟩
  · rw [(nI_none h2).1, (nI_none h2).2]
    have hs : s.size ≤ 5 := by omega
    have H := Lib.hid (uint_no hs h3 w hw)
    have h5 : (s.size : Int) ≤ 5 := by omega
    clear h0 h1 h2 h3 hl hw
    go_enter Tryd.func60, Tryd.ntmps60
    go_wp2_with fail
    (with_reducible refine H.out.mono ?_); rintro e w1 ⟨⟨p, rfl⟩, hb⟩
    have hb := Lib.hid hb
    go_wp2
    go_ret2
    exact ⟨rfl, hb.out⟩
  · have hs : s.size ≤ 5 := by omega
    have H := Lib.hid (fun w => uint_ok hs h3 w)
    have h5 : (s.size : Int) ≤ 5 := by omega
    have i0 : ∀ w, (Instr.index 9 (.string s) (.int .i64 0)).run Tryd.prog w = .ok (.int .u8 (nb s.data.toList 0 : Nat)) w := fun w => idx_nb s 0 (by omega) w
    rcases h4 with ⟨k1, k2, h2⟩ | ⟨k1, h2⟩
    · rw [(nI_none h2).1, (nI_none h2).2]
      rw [k2] at i0
      have k1' : (1 : Int) < s.size := by omega
      clear h0 h1 h2 h3 hl hw k1 k2 hs
      go_enter Tryd.func60, Tryd.ntmps60
      go_wp2_with fail
      (with_reducible refine (H.out _).mono ?_); rintro e w1 ⟨rfl, hb⟩
      have hb := Lib.hid hb
      go_wp2
      go_ret2
      exact ⟨rfl, hb.out⟩
    · rw [(nI_some h2).1, (nI_some h2).2]
      clear h3 h2 hw
      by_cases c : 1 < s.size
      · have k2 : ¬ ((nb s.data.toList 0 : Nat) : Int) = 48 := by omega
        have k1' : (1 : Int) < s.size := by omega
        generalize nb s.data.toList 0 = z at *
        clear h0 h1 hl k1 hs c
        go_enter Tryd.func60, Tryd.ntmps60
        go_wp2_with fail
        (with_reducible refine (H.out _).mono ?_); rintro e w1 ⟨rfl, hb⟩
        have hb := Lib.hid hb
        go_wp2
        go_ret2
        exact ⟨by go_num, hb.out⟩
      · have k1' : (s.size : Int) ≤ 1 := by omega
        clear h0 h1 hl k1 hs c i0
        go_enter Tryd.func60, Tryd.ntmps60
        go_wp2_with fail
        (with_reducible refine (H.out _).mono ?_); rintro e w1 ⟨rfl, hb⟩
        have hb := Lib.hid hb
        go_wp2
        go_ret2
        exact ⟨by go_num, hb.out⟩
end Go.Proofs.YtfkbohfelacaoaaDoor

