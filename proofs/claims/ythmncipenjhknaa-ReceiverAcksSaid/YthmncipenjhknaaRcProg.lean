/-
  Layer 17: the program's receiver: the words that the walks use.
-/
import Derived.Test.YthmncipenjhknaaRcP5
namespace Go.Proofs.Ythmncipenjhknaa
open Go.ChangeShapes Go.WideShapes Go.ChangeAt Go.RowKit
set_option linter.unusedVariables false

theorem prrcv_any {R : Nat} {s : RcS} (hn : s.l.length ≤ 9999) {base : Nat} (b q i : Int) : Acts 14 #[.pointer (some ⟨R, 0, none⟩), .int .i64 b, .int .i64 q, .int .i64 i] base (RcP R s) (fun v : Value => .tuple #[v, .int .i64 (rcRvE s b q i)]) fun v => Star (LsP csI 1 3 v (rcRvL s b q i)) (RcP R (s.rcv b q i)) := by
  by_cases hE : rcRvE s b q i = 0
  · have h := prrcv_ok (R := R) (base := base) b q i hE
    rw [hE]; exact h
  · have e1 : rcRvL s b q i = [] := by unfold rcRvL; rw [if_neg hE]
    have e2 : s.rcv b q i = s := by unfold RcS.rcv; rw [if_neg hE]
    rw [e1, e2]
    intro T w hP hb hs
    refine (prrcv_no hP b q i hE).mono ?_
    rintro e w' ⟨e3, hb1⟩
    exact ⟨.slice none 0 0, e3, pr_none hP hb1⟩
theorem prskp_any {R : Nat} {s : RcS} (hn : s.l.length ≤ 9999) {base : Nat} (b : Int) : Acts 11 #[.pointer (some ⟨R, 0, none⟩), .int .i64 b] base (RcP R s) (fun v : Value => .tuple #[v, .int .i64 (rcSkE s b)]) fun v => Star (LsP csI 1 3 v (rcSkL s b)) (RcP R (s.skp b)) := prskp_any0 b
theorem pracks_any {R : Nat} {s : RcS} {T : Nat → Prop} {w : World} (hn : s.l.length ≤ 9999) (h : RcP R s T w) : Calls Try.prog 21 #[.pointer (some ⟨R, 0, none⟩)] w (Calm (.agg #[.int .i64 (rcAk s.nx s.l).1, .int .u64 (rcAk s.nx s.l).2]) w) := pracks_any0 h
theorem prholds_any {R : Nat} {s : RcS} {T : Nat → Prop} {w : World} (hn : s.l.length ≤ 9999) (h : RcP R s T w) (i : Int) : Calls Try.prog 19 #[.pointer (some ⟨R, 0, none⟩), .int .i64 i] w (Calm (.bool (rcHo s.l i)) w) := prholds_any0 h i
theorem prhold_any {R : Nat} {s : RcS} {T : Nat → Prop} {w : World} (hn : s.l.length ≤ 9999) (h : RcP R s T w) : Calls Try.prog 36 #[.pointer (some ⟨R, 0, none⟩)] w (GotLs csI 1 3 (rcHl s) w) := prhlg_any h
end Go.Proofs.Ythmncipenjhknaa

