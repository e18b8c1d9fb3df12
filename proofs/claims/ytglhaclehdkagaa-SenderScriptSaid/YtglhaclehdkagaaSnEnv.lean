/-
  Layer 16: the choices, the program's sender and the reference's, side by side: one word for each call. No form of the program's object is named.
-/
import Derived.Test.YtglhaclehdkagaaSnProg
import Derived.Test.YtglhaclehdkagaaLenGen
import Derived.Test.YtglhaclehdkagaaEnvW
namespace Go.Proofs.Ytglhaclehdkagaa
open Go.ChangeShapes Go.WideShapes Go.ChangeAt Go.RowKit
set_option linter.unusedVariables false

/-! ### the three -/
def SnE2 (base B : Nat) (a : Option Addr) (len cap R S : Nat) (q : Nat) (s t : SnS) : RP := Star (RsP S t) (Star (SnP R s) (GenP base B a len cap q))
section
variable {base B : Nat} {a : Option Addr} {len cap R S q : Nat} {s t : SnS} {w w0 w' : World} {X : RP}
theorem SnE2.frm : Frm base (SnE2 base B a len cap R S q s t) := RsP.frm.star (SnP.frm.star GenP.frm)
theorem SnE2.next {n : Int} (n0 : 1 ≤ n) (n1 : n ≤ 1000000000) (hq : q ≤ 1000000000) :
    Acts 8 #[.pointer (some ⟨B, 0, none⟩), .int .i64 n] base (SnE2 base B a len cap R S q s t) (fun r : { r : Int // 0 ≤ r ∧ r < n } => .int .i64 r.1) fun _ => SnE2 base B a len cap R S (q + 1) s t :=
  Acts.right RsP.frm (Acts.right SnP.frm (GenP.next n0 n1 hq))
theorem SnE2.pasg (hn : s.l.length ≤ 9999) (id : Int) : Acts 23 #[.pointer (some ⟨R, 0, none⟩), .int .i64 id] base (SnE2 base B a len cap R S q s t) (fun _ : Unit => .tuple #[.int .i64 (snAsV s id), .int .i64 (snAsE s id)]) fun _ => SnE2 base B a len cap R S q (s.asg id) t :=
  Acts.right RsP.frm ((psasg_any hn id).star GenP.frm)
theorem SnE2.rasg (hn : t.l.length ≤ 9999) (id : Int) : Acts 25 #[.pointer (some ⟨S, 0, none⟩), .int .i64 id] base (SnE2 base B a len cap R S q s t) (fun _ : Unit => .tuple #[.int .i64 (snAsV t id), .int .i64 (snAsE t id)]) fun _ => SnE2 base B a len cap R S q s (t.asg id) :=
  (rsasg_any (by omega) id).star (SnP.frm.star GenP.frm)
theorem SnE2.psnd (hn : s.l.length ≤ 9999) (id : Int) : Acts 24 #[.pointer (some ⟨R, 0, none⟩), .int .i64 id] base (SnE2 base B a len cap R S q s t) (fun _ : Unit => .tuple #[.int .i64 (snSdV s id), .int .i64 (snSdE s id)]) fun _ => SnE2 base B a len cap R S q (s.snd id) t :=
  Acts.right RsP.frm ((pssnd_any hn id).star GenP.frm)
theorem SnE2.rsnd (hn : t.l.length ≤ 9999) (id : Int) : Acts 26 #[.pointer (some ⟨S, 0, none⟩), .int .i64 id] base (SnE2 base B a len cap R S q s t) (fun _ : Unit => .tuple #[.int .i64 (snSdV t id), .int .i64 (snSdE t id)]) fun _ => SnE2 base B a len cap R S q s (t.snd id) :=
  (rssnd_any (by omega) id).star (SnP.frm.star GenP.frm)
theorem SnE2.pdrp (hn : s.l.length ≤ 9999) (id : Int) : Acts 22 #[.pointer (some ⟨R, 0, none⟩), .int .i64 id] base (SnE2 base B a len cap R S q s t) (fun _ : Unit => .tuple #[.int .i64 (snDrV s id), .int .i64 (snDrE s id)]) fun _ => SnE2 base B a len cap R S q (s.drp id) t :=
  Acts.right RsP.frm ((psdrp_any hn id).star GenP.frm)
theorem SnE2.rdrp (hn : t.l.length ≤ 9999) (id : Int) : Acts 29 #[.pointer (some ⟨S, 0, none⟩), .int .i64 id] base (SnE2 base B a len cap R S q s t) (fun _ : Unit => .tuple #[.int .i64 (snDrV t id), .int .i64 (snDrE t id)]) fun _ => SnE2 base B a len cap R S q s (t.drp id) :=
  (rsdrp_any (by omega) id).star (SnP.frm.star GenP.frm)
theorem SnE2.pack (hn : s.l.length ≤ 9999) (b m : Int) (hm : Wd m) : Acts 21 #[.pointer (some ⟨R, 0, none⟩), .agg #[.int .i64 b, .int .u64 m]] base (SnE2 base B a len cap R S q s t) (fun v : Value => v) fun v => Star (LsP csI 1 3 v (snAkL s b m)) (SnE2 base B a len cap R S q (s.ack b m) t) :=
  (Acts.right RsP.frm ((psack_any hn b m hm).star GenP.frm)).imp (fun _ _ h => h) fun v T w h => Star.pick2 (Star.mapR (fun _ => Star.assoc) h)
theorem SnE2.rack (hn : t.l.length ≤ 9999) (b m : Int) (hm : Wd m) : Acts 28 #[.pointer (some ⟨S, 0, none⟩), .agg #[.int .i64 b, .int .u64 m]] base (SnE2 base B a len cap R S q s t) (fun v : Value => v) fun v => Star (LsP csI 1 3 v (snAkL t b m)) (SnE2 base B a len cap R S q s (t.ack b m)) :=
  ((rsack_any (by omega) b m hm).star (SnP.frm.star GenP.frm)).imp (fun _ _ h => h) fun v T w h => Star.assoc h
theorem SnE2.pget (h : Inv base w0 (SnE2 base B a len cap R S q s t) w) : ∃ T, SnP R s T w := by
  obtain ⟨T, ⟨A, B, _, _, _, C, D, _, _, hp, _⟩, _⟩ := h; exact ⟨C, hp⟩
theorem SnE2.rget (h : Inv base w0 (SnE2 base B a len cap R S q s t) w) : ∃ T, RsP S t T w := by
  obtain ⟨T, ⟨A, B, _, _, hp, _⟩, _⟩ := h; exact ⟨A, hp⟩
theorem SnE2.bd (h : Inv base w0 (SnE2 base B a len cap R S q s t) w) : 0 ≤ snBase t ∧ snBase t < 65536 := by
  obtain ⟨T, hp⟩ := SnE2.rget h; exact hp.1.base
theorem SnE2.rbase (h : Inv base w0 (SnE2 base B a len cap R S q s t) w) : Calls Try.prog 15 #[.pointer (some ⟨S, 0, none⟩)] w fun e w' => e = .returned (.int .i64 (snBase t)) ∧ Inv base w0 (SnE2 base B a len cap R S q s t) w' := by
  obtain ⟨T, hp⟩ := SnE2.rget h; exact Inv.calm h SnE2.frm (rsbase_any hp)
theorem SnE2.rbaseX (hX : Frm base X) (h : Inv base w0 (Star X (SnE2 base B a len cap R S q s t)) w) : Calls Try.prog 15 #[.pointer (some ⟨S, 0, none⟩)] w fun e w' => e = .returned (.int .i64 (snBase t)) ∧ Inv base w0 (Star X (SnE2 base B a len cap R S q s t)) w' := by
  obtain ⟨T, hp⟩ := SnE2.rget h.drop; exact Inv.calm h (hX.star SnE2.frm) (rsbase_any hp)
theorem SnE2.nx1 (h : Inv base w0 (SnE2 base B a len cap R S q s t) w) {n : Int} (n0 : 1 ≤ n) (n1 : n ≤ 1000000000) (hq : q ≤ 1000000000) :
    Calls Try.prog 8 #[.pointer (some ⟨B, 0, none⟩), .int .i64 n] w fun e w' => ∃ r : Int, 0 ≤ r ∧ r < n ∧ e = .returned (.int .i64 r) ∧ Inv base w0 (SnE2 base B a len cap R S (q + 1) s t) w' :=
  (Inv.call h (SnE2.next n0 n1 hq)).mono fun e w' ⟨r, e1, h2⟩ => ⟨r.1, r.2.1, r.2.2, e1, h2⟩
theorem SnE2.nxX (hX : Frm base X) (h : Inv base w0 (Star X (SnE2 base B a len cap R S q s t)) w) {n : Int} (n0 : 1 ≤ n) (n1 : n ≤ 1000000000) (hq : q ≤ 1000000000) :
    Calls Try.prog 8 #[.pointer (some ⟨B, 0, none⟩), .int .i64 n] w fun e w' => ∃ r : Int, 0 ≤ r ∧ r < n ∧ e = .returned (.int .i64 r) ∧ Inv base w0 (Star X (SnE2 base B a len cap R S (q + 1) s t)) w' :=
  (Inv.call h (Acts.right hX (SnE2.next n0 n1 hq))).mono fun e w' ⟨r, e1, h2⟩ => ⟨r.1, r.2.1, r.2.2, e1, h2⟩
end
end Go.Proofs.Ytglhaclehdkagaa

