/-
  Layer 9: the walk of RulesCover. Written by a program (gen_rucov.py).
-/
import Derived.Test.YtfkbohfelacaoaaDoorRuFormat
import Derived.Test.YtfkbohfelacaoaaDoorRuRefM
namespace Go.Proofs.YtfkbohfelacaoaaDoor
open Go.ChangeShapes Go.WideShapes Go.ChangeAt Go.RowKit
set_option linter.unusedVariables false

/-- Blocks of five cells, known whole. -/
def Five (w : World) (b : Nat) (v0 v1 v2 v3 v4 : Value) : Prop := w.cell? ⟨b, 0, none⟩ = some v0 ∧ w.cell? ⟨b, 1, none⟩ = some v1 ∧ w.cell? ⟨b, 2, none⟩ = some v2 ∧ w.cell? ⟨b, 3, none⟩ = some v3 ∧ w.cell? ⟨b, 4, none⟩ = some v4
theorem Five.later {w w' : World} {b : Nat} {v0 v1 v2 v3 v4 : Value} (h : Five w b v0 v1 v2 v3 v4) (hb : Below w.heap.size w w') : Five w' b v0 v1 v2 v3 v4 := by
  obtain ⟨h0, h1, h2, h3, h4⟩ := h
  exact ⟨cell_later h0 hb, cell_later h1 hb, cell_later h2 hb, cell_later h3 hb, cell_later h4 hb⟩
theorem Whole.five' {w : World} {b : Nat} {t : TypeId} {v0 v1 v2 v3 v4 : Value} (h : Whole w b t #[v0, v1, v2, v3, v4]) : Five w b v0 v1 v2 v3 v4 := ⟨h.read 0, h.read 1, h.read 2, h.read 3, h.read 4⟩
theorem held2 {w0 w w' : World} {b1 b2 : Nat} {p0 p1 p2 p3 p4 q0 q1 q2 q3 q4 : Value} (hb : Below w.heap.size w w')
    (h : w.cell? ⟨b1, 0, none⟩ = some p0 ∧ w.cell? ⟨b1, 1, none⟩ = some p1 ∧ w.cell? ⟨b1, 2, none⟩ = some p2 ∧ w.cell? ⟨b1, 3, none⟩ = some p3 ∧ w.cell? ⟨b1, 4, none⟩ = some p4 ∧
      w.cell? ⟨b2, 0, none⟩ = some q0 ∧ w.cell? ⟨b2, 1, none⟩ = some q1 ∧ w.cell? ⟨b2, 2, none⟩ = some q2 ∧ w.cell? ⟨b2, 3, none⟩ = some q3 ∧ w.cell? ⟨b2, 4, none⟩ = some q4 ∧ Below w0.heap.size w0 w) :
    w'.cell? ⟨b1, 0, none⟩ = some p0 ∧ w'.cell? ⟨b1, 1, none⟩ = some p1 ∧ w'.cell? ⟨b1, 2, none⟩ = some p2 ∧ w'.cell? ⟨b1, 3, none⟩ = some p3 ∧ w'.cell? ⟨b1, 4, none⟩ = some p4 ∧
      w'.cell? ⟨b2, 0, none⟩ = some q0 ∧ w'.cell? ⟨b2, 1, none⟩ = some q1 ∧ w'.cell? ⟨b2, 2, none⟩ = some q2 ∧ w'.cell? ⟨b2, 3, none⟩ = some q3 ∧ w'.cell? ⟨b2, 4, none⟩ = some q4 ∧ Below w0.heap.size w0 w' := by
  obtain ⟨h0, h1, h2, h3, h4, k0, k1, k2, k3, k4, h5⟩ := h
  exact ⟨cell_later h0 hb, cell_later h1 hb, cell_later h2 hb, cell_later h3 hb, cell_later h4 hb, cell_later k0 hb, cell_later k1 hb, cell_later k2 hb, cell_later k3 hb, cell_later k4 hb, h5.trans (hb.mono h5.size)⟩
theorem held2WS {w0 w : World} {p0 p1 p2 p3 p4 q0 q1 q2 q3 q4 : Prop} (hW : WS w0) (h : p0 ∧ p1 ∧ p2 ∧ p3 ∧ p4 ∧ q0 ∧ q1 ∧ q2 ∧ q3 ∧ q4 ∧ Below w0.heap.size w0 w) : WS w := hW.below h.2.2.2.2.2.2.2.2.2.2
theorem held3c {w0 w w' : World} {b1 b2 b3 : Nat} {p0 p1 p2 p3 p4 q0 q1 q2 q3 q4 r0 r1 r2 r3 r4 : Value} (hb : Below w.heap.size w w')
    (h : w.cell? ⟨b1, 0, none⟩ = some p0 ∧ w.cell? ⟨b1, 1, none⟩ = some p1 ∧ w.cell? ⟨b1, 2, none⟩ = some p2 ∧ w.cell? ⟨b1, 3, none⟩ = some p3 ∧ w.cell? ⟨b1, 4, none⟩ = some p4 ∧
      w.cell? ⟨b2, 0, none⟩ = some q0 ∧ w.cell? ⟨b2, 1, none⟩ = some q1 ∧ w.cell? ⟨b2, 2, none⟩ = some q2 ∧ w.cell? ⟨b2, 3, none⟩ = some q3 ∧ w.cell? ⟨b2, 4, none⟩ = some q4 ∧
      w.cell? ⟨b3, 0, none⟩ = some r0 ∧ w.cell? ⟨b3, 1, none⟩ = some r1 ∧ w.cell? ⟨b3, 2, none⟩ = some r2 ∧ w.cell? ⟨b3, 3, none⟩ = some r3 ∧ w.cell? ⟨b3, 4, none⟩ = some r4 ∧ Below w0.heap.size w0 w) :
    w'.cell? ⟨b1, 0, none⟩ = some p0 ∧ w'.cell? ⟨b1, 1, none⟩ = some p1 ∧ w'.cell? ⟨b1, 2, none⟩ = some p2 ∧ w'.cell? ⟨b1, 3, none⟩ = some p3 ∧ w'.cell? ⟨b1, 4, none⟩ = some p4 ∧
      w'.cell? ⟨b2, 0, none⟩ = some q0 ∧ w'.cell? ⟨b2, 1, none⟩ = some q1 ∧ w'.cell? ⟨b2, 2, none⟩ = some q2 ∧ w'.cell? ⟨b2, 3, none⟩ = some q3 ∧ w'.cell? ⟨b2, 4, none⟩ = some q4 ∧
      w'.cell? ⟨b3, 0, none⟩ = some r0 ∧ w'.cell? ⟨b3, 1, none⟩ = some r1 ∧ w'.cell? ⟨b3, 2, none⟩ = some r2 ∧ w'.cell? ⟨b3, 3, none⟩ = some r3 ∧ w'.cell? ⟨b3, 4, none⟩ = some r4 ∧ Below w0.heap.size w0 w' := by
  obtain ⟨h0, h1, h2, h3, h4, k0, k1, k2, k3, k4, l0, l1, l2, l3, l4, h5⟩ := h
  exact ⟨cell_later h0 hb, cell_later h1 hb, cell_later h2 hb, cell_later h3 hb, cell_later h4 hb, cell_later k0 hb, cell_later k1 hb, cell_later k2 hb, cell_later k3 hb, cell_later k4 hb, cell_later l0 hb, cell_later l1 hb, cell_later l2 hb, cell_later l3 hb, cell_later l4 hb, h5.trans (hb.mono h5.size)⟩
theorem put3' {w0 w : World} {b1 b2 b3 : Nat} {p0 p1 p2 p3 p4 q0 q1 q2 q3 q4 r0 r1 r2 r3 r4 : Value} (h1 : Five w b1 p0 p1 p2 p3 p4) (h2 : Five w b2 q0 q1 q2 q3 q4) (h3 : Five w b3 r0 r1 r2 r3 r4) (hb : Below w0.heap.size w0 w) :
    w.drew.cell? ⟨b1, 0, none⟩ = some p0 ∧ w.drew.cell? ⟨b1, 1, none⟩ = some p1 ∧ w.drew.cell? ⟨b1, 2, none⟩ = some p2 ∧ w.drew.cell? ⟨b1, 3, none⟩ = some p3 ∧ w.drew.cell? ⟨b1, 4, none⟩ = some p4 ∧
      w.drew.cell? ⟨b2, 0, none⟩ = some q0 ∧ w.drew.cell? ⟨b2, 1, none⟩ = some q1 ∧ w.drew.cell? ⟨b2, 2, none⟩ = some q2 ∧ w.drew.cell? ⟨b2, 3, none⟩ = some q3 ∧ w.drew.cell? ⟨b2, 4, none⟩ = some q4 ∧
      w.drew.cell? ⟨b3, 0, none⟩ = some r0 ∧ w.drew.cell? ⟨b3, 1, none⟩ = some r1 ∧ w.drew.cell? ⟨b3, 2, none⟩ = some r2 ∧ w.drew.cell? ⟨b3, 3, none⟩ = some r3 ∧ w.drew.cell? ⟨b3, 4, none⟩ = some r4 ∧ Below w0.heap.size w0 w.drew := by
  obtain ⟨a0, a1, a2, a3, a4⟩ := h1
  obtain ⟨c0, c1, c2, c3, c4⟩ := h2
  obtain ⟨e0, e1, e2, e3, e4⟩ := h3
  exact ⟨a0, a1, a2, a3, a4, c0, c1, c2, c3, c4, e0, e1, e2, e3, e4, hb.drew⟩
theorem put2' {w0 w : World} {b1 b2 : Nat} {p0 p1 p2 p3 p4 q0 q1 q2 q3 q4 : Value} (h1 : Five w b1 p0 p1 p2 p3 p4) (h2 : Five w b2 q0 q1 q2 q3 q4) (hb : Below w0.heap.size w0 w) :
    w.drew.cell? ⟨b1, 0, none⟩ = some p0 ∧ w.drew.cell? ⟨b1, 1, none⟩ = some p1 ∧ w.drew.cell? ⟨b1, 2, none⟩ = some p2 ∧ w.drew.cell? ⟨b1, 3, none⟩ = some p3 ∧ w.drew.cell? ⟨b1, 4, none⟩ = some p4 ∧
      w.drew.cell? ⟨b2, 0, none⟩ = some q0 ∧ w.drew.cell? ⟨b2, 1, none⟩ = some q1 ∧ w.drew.cell? ⟨b2, 2, none⟩ = some q2 ∧ w.drew.cell? ⟨b2, 3, none⟩ = some q3 ∧ w.drew.cell? ⟨b2, 4, none⟩ = some q4 ∧ Below w0.heap.size w0 w.drew := by
  obtain ⟨a0, a1, a2, a3, a4⟩ := h1
  obtain ⟨c0, c1, c2, c3, c4⟩ := h2
  exact ⟨a0, a1, a2, a3, a4, c0, c1, c2, c3, c4, hb.drew⟩
theorem Five.alloc {w : World} {b : Nat} {v0 v1 v2 v3 v4 : Value} (h : Five w b v0 v1 v2 v3 v4) (o : Obj) : Five (w.alloc o) b v0 v1 v2 v3 v4 := h.later ((Below.refl _ _).alloc (Nat.le_refl _) _)
/-- What the operations of the statement's big test give: z: x covers y; m: y matches h. -/
def CvV (X Y H : Array Value) (z m : Bool) : Nat → Value → World → Prop
  | 0, v, _ => v = .agg X
  | 1, v, _ => v = .agg Y
  | 2, v, _ => v = .bool z
  | 3, v, _ => v = .agg X
  | 4, v, _ => v = .agg Y
  | 5, v, _ => v = .bool z
  | 6, v, _ => v = .bool false
  | 7, v, _ => v = .bool false
  | 8, v, _ => v = .agg X
  | 9, v, _ => v = .agg X
  | 10, v, _ => v = .bool true
  | 11, v, _ => v = .bool false
  | 12, v, _ => v = .bool false
  | 13, v, _ => v = .bool false
  | 14, v, _ => v = .agg X
  | 15, v, _ => v = .agg Y
  | 16, v, _ => v = .bool z
  | 17, v, _ => v = .bool z
  | 18, v, _ => z = true → v = .agg Y
  | 19, v, _ => z = true → v = .agg H
  | 20, v, _ => z = true → v = .bool m
  | 21, v, _ => v = .bool (z && m)
  | 22, v, _ => v = .bool (z && m)
  | 23, v, _ => (z && m) = true → v = .agg X
  | 24, v, _ => (z && m) = true → v = .agg H
  | 25, v, _ => (z && m) = true → v = .bool true
  | 26, v, _ => (z && m) = true → v = .bool false
  | 27, v, _ => v = .bool false
  | 28, v, _ => v = .bool false
  | _, _, _ => True
def CvC (w0 : World) (b : Nat) (x0 x1 x2 x3 x4 y0 y1 y2 y3 y4 h0 h1 h2 h3 h4 : Value) (_ : Nat) (w : World) : Prop := Five w b x0 x1 x2 x3 x4 ∧ Five w (b + 1) y0 y1 y2 y3 y4 ∧ Five w (b + 1 + 1) h0 h1 h2 h3 h4 ∧ Below w0.heap.size w0 w
theorem CvC.step {w0 w w' : World} {b k k' : Nat} {x0 x1 x2 x3 x4 y0 y1 y2 y3 y4 h0 h1 h2 h3 h4 : Value} (h : CvC w0 b x0 x1 x2 x3 x4 y0 y1 y2 y3 y4 h0 h1 h2 h3 h4 k w) (hb : Below w.heap.size w w') : CvC w0 b x0 x1 x2 x3 x4 y0 y1 y2 y3 y4 h0 h1 h2 h3 h4 k' w' :=
  ⟨h.1.later hb, h.2.1.later hb, h.2.2.1.later hb, h.2.2.2.trans (hb.mono h.2.2.2.size)⟩
/-- What the operations of the last test give: g1, g2: a station is too long; a, b: the stations; p, q: the blocks; P, R: what they hold. -/
def LtV (p q : Nat) (a b : ByteArray) (P R : Array Value) (g1 g2 z : Bool) : Nat → Value → World → Prop
  | 0, v, _ => v = .pointer (some ⟨p, 0, none⟩)
  | 1, v, _ => v = .string a
  | 2, v, _ => v = .int .i64 a.size
  | 3, v, _ => v = .bool g1
  | 4, v, _ => v = .bool g1
  | 5, v, _ => g1 = false → v = .pointer (some ⟨q, 0, none⟩)
  | 6, v, _ => g1 = false → v = .string b
  | 7, v, _ => g1 = false → v = .int .i64 b.size
  | 8, v, _ => g1 = false → v = .bool g2
  | 9, v, _ => v = .bool (g1 || g2)
  | 10, v, _ => v = .bool (g1 || g2)
  | 11, v, _ => (g1 || g2) = false → v = .agg P
  | 12, v, _ => (g1 || g2) = false → v = .agg R
  | 13, v, _ => (g1 || g2) = false → v = .bool z
  | 14, v, _ => (g1 || g2) = false → v = .agg P
  | 15, v, _ => (g1 || g2) = false → v = .agg R
  | 16, v, _ => (g1 || g2) = false → v = .bool z
  | 17, v, _ => (g1 || g2) = false → v = .bool true
  | 18, v, _ => (g1 || g2) = false → v = .bool true
  | 19, v, _ => (g1 || g2) = false → v = .bool true
  | 20, v, _ => (g1 || g2) = false → v = .bool true
  | 21, v, _ => v = .bool true
  | 22, v, _ => v = .bool true
  | _, _, _ => True
def LtC (w0 : World) (p q : Nat) (x0 x1 x2 x3 x4 y0 y1 y2 y3 y4 : Value) (_ : Nat) (w : World) : Prop := Five w p x0 x1 x2 x3 x4 ∧ Five w q y0 y1 y2 y3 y4 ∧ Below w0.heap.size w0 w
theorem LtC.step {w0 w w' : World} {p q k k' : Nat} {x0 x1 x2 x3 x4 y0 y1 y2 y3 y4 : Value} (h : LtC w0 p q x0 x1 x2 x3 x4 y0 y1 y2 y3 y4 k w) (hb : Below w.heap.size w w') : LtC w0 p q x0 x1 x2 x3 x4 y0 y1 y2 y3 y4 k' w' :=
  ⟨h.1.later hb, h.2.1.later hb, h.2.2.trans (hb.mono h.2.2.size)⟩
theorem LtC.ws {w0 w : World} {p q k : Nat} {x0 x1 x2 x3 x4 y0 y1 y2 y3 y4 : Value} (h : LtC w0 p q x0 x1 x2 x3 x4 y0 y1 y2 y3 y4 k w) (hW : WS w0) : WS w := hW.below h.2.2
set_option maxRecDepth 100000 in
set_option maxHeartbeats 3000000 in
theorem walkCover (A : Option Addr) (len cap : Nat) (a0s bs : ByteArray) (ac af al an bc bf bl bn : Int) (w : World) (he : Elems w.heap.size A len w) (hw : WS w) :
    Calls Tryd.prog 6 #[.slice A len cap, .agg #[.string a0s, .int .i64 ac, .int .i64 af, .int .i64 al, .int .i64 an], .agg #[.string bs, .int .i64 bc, .int .i64 bf, .int .i64 bl, .int .i64 bn]] w (BoolAns true w) := by
  have HA := Lib.hid (fun w hw => awake9_any w hw)
  have HC1 := Lib.hid (fun s1 s2 c1 f1 l1 n1 c2 f2 l2 n2 w => cov_any s1 s2 c1 f1 l1 n1 c2 f2 l2 n2 w)
  have HC2 := Lib.hid (fun s1 s2 c1 f1 l1 n1 c2 f2 l2 n2 h1 h2 w => covR_any s1 s2 c1 f1 l1 n1 c2 f2 l2 n2 h1 h2 w)
  have HM := Lib.hid (fun s1 s2 c1 f1 l1 n1 c2 p2 l2 f2 w => mt_any s1 s2 c1 f1 l1 n1 c2 p2 l2 f2 w)
  unfold BoolAns at HA HC1 HC2 HM
  unfold BoolAns
  have hk := box2 w 29 29 #[.string a0s, .int .i64 ac, .int .i64 af, .int .i64 al, .int .i64 an] #[.string bs, .int .i64 bc, .int .i64 bf, .int .i64 bl, .int .i64 bn]
  have hb0 := box2_below w (.cells #[.string a0s, .int .i64 ac, .int .i64 af, .int .i64 al, .int .i64 an] 29) (.cells #[.string bs, .int .i64 bc, .int .i64 bf, .int .i64 bl, .int .i64 bn] 29)
  have HZA := Lib.hid hk.1.five'
  have HZB := Lib.hid hk.2.five'
  have he1 : Elems ((w.alloc (.cells #[.string a0s, .int .i64 ac, .int .i64 af, .int .i64 al, .int .i64 an] 29)).alloc (.cells #[.string bs, .int .i64 bc, .int .i64 bf, .int .i64 bl, .int .i64 bn] 29)).heap.size A len ((w.alloc (.cells #[.string a0s, .int .i64 ac, .int .i64 af, .int .i64 al, .int .i64 an] 29)).alloc (.cells #[.string bs, .int .i64 bc, .int .i64 bf, .int .i64 bl, .int .i64 bn] 29)) := (he.kept hb0).wide (by simp; omega)
  have hz0 : ((w.alloc (.cells #[.string a0s, .int .i64 ac, .int .i64 af, .int .i64 al, .int .i64 an] 29)).alloc (.cells #[.string bs, .int .i64 bc, .int .i64 bf, .int .i64 bl, .int .i64 bn] 29)).heap.size = w.heap.size + 2 := by simp
  have hW := Lib.hid hw
  have HB0 := Lib.hid hb0
  clear hw hk hb0
  go_enter Tryd.func6, Tryd.ntmps6
  go_wp2_with fail
  generalize ((w.alloc (.cells #[.string a0s, .int .i64 ac, .int .i64 af, .int .i64 al, .int .i64 an] 29)).alloc (.cells #[.string bs, .int .i64 bc, .int .i64 bf, .int .i64 bl, .int .i64 bn] 29)) = w1 at *
  have hg := Lib.hid (Has.new (cap := cap) he1)
  have hS := Lib.hid hz0
  clear he he1 hz0
  (with_reducible refine (new_any A len cap _).mono ?_); rintro e w' ⟨rfl, rfl⟩
  go_wp2_with fail
  go_loopw [8] (fun i wr => ∃ j q : Nat, j ≤ 6 ∧ i = .int .i64 j ∧ q ≤ 80 * j ∧ Hid (Has w1.heap.size A len cap q w1 wr)) (fun i _ => 6 - (intOf i).toNat)
  case atStart => exact ⟨0, 0, by omega, rfl, by omega, hg⟩
  case round =>
    obtain ⟨j, q, hj, rfl, hq, HJ⟩ := hrel
    clear hg
    by_cases hlt : j < 6
    · have hlt' : (j : Int) < 6 := by omega
      go_wp2_with fail
      (with_reducible refine (has_rule w1.heap.size A len cap q w1 wr HJ.out (by omega)).mono ?_)
      rintro e w2 ⟨xs, xc, xf, xl, xn, hx, rfl, ⟨k2, hk2, h2⟩, ho2⟩
      have H2 := Lib.hid h2
      clear h2 ho2 HJ
      go_wp2_with fail
      (with_reducible refine (has_rule w1.heap.size A len cap k2 w1 _ H2.out (by omega)).mono ?_)
      rintro e w3 ⟨ys, yc, yf, yl, yn, hy, rfl, ⟨k3, hk3, h3⟩, ho3⟩
      have H3 := Lib.hid h3
      clear h3 ho3 H2
      go_wp2_with fail
      (with_reducible refine (has_header w1.heap.size A len cap k3 w1 _ H3.out (by omega)).mono ?_)
      rintro e w4 ⟨hs, hc, hp, hl, hf, hh, rfl, ⟨k4, hk4, h4⟩, ho4⟩
      have hxs := hx.size
      have hys := hy.size
      have hhs := hh.small
      have oxx := cov_self hx.ok
      have oal := cov_all hx.ok
      have oma := mt_all (h := ⟨hs, hc, hp, hl, hf⟩) hh.ok
      have omm := Lib.hid (fun a b => cov_mt (a := ⟨xs, xc, xf, xl, xn⟩) (b := ⟨ys, yc, yf, yl, yn⟩) (h := ⟨hs, hc, hp, hl, hf⟩) a b)
      have K1 := Lib.hid (fun w => HC1.out xs ys xc xf xl xn yc yf yl yn w)
      have K2 := Lib.hid (fun w => HC2.out xs ys xc xf xl xn yc yf yl yn (by omega) (by omega) w)
      have K3 := Lib.hid (fun w => HC1.out xs xs xc xf xl xn xc xf xl xn w)
      have K4 := Lib.hid (fun w => HM.out ys hs yc yf yl yn hc hp hl hf w)
      have K5 := Lib.hid (fun w => HM.out xs hs xc xf xl xn hc hp hl hf w)
      have K6 := Lib.hid (fun w => HC1.out ⟨#[]⟩ xs (-1) 0 65535 0 xc xf xl xn w)
      have K7 := Lib.hid (fun w => HM.out ⟨#[]⟩ hs (-1) 0 65535 0 hc hp hl hf w)
      unfold allR at oal oma
      rw [oxx] at K3
      rw [oal] at K6
      rw [oma] at K7
      have hx5 := ((Whole.fresh w4 29 #[.string xs, .int .i64 xc, .int .i64 xf, .int .i64 xl, .int .i64 xn]).five'.alloc (.cells #[.string ys, .int .i64 yc, .int .i64 yf, .int .i64 yl, .int .i64 yn] 29)).alloc (.cells #[.string hs, .int .i64 hc, .int .i64 hp, .int .i64 hl, .int .i64 hf] 43)
      have hyh := box2 (w4.alloc (.cells #[.string xs, .int .i64 xc, .int .i64 xf, .int .i64 xl, .int .i64 xn] 29)) 29 43 #[.string ys, .int .i64 yc, .int .i64 yf, .int .i64 yl, .int .i64 yn] #[.string hs, .int .i64 hc, .int .i64 hp, .int .i64 hl, .int .i64 hf]
      rw [show (w4.alloc (.cells #[.string xs, .int .i64 xc, .int .i64 xf, .int .i64 xl, .int .i64 xn] 29)).heap.size = w4.heap.size + 1 by simp] at hyh
      have hy5 := hyh.1.five'
      have hh5 := hyh.2.five'
      have H5 := Lib.hid (((h4.alloc (.cells #[.string xs, .int .i64 xc, .int .i64 xf, .int .i64 xl, .int .i64 xn] 29)).alloc (.cells #[.string ys, .int .i64 yc, .int .i64 yf, .int .i64 yl, .int .i64 yn] 29)).alloc (.cells #[.string hs, .int .i64 hc, .int .i64 hp, .int .i64 hl, .int .i64 hf] 43))
      have hsz5 : w4.heap.size + 1 + 1 < (((w4.alloc (.cells #[.string xs, .int .i64 xc, .int .i64 xf, .int .i64 xl, .int .i64 xn] 29)).alloc (.cells #[.string ys, .int .i64 yc, .int .i64 yf, .int .i64 yl, .int .i64 yn] 29)).alloc (.cells #[.string hs, .int .i64 hc, .int .i64 hp, .int .i64 hl, .int .i64 hf] 43)).heap.size := by simp
      clear hyh h4 ho4 hx hy hh oxx oal oma H3 HC1 HC2 HM hxs hys hhs
      go_wp2_with fail
      generalize (((w4.alloc (.cells #[.string xs, .int .i64 xc, .int .i64 xf, .int .i64 xl, .int .i64 xn] 29)).alloc (.cells #[.string ys, .int .i64 yc, .int .i64 yf, .int .i64 yl, .int .i64 yn] 29)).alloc (.cells #[.string hs, .int .i64 hc, .int .i64 hp, .int .i64 hl, .int .i64 hf] 43)) = w5 at *
      have HC5 := Lib.hid (show CvC w5 w4.heap.size (.string xs) (.int .i64 xc) (.int .i64 xf) (.int .i64 xl) (.int .i64 xn) (.string ys) (.int .i64 yc) (.int .i64 yf) (.int .i64 yl) (.int .i64 yn) (.string hs) (.int .i64 hc) (.int .i64 hp) (.int .i64 hl) (.int .i64 hf) 0 w5 from ⟨hx5, hy5, hh5, Below.refl _ _⟩)
      clear hx5 hy5 hh5
      cases hz : cov ⟨xs, xc, xf, xl, xn⟩ ⟨ys, yc, yf, yl, yn⟩
      · rw [hz] at K1 K2
        clear omm hz
        refine wp_region_loose 87 (by kernel_rfl) (by kernel_rfl) (CvC w5 w4.heap.size (.string xs) (.int .i64 xc) (.int .i64 xf) (.int .i64 xl) (.int .i64 xn) (.string ys) (.int .i64 yc) (.int .i64 yf) (.int .i64 yl) (.int .i64 yn) (.string hs) (.int .i64 hc) (.int .i64 hp) (.int .i64 hl) (.int .i64 hf)) FoR
          (CvV #[.string xs, .int .i64 xc, .int .i64 xf, .int .i64 xl, .int .i64 xn] #[.string ys, .int .i64 yc, .int .i64 yf, .int .i64 yl, .int .i64 yn] #[.string hs, .int .i64 hc, .int .i64 hp, .int .i64 hl, .int .i64 hf] false false) rfl (fun i v w w' h hv => by unfold CvV at *; split at hv <;> exact hv) ?_ ?_ ?_
        · exact HC5.out.step (Below.refl _ _).drew
        · simp only [OblAll]
          refine ⟨?_, ?_, ?_, ?_, ?_, ?_, ?_, ?_, ?_, ?_, ?_, ?_, ?_, ?_, ?_, ?_, ?_, ?_, ?_, ?_, ?_, ?_, ?_, ?_, ?_, ?_, ?_, ?_, ?_, trivial⟩
          all_goals
            intro fu wx vals hC hp
            simp [predL, predE, Region.binds, PreV, CvV] at hp
            simp only [fillA, if_true, Act.put]
            simp
            have HC := Lib.hid hC
            obtain ⟨⟨a0, a1, a2, a3, a4⟩, ⟨c0, c1, c2, c3, c4⟩, ⟨e0, e1, e2, e3, e4⟩, _⟩ := hC
            have HR0 := Lib.hid (show FoR wx wx from Below.refl _ _)
          · try simp only [hp]
            try clear hp
            go_wp2
            exact ⟨rfl, HC.out.step (Below.refl _ _), HR0.out, rfl⟩
          · try simp only [hp]
            try clear hp
            go_wp2
            exact ⟨rfl, HC.out.step (Below.refl _ _), HR0.out, rfl⟩
          · try simp only [hp]
            try clear hp
            go_wp2_with fail
            (with_reducible refine (K1.out _).mono ?_); rintro e w' ⟨rfl, hb⟩
            have HB := Lib.hid hb
            go_wp2
            exact ⟨rfl, HC.out.step HB.out, HB.out, rfl⟩
          · try simp only [hp]
            try clear hp
            go_wp2
            exact ⟨rfl, HC.out.step (Below.refl _ _), HR0.out, rfl⟩
          · try simp only [hp]
            try clear hp
            go_wp2
            exact ⟨rfl, HC.out.step (Below.refl _ _), HR0.out, rfl⟩
          · try simp only [hp]
            try clear hp
            go_wp2_with fail
            (with_reducible refine (K2.out _).mono ?_); rintro e w' ⟨rfl, hb⟩
            have HB := Lib.hid hb
            go_wp2
            exact ⟨rfl, HC.out.step HB.out, HB.out, rfl⟩
          · try simp only [hp]
            try clear hp
            go_wp2
            exact ⟨rfl, HC.out.step (Below.refl _ _), HR0.out, rfl⟩
          · try simp only [hp]
            try clear hp
            go_wp2
            exact ⟨rfl, HC.out.step (Below.refl _ _), HR0.out, rfl⟩
          · try simp only [hp]
            try clear hp
            go_wp2
            exact ⟨rfl, HC.out.step (Below.refl _ _), HR0.out, rfl⟩
          · try simp only [hp]
            try clear hp
            go_wp2
            exact ⟨rfl, HC.out.step (Below.refl _ _), HR0.out, rfl⟩
          · try simp only [hp]
            try clear hp
            go_wp2_with fail
            (with_reducible refine (K3.out _).mono ?_); rintro e w' ⟨rfl, hb⟩
            have HB := Lib.hid hb
            go_wp2
            exact ⟨rfl, HC.out.step HB.out, HB.out, rfl⟩
          · try simp only [hp]
            try clear hp
            go_wp2
            exact ⟨rfl, HC.out.step (Below.refl _ _), HR0.out, rfl⟩
          · try simp only [hp]
            try clear hp
            go_wp2
            exact ⟨rfl, HC.out.step (Below.refl _ _), HR0.out, rfl⟩
          · try simp only [hp]
            try clear hp
            go_wp2
            exact ⟨rfl, HC.out.step (Below.refl _ _), HR0.out, rfl⟩
          · try simp only [hp]
            try clear hp
            go_wp2
            exact ⟨rfl, HC.out.step (Below.refl _ _), HR0.out, rfl⟩
          · try simp only [hp]
            try clear hp
            go_wp2
            exact ⟨rfl, HC.out.step (Below.refl _ _), HR0.out, rfl⟩
          · try simp only [hp]
            try clear hp
            go_wp2_with fail
            (with_reducible refine (K1.out _).mono ?_); rintro e w' ⟨rfl, hb⟩
            have HB := Lib.hid hb
            go_wp2
            exact ⟨rfl, HC.out.step HB.out, HB.out, rfl⟩
          · try simp only [hp]
            try clear hp
            go_wp2
            exact ⟨rfl, HC.out.step (Below.refl _ _), HR0.out, rfl⟩
          · try simp only [hp]
            try clear hp
            go_wp2
            exact ⟨rfl, HC.out.step (Below.refl _ _), HR0.out, fun h => absurd h (by decide)⟩
          · try simp only [hp]
            try clear hp
            go_wp2
            exact ⟨rfl, HC.out.step (Below.refl _ _), HR0.out, fun h => absurd h (by decide)⟩
          · try simp only [hp]
            try clear hp
            go_wp2
            exact ⟨rfl, HC.out.step (Below.refl _ _), HR0.out, fun h => absurd h (by decide)⟩
          · try simp only [hp]
            try clear hp
            go_wp2
            exact ⟨rfl, HC.out.step (Below.refl _ _), HR0.out, rfl⟩
          · try simp only [hp]
            try clear hp
            go_wp2
            exact ⟨rfl, HC.out.step (Below.refl _ _), HR0.out, rfl⟩
          · try simp only [hp]
            try clear hp
            go_wp2
            exact ⟨rfl, HC.out.step (Below.refl _ _), HR0.out, fun h => absurd h (by decide)⟩
          · try simp only [hp]
            try clear hp
            go_wp2
            exact ⟨rfl, HC.out.step (Below.refl _ _), HR0.out, fun h => absurd h (by decide)⟩
          · try simp only [hp]
            try clear hp
            go_wp2
            exact ⟨rfl, HC.out.step (Below.refl _ _), HR0.out, fun h => absurd h (by decide)⟩
          · try simp only [hp]
            try clear hp
            go_wp2
            exact ⟨rfl, HC.out.step (Below.refl _ _), HR0.out, fun h => absurd h (by decide)⟩
          · try simp only [hp]
            try clear hp
            go_wp2
            exact ⟨rfl, HC.out.step (Below.refl _ _), HR0.out, rfl⟩
          · try simp only [hp]
            try clear hp
            go_wp2
            exact ⟨rfl, HC.out.step (Below.refl _ _), HR0.out, rfl⟩
        · intro w6 vals hC hV
          have e28 := (show vals 28 = .bool false from hV 28 (by simp))
          simp only [fillA, if_true, Act.put]
          simp
          simp only [e28]
          clear hV e28
          have HC6 := Lib.hid hC
          clear hC K1 K2 HC5
          try clear K4
          try clear K5
          clear K3
          obtain ⟨⟨a0, a1, a2, a3, a4⟩, ⟨c0, c1, c2, c3, c4⟩, ⟨e0, e1, e2, e3, e4⟩, _⟩ := HC6.out
          have hl6 := HC6.out.2.2.2.size
          have hl7 : w4.heap.size < w6.heap.size := by omega
          have hl8 : w4.heap.size + 1 < w6.heap.size := by omega
          have hl9 : w4.heap.size + 1 + 1 < w6.heap.size := by omega
          go_wp2_with fail
          (with_reducible refine (K6.out _).mono ?_); rintro e w7 ⟨rfl, hb⟩
          have hb7 := ((Below.refl w6.heap.size w6).alloc (Nat.le_refl _) (.cells #[.string ⟨#[]⟩, .int .i64 (-1), .int .i64 0, .int .i64 65535, .int .i64 0] 29)).trans (hb.mono (by simp))
          have HC7 := Lib.hid (HC6.out.step (k' := 0) hb7)
          have ha7 := (Whole.fresh w6 29 #[.string ⟨#[]⟩, .int .i64 (-1), .int .i64 0, .int .i64 65535, .int .i64 0]).five'.later hb
          clear hb hb7 HC6 a0 a1 a2 a3 a4 c0 c1 c2 c3 c4 e0 e1 e2 e3 e4
          obtain ⟨c0, c1, c2, c3, c4⟩ := ha7
          obtain ⟨⟨a0, a1, a2, a3, a4⟩, _, ⟨e0, e1, e2, e3, e4⟩, _⟩ := HC7.out
          go_wp2_with fail
          (with_reducible refine (K7.out _).mono ?_); rintro e w8 ⟨rfl, hb⟩
          have H8 := Lib.hid (H5.out.below (HC7.out.step (k' := 0) hb).2.2.2)
          clear hb HC7 H5 a0 a1 a2 a3 a4 c0 c1 c2 c3 c4 e0 e1 e2 e3 e4
          go_wp2
          go_roundw
          case rel => exact ⟨j + 1, k4, by omega, by go_num, by omega, H8⟩
          case measure => simp [intOf]; omega
      · rw [hz] at K1 K2
        cases hm : mtR ⟨ys, yc, yf, yl, yn⟩ ⟨hs, hc, hp, hl, hf⟩
        · rw [hm] at K4
          clear omm hz hm
          refine wp_region_loose 87 (by kernel_rfl) (by kernel_rfl) (CvC w5 w4.heap.size (.string xs) (.int .i64 xc) (.int .i64 xf) (.int .i64 xl) (.int .i64 xn) (.string ys) (.int .i64 yc) (.int .i64 yf) (.int .i64 yl) (.int .i64 yn) (.string hs) (.int .i64 hc) (.int .i64 hp) (.int .i64 hl) (.int .i64 hf)) FoR
            (CvV #[.string xs, .int .i64 xc, .int .i64 xf, .int .i64 xl, .int .i64 xn] #[.string ys, .int .i64 yc, .int .i64 yf, .int .i64 yl, .int .i64 yn] #[.string hs, .int .i64 hc, .int .i64 hp, .int .i64 hl, .int .i64 hf] true false) rfl (fun i v w w' h hv => by unfold CvV at *; split at hv <;> exact hv) ?_ ?_ ?_
          · exact HC5.out.step (Below.refl _ _).drew
          · simp only [OblAll]
            refine ⟨?_, ?_, ?_, ?_, ?_, ?_, ?_, ?_, ?_, ?_, ?_, ?_, ?_, ?_, ?_, ?_, ?_, ?_, ?_, ?_, ?_, ?_, ?_, ?_, ?_, ?_, ?_, ?_, ?_, trivial⟩
            all_goals
              intro fu wx vals hC hp
              simp [predL, predE, Region.binds, PreV, CvV] at hp
              simp only [fillA, if_true, Act.put]
              simp
              have HC := Lib.hid hC
              obtain ⟨⟨a0, a1, a2, a3, a4⟩, ⟨c0, c1, c2, c3, c4⟩, ⟨e0, e1, e2, e3, e4⟩, _⟩ := hC
              have HR0 := Lib.hid (show FoR wx wx from Below.refl _ _)
            · try simp only [hp]
              try clear hp
              go_wp2
              exact ⟨rfl, HC.out.step (Below.refl _ _), HR0.out, rfl⟩
            · try simp only [hp]
              try clear hp
              go_wp2
              exact ⟨rfl, HC.out.step (Below.refl _ _), HR0.out, rfl⟩
            · try simp only [hp]
              try clear hp
              go_wp2_with fail
              (with_reducible refine (K1.out _).mono ?_); rintro e w' ⟨rfl, hb⟩
              have HB := Lib.hid hb
              go_wp2
              exact ⟨rfl, HC.out.step HB.out, HB.out, rfl⟩
            · try simp only [hp]
              try clear hp
              go_wp2
              exact ⟨rfl, HC.out.step (Below.refl _ _), HR0.out, rfl⟩
            · try simp only [hp]
              try clear hp
              go_wp2
              exact ⟨rfl, HC.out.step (Below.refl _ _), HR0.out, rfl⟩
            · try simp only [hp]
              try clear hp
              go_wp2_with fail
              (with_reducible refine (K2.out _).mono ?_); rintro e w' ⟨rfl, hb⟩
              have HB := Lib.hid hb
              go_wp2
              exact ⟨rfl, HC.out.step HB.out, HB.out, rfl⟩
            · try simp only [hp]
              try clear hp
              go_wp2
              exact ⟨rfl, HC.out.step (Below.refl _ _), HR0.out, rfl⟩
            · try simp only [hp]
              try clear hp
              go_wp2
              exact ⟨rfl, HC.out.step (Below.refl _ _), HR0.out, rfl⟩
            · try simp only [hp]
              try clear hp
              go_wp2
              exact ⟨rfl, HC.out.step (Below.refl _ _), HR0.out, rfl⟩
            · try simp only [hp]
              try clear hp
              go_wp2
              exact ⟨rfl, HC.out.step (Below.refl _ _), HR0.out, rfl⟩
            · try simp only [hp]
              try clear hp
              go_wp2_with fail
              (with_reducible refine (K3.out _).mono ?_); rintro e w' ⟨rfl, hb⟩
              have HB := Lib.hid hb
              go_wp2
              exact ⟨rfl, HC.out.step HB.out, HB.out, rfl⟩
            · try simp only [hp]
              try clear hp
              go_wp2
              exact ⟨rfl, HC.out.step (Below.refl _ _), HR0.out, rfl⟩
            · try simp only [hp]
              try clear hp
              go_wp2
              exact ⟨rfl, HC.out.step (Below.refl _ _), HR0.out, rfl⟩
            · try simp only [hp]
              try clear hp
              go_wp2
              exact ⟨rfl, HC.out.step (Below.refl _ _), HR0.out, rfl⟩
            · try simp only [hp]
              try clear hp
              go_wp2
              exact ⟨rfl, HC.out.step (Below.refl _ _), HR0.out, rfl⟩
            · try simp only [hp]
              try clear hp
              go_wp2
              exact ⟨rfl, HC.out.step (Below.refl _ _), HR0.out, rfl⟩
            · try simp only [hp]
              try clear hp
              go_wp2_with fail
              (with_reducible refine (K1.out _).mono ?_); rintro e w' ⟨rfl, hb⟩
              have HB := Lib.hid hb
              go_wp2
              exact ⟨rfl, HC.out.step HB.out, HB.out, rfl⟩
            · try simp only [hp]
              try clear hp
              go_wp2
              exact ⟨rfl, HC.out.step (Below.refl _ _), HR0.out, rfl⟩
            · try simp only [hp]
              try clear hp
              go_wp2
              exact ⟨rfl, HC.out.step (Below.refl _ _), HR0.out, (fun _ => rfl)⟩
            · try simp only [hp]
              try clear hp
              go_wp2
              exact ⟨rfl, HC.out.step (Below.refl _ _), HR0.out, (fun _ => rfl)⟩
            · try simp only [hp]
              try clear hp
              go_wp2_with fail
              (with_reducible refine (K4.out _).mono ?_); rintro e w' ⟨rfl, hb⟩
              have HB := Lib.hid hb
              go_wp2
              exact ⟨rfl, HC.out.step HB.out, HB.out, (fun _ => rfl)⟩
            · try simp only [hp]
              try clear hp
              go_wp2
              exact ⟨rfl, HC.out.step (Below.refl _ _), HR0.out, rfl⟩
            · try simp only [hp]
              try clear hp
              go_wp2
              exact ⟨rfl, HC.out.step (Below.refl _ _), HR0.out, rfl⟩
            · try simp only [hp]
              try clear hp
              go_wp2
              exact ⟨rfl, HC.out.step (Below.refl _ _), HR0.out, fun h => absurd h (by decide)⟩
            · try simp only [hp]
              try clear hp
              go_wp2
              exact ⟨rfl, HC.out.step (Below.refl _ _), HR0.out, fun h => absurd h (by decide)⟩
            · try simp only [hp]
              try clear hp
              go_wp2
              exact ⟨rfl, HC.out.step (Below.refl _ _), HR0.out, fun h => absurd h (by decide)⟩
            · try simp only [hp]
              try clear hp
              go_wp2
              exact ⟨rfl, HC.out.step (Below.refl _ _), HR0.out, fun h => absurd h (by decide)⟩
            · try simp only [hp]
              try clear hp
              go_wp2
              exact ⟨rfl, HC.out.step (Below.refl _ _), HR0.out, rfl⟩
            · try simp only [hp]
              try clear hp
              go_wp2
              exact ⟨rfl, HC.out.step (Below.refl _ _), HR0.out, rfl⟩
          · intro w6 vals hC hV
            have e28 := (show vals 28 = .bool false from hV 28 (by simp))
            simp only [fillA, if_true, Act.put]
            simp
            simp only [e28]
            clear hV e28
            have HC6 := Lib.hid hC
            clear hC K1 K2 HC5
            try clear K4
            try clear K5
            clear K3
            obtain ⟨⟨a0, a1, a2, a3, a4⟩, ⟨c0, c1, c2, c3, c4⟩, ⟨e0, e1, e2, e3, e4⟩, _⟩ := HC6.out
            have hl6 := HC6.out.2.2.2.size
            have hl7 : w4.heap.size < w6.heap.size := by omega
            have hl8 : w4.heap.size + 1 < w6.heap.size := by omega
            have hl9 : w4.heap.size + 1 + 1 < w6.heap.size := by omega
            go_wp2_with fail
            (with_reducible refine (K6.out _).mono ?_); rintro e w7 ⟨rfl, hb⟩
            have hb7 := ((Below.refl w6.heap.size w6).alloc (Nat.le_refl _) (.cells #[.string ⟨#[]⟩, .int .i64 (-1), .int .i64 0, .int .i64 65535, .int .i64 0] 29)).trans (hb.mono (by simp))
            have HC7 := Lib.hid (HC6.out.step (k' := 0) hb7)
            have ha7 := (Whole.fresh w6 29 #[.string ⟨#[]⟩, .int .i64 (-1), .int .i64 0, .int .i64 65535, .int .i64 0]).five'.later hb
            clear hb hb7 HC6 a0 a1 a2 a3 a4 c0 c1 c2 c3 c4 e0 e1 e2 e3 e4
            obtain ⟨c0, c1, c2, c3, c4⟩ := ha7
            obtain ⟨⟨a0, a1, a2, a3, a4⟩, _, ⟨e0, e1, e2, e3, e4⟩, _⟩ := HC7.out
            go_wp2_with fail
            (with_reducible refine (K7.out _).mono ?_); rintro e w8 ⟨rfl, hb⟩
            have H8 := Lib.hid (H5.out.below (HC7.out.step (k' := 0) hb).2.2.2)
            clear hb HC7 H5 a0 a1 a2 a3 a4 c0 c1 c2 c3 c4 e0 e1 e2 e3 e4
            go_wp2
            go_roundw
            case rel => exact ⟨j + 1, k4, by omega, by go_num, by omega, H8⟩
            case measure => simp [intOf]; omega
        · have hm2 := omm.out hz hm
          rw [hm] at K4
          rw [hm2] at K5
          clear omm hz hm hm2
          refine wp_region_loose 87 (by kernel_rfl) (by kernel_rfl) (CvC w5 w4.heap.size (.string xs) (.int .i64 xc) (.int .i64 xf) (.int .i64 xl) (.int .i64 xn) (.string ys) (.int .i64 yc) (.int .i64 yf) (.int .i64 yl) (.int .i64 yn) (.string hs) (.int .i64 hc) (.int .i64 hp) (.int .i64 hl) (.int .i64 hf)) FoR
            (CvV #[.string xs, .int .i64 xc, .int .i64 xf, .int .i64 xl, .int .i64 xn] #[.string ys, .int .i64 yc, .int .i64 yf, .int .i64 yl, .int .i64 yn] #[.string hs, .int .i64 hc, .int .i64 hp, .int .i64 hl, .int .i64 hf] true true) rfl (fun i v w w' h hv => by unfold CvV at *; split at hv <;> exact hv) ?_ ?_ ?_
          · exact HC5.out.step (Below.refl _ _).drew
          · simp only [OblAll]
            refine ⟨?_, ?_, ?_, ?_, ?_, ?_, ?_, ?_, ?_, ?_, ?_, ?_, ?_, ?_, ?_, ?_, ?_, ?_, ?_, ?_, ?_, ?_, ?_, ?_, ?_, ?_, ?_, ?_, ?_, trivial⟩
            all_goals
              intro fu wx vals hC hp
              simp [predL, predE, Region.binds, PreV, CvV] at hp
              simp only [fillA, if_true, Act.put]
              simp
              have HC := Lib.hid hC
              obtain ⟨⟨a0, a1, a2, a3, a4⟩, ⟨c0, c1, c2, c3, c4⟩, ⟨e0, e1, e2, e3, e4⟩, _⟩ := hC
              have HR0 := Lib.hid (show FoR wx wx from Below.refl _ _)
            · try simp only [hp]
              try clear hp
              go_wp2
              exact ⟨rfl, HC.out.step (Below.refl _ _), HR0.out, rfl⟩
            · try simp only [hp]
              try clear hp
              go_wp2
              exact ⟨rfl, HC.out.step (Below.refl _ _), HR0.out, rfl⟩
            · try simp only [hp]
              try clear hp
              go_wp2_with fail
              (with_reducible refine (K1.out _).mono ?_); rintro e w' ⟨rfl, hb⟩
              have HB := Lib.hid hb
              go_wp2
              exact ⟨rfl, HC.out.step HB.out, HB.out, rfl⟩
            · try simp only [hp]
              try clear hp
              go_wp2
              exact ⟨rfl, HC.out.step (Below.refl _ _), HR0.out, rfl⟩
            · try simp only [hp]
              try clear hp
              go_wp2
              exact ⟨rfl, HC.out.step (Below.refl _ _), HR0.out, rfl⟩
            · try simp only [hp]
              try clear hp
              go_wp2_with fail
              (with_reducible refine (K2.out _).mono ?_); rintro e w' ⟨rfl, hb⟩
              have HB := Lib.hid hb
              go_wp2
              exact ⟨rfl, HC.out.step HB.out, HB.out, rfl⟩
            · try simp only [hp]
              try clear hp
              go_wp2
              exact ⟨rfl, HC.out.step (Below.refl _ _), HR0.out, rfl⟩
            · try simp only [hp]
              try clear hp
              go_wp2
              exact ⟨rfl, HC.out.step (Below.refl _ _), HR0.out, rfl⟩
            · try simp only [hp]
              try clear hp
              go_wp2
              exact ⟨rfl, HC.out.step (Below.refl _ _), HR0.out, rfl⟩
            · try simp only [hp]
              try clear hp
              go_wp2
              exact ⟨rfl, HC.out.step (Below.refl _ _), HR0.out, rfl⟩
            · try simp only [hp]
              try clear hp
              go_wp2_with fail
              (with_reducible refine (K3.out _).mono ?_); rintro e w' ⟨rfl, hb⟩
              have HB := Lib.hid hb
              go_wp2
              exact ⟨rfl, HC.out.step HB.out, HB.out, rfl⟩
            · try simp only [hp]
              try clear hp
              go_wp2
              exact ⟨rfl, HC.out.step (Below.refl _ _), HR0.out, rfl⟩
            · try simp only [hp]
              try clear hp
              go_wp2
              exact ⟨rfl, HC.out.step (Below.refl _ _), HR0.out, rfl⟩
            · try simp only [hp]
              try clear hp
              go_wp2
              exact ⟨rfl, HC.out.step (Below.refl _ _), HR0.out, rfl⟩
            · try simp only [hp]
              try clear hp
              go_wp2
              exact ⟨rfl, HC.out.step (Below.refl _ _), HR0.out, rfl⟩
            · try simp only [hp]
              try clear hp
              go_wp2
              exact ⟨rfl, HC.out.step (Below.refl _ _), HR0.out, rfl⟩
            · try simp only [hp]
              try clear hp
              go_wp2_with fail
              (with_reducible refine (K1.out _).mono ?_); rintro e w' ⟨rfl, hb⟩
              have HB := Lib.hid hb
              go_wp2
              exact ⟨rfl, HC.out.step HB.out, HB.out, rfl⟩
            · try simp only [hp]
              try clear hp
              go_wp2
              exact ⟨rfl, HC.out.step (Below.refl _ _), HR0.out, rfl⟩
            · try simp only [hp]
              try clear hp
              go_wp2
              exact ⟨rfl, HC.out.step (Below.refl _ _), HR0.out, (fun _ => rfl)⟩
            · try simp only [hp]
              try clear hp
              go_wp2
              exact ⟨rfl, HC.out.step (Below.refl _ _), HR0.out, (fun _ => rfl)⟩
            · try simp only [hp]
              try clear hp
              go_wp2_with fail
              (with_reducible refine (K4.out _).mono ?_); rintro e w' ⟨rfl, hb⟩
              have HB := Lib.hid hb
              go_wp2
              exact ⟨rfl, HC.out.step HB.out, HB.out, (fun _ => rfl)⟩
            · try simp only [hp]
              try clear hp
              go_wp2
              exact ⟨rfl, HC.out.step (Below.refl _ _), HR0.out, rfl⟩
            · try simp only [hp]
              try clear hp
              go_wp2
              exact ⟨rfl, HC.out.step (Below.refl _ _), HR0.out, rfl⟩
            · try simp only [hp]
              try clear hp
              go_wp2
              exact ⟨rfl, HC.out.step (Below.refl _ _), HR0.out, (fun _ => rfl)⟩
            · try simp only [hp]
              try clear hp
              go_wp2
              exact ⟨rfl, HC.out.step (Below.refl _ _), HR0.out, (fun _ => rfl)⟩
            · try simp only [hp]
              try clear hp
              go_wp2_with fail
              (with_reducible refine (K5.out _).mono ?_); rintro e w' ⟨rfl, hb⟩
              have HB := Lib.hid hb
              go_wp2
              exact ⟨rfl, HC.out.step HB.out, HB.out, (fun _ => rfl)⟩
            · try simp only [hp]
              try clear hp
              go_wp2
              exact ⟨rfl, HC.out.step (Below.refl _ _), HR0.out, (fun _ => rfl)⟩
            · try simp only [hp]
              try clear hp
              go_wp2
              exact ⟨rfl, HC.out.step (Below.refl _ _), HR0.out, rfl⟩
            · try simp only [hp]
              try clear hp
              go_wp2
              exact ⟨rfl, HC.out.step (Below.refl _ _), HR0.out, rfl⟩
          · intro w6 vals hC hV
            have e28 := (show vals 28 = .bool false from hV 28 (by simp))
            simp only [fillA, if_true, Act.put]
            simp
            simp only [e28]
            clear hV e28
            have HC6 := Lib.hid hC
            clear hC K1 K2 HC5
            try clear K4
            try clear K5
            clear K3
            obtain ⟨⟨a0, a1, a2, a3, a4⟩, ⟨c0, c1, c2, c3, c4⟩, ⟨e0, e1, e2, e3, e4⟩, _⟩ := HC6.out
            have hl6 := HC6.out.2.2.2.size
            have hl7 : w4.heap.size < w6.heap.size := by omega
            have hl8 : w4.heap.size + 1 < w6.heap.size := by omega
            have hl9 : w4.heap.size + 1 + 1 < w6.heap.size := by omega
            go_wp2_with fail
            (with_reducible refine (K6.out _).mono ?_); rintro e w7 ⟨rfl, hb⟩
            have hb7 := ((Below.refl w6.heap.size w6).alloc (Nat.le_refl _) (.cells #[.string ⟨#[]⟩, .int .i64 (-1), .int .i64 0, .int .i64 65535, .int .i64 0] 29)).trans (hb.mono (by simp))
            have HC7 := Lib.hid (HC6.out.step (k' := 0) hb7)
            have ha7 := (Whole.fresh w6 29 #[.string ⟨#[]⟩, .int .i64 (-1), .int .i64 0, .int .i64 65535, .int .i64 0]).five'.later hb
            clear hb hb7 HC6 a0 a1 a2 a3 a4 c0 c1 c2 c3 c4 e0 e1 e2 e3 e4
            obtain ⟨c0, c1, c2, c3, c4⟩ := ha7
            obtain ⟨⟨a0, a1, a2, a3, a4⟩, _, ⟨e0, e1, e2, e3, e4⟩, _⟩ := HC7.out
            go_wp2_with fail
            (with_reducible refine (K7.out _).mono ?_); rintro e w8 ⟨rfl, hb⟩
            have H8 := Lib.hid (H5.out.below (HC7.out.step (k' := 0) hb).2.2.2)
            clear hb HC7 H5 a0 a1 a2 a3 a4 c0 c1 c2 c3 c4 e0 e1 e2 e3 e4
            go_wp2
            go_roundw
            case rel => exact ⟨j + 1, k4, by omega, by go_num, by omega, H8⟩
            case measure => simp [intOf]; omega
    · have hJ := HJ.out
      have ha := HZA.out.later (hJ.2)
      have hb := HZB.out.later (hJ.2)
      have HBr := Lib.hid (HB0.out.trans (hJ.2.mono HB0.out.size))
      have hlt' : ¬ ((j : Nat) : Int) < 6 := by omega
      have ha' := ha
      obtain ⟨d0, d1, d2, d3, d4⟩ := ha
      have hb' := hb
      obtain ⟨p0, p1, p2, p3, p4⟩ := hb
      clear hJ HJ HZA HZB HM hlt
      by_cases c1 : 60 < a0s.size
      · have c1' : (60 : Int) < a0s.size := by omega
        clear HC1 HC2 c1
        go_wp2_with fail
        go_quiet (fail)
        go_wp2
        go_ret
        exact ⟨rfl, Below_drewN HBr.out _⟩
      · have c1' : (a0s.size : Int) ≤ 60 := by omega
        by_cases c2 : 60 < bs.size
        · have c2' : (60 : Int) < bs.size := by omega
          have g2 : decide ((60 : Int) < bs.size) = true := decide_eq_true c2'
          have HCt := Lib.hid (show LtC w w.heap.size (w.heap.size + 1) (.string a0s) (.int .i64 ac) (.int .i64 af) (.int .i64 al) (.int .i64 an) (.string bs) (.int .i64 bc) (.int .i64 bf) (.int .i64 bl) (.int .i64 bn) 0 wr from ⟨ha', hb', HBr.out⟩)
          clear HC1 HC2 c1 c2 ha' hb' d0 d1 d2 d3 d4 p0 p1 p2 p3 p4
          go_wp2_with fail
          refine wp_region_loose 87 (by kernel_rfl) (by kernel_rfl) (LtC w (w.heap.size) (w.heap.size + 1) (.string a0s) (.int .i64 ac) (.int .i64 af) (.int .i64 al) (.int .i64 an) (.string bs) (.int .i64 bc) (.int .i64 bf) (.int .i64 bl) (.int .i64 bn)) FoR (LtV (w.heap.size) (w.heap.size + 1) a0s bs #[.string a0s, .int .i64 ac, .int .i64 af, .int .i64 al, .int .i64 an] #[.string bs, .int .i64 bc, .int .i64 bf, .int .i64 bl, .int .i64 bn] false true true) rfl (fun i v w w' h hv => by unfold LtV at *; split at hv <;> exact hv) ?_ ?_ ?_
          · exact HCt.out.step (Below.refl _ _).drew
          · simp only [OblAll]
            refine ⟨?_, ?_, ?_, ?_, ?_, ?_, ?_, ?_, ?_, ?_, ?_, ?_, ?_, ?_, ?_, ?_, ?_, ?_, ?_, ?_, ?_, ?_, ?_, trivial⟩
            all_goals
              intro fu wx vals hC hp
              simp [predL, predE, Region.binds, PreV, LtV] at hp
              simp only [fillA, if_true, Act.put]
              simp
              have HC := Lib.hid hC
              obtain ⟨⟨a0, a1, a2, a3, a4⟩, ⟨c0, c1, c2, c3, c4⟩, _⟩ := hC
              have HR0 := Lib.hid (show FoR wx wx from Below.refl _ _)
            · try simp only [hp]
              try clear hp
              go_wp2
              exact ⟨rfl, HC.out.step (Below.refl _ _), HR0.out, rfl⟩
            · try simp only [hp]
              try clear hp
              go_wp2
              exact ⟨rfl, HC.out.step (Below.refl _ _), HR0.out, rfl⟩
            · try simp only [hp]
              try clear hp
              go_wp2
              exact ⟨rfl, HC.out.step (Below.refl _ _), HR0.out, rfl⟩
            · try simp only [hp]
              try clear hp
              go_wp2
              exact ⟨rfl, HC.out.step (Below.refl _ _), HR0.out, show Value.bool (decide ((60 : Int) < (a0s.size : Int))) = .bool false from congrArg Value.bool (decide_eq_false (by omega))⟩
            · try simp only [hp]
              try clear hp
              go_wp2
              exact ⟨rfl, HC.out.step (Below.refl _ _), HR0.out, rfl⟩
            · try simp only [hp]
              try clear hp
              go_wp2
              exact ⟨rfl, HC.out.step (Below.refl _ _), HR0.out, (fun _ => rfl)⟩
            · try simp only [hp]
              try clear hp
              go_wp2
              exact ⟨rfl, HC.out.step (Below.refl _ _), HR0.out, (fun _ => rfl)⟩
            · try simp only [hp]
              try clear hp
              go_wp2
              exact ⟨rfl, HC.out.step (Below.refl _ _), HR0.out, (fun _ => rfl)⟩
            · try simp only [hp]
              try clear hp
              go_wp2
              first
                | exact ⟨rfl, HC.out.step (Below.refl _ _), HR0.out, fun _ => rfl⟩
                | exact ⟨rfl, HC.out.step (Below.refl _ _), HR0.out, fun _ => show Value.bool (decide ((60 : Int) < (bs.size : Int))) = .bool true from congrArg Value.bool (decide_eq_true (by omega))⟩
            · try simp only [hp]
              try clear hp
              go_wp2
              exact ⟨rfl, HC.out.step (Below.refl _ _), HR0.out, rfl⟩
            · try simp only [hp]
              try clear hp
              go_wp2
              exact ⟨rfl, HC.out.step (Below.refl _ _), HR0.out, rfl⟩
            · try simp only [hp]
              try clear hp
              go_wp2
              exact ⟨rfl, HC.out.step (Below.refl _ _), HR0.out, fun h => absurd h (by decide)⟩
            · try simp only [hp]
              try clear hp
              go_wp2
              exact ⟨rfl, HC.out.step (Below.refl _ _), HR0.out, fun h => absurd h (by decide)⟩
            · try simp only [hp]
              try clear hp
              go_wp2
              exact ⟨rfl, HC.out.step (Below.refl _ _), HR0.out, fun h => absurd h (by decide)⟩
            · try simp only [hp]
              try clear hp
              go_wp2
              exact ⟨rfl, HC.out.step (Below.refl _ _), HR0.out, fun h => absurd h (by decide)⟩
            · try simp only [hp]
              try clear hp
              go_wp2
              exact ⟨rfl, HC.out.step (Below.refl _ _), HR0.out, fun h => absurd h (by decide)⟩
            · try simp only [hp]
              try clear hp
              go_wp2
              exact ⟨rfl, HC.out.step (Below.refl _ _), HR0.out, fun h => absurd h (by decide)⟩
            · try simp only [hp]
              try clear hp
              go_wp2
              exact ⟨rfl, HC.out.step (Below.refl _ _), HR0.out, fun h => absurd h (by decide)⟩
            · try simp only [hp]
              try clear hp
              go_wp2
              exact ⟨rfl, HC.out.step (Below.refl _ _), HR0.out, fun h => absurd h (by decide)⟩
            · try simp only [hp]
              try clear hp
              go_wp2_with fail
              all_goals
                first
                | exact ⟨rfl, HC.out.step (Below.refl _ _), HR0.out, fun h => absurd h (by decide)⟩
                | ((with_reducible refine (HA.out _ (HC.out.ws hW.out)).mono ?_); rintro e w' ⟨rfl, hb⟩; have HB := Lib.hid hb; go_wp2; exact ⟨rfl, HC.out.step HB.out, HB.out, fun h => absurd h (by decide)⟩)
            · try simp only [hp]
              try clear hp
              go_wp2
              exact ⟨rfl, HC.out.step (Below.refl _ _), HR0.out, fun h => absurd h (by decide)⟩
            · try simp only [hp]
              try clear hp
              go_wp2
              exact ⟨rfl, HC.out.step (Below.refl _ _), HR0.out, rfl⟩
            · try simp only [hp]
              try clear hp
              go_wp2
              exact ⟨rfl, HC.out.step (Below.refl _ _), HR0.out, rfl⟩
          · intro w6 vals hC hV
            have e22 := (show vals 22 = .bool true from hV 22 (by simp))
            have HBf := Lib.hid hC.2.2
            simp only [fillA, if_true, Act.put]
            simp
            simp only [e22]
            clear hV hC
            go_wp2
            go_ret
            exact ⟨rfl, HBf.out⟩
        · have c2' : (bs.size : Int) ≤ 60 := by omega
          have g2 : decide ((60 : Int) < bs.size) = false := decide_eq_false (by omega)
          have K1 := Lib.hid (fun w => HC1.out a0s bs ac af al an bc bf bl bn w)
          have K2 := Lib.hid (fun w => HC2.out a0s bs ac af al an bc bf bl bn (by omega) (by omega) w)
          generalize cov ⟨a0s, ac, af, al, an⟩ ⟨bs, bc, bf, bl, bn⟩ = z at *
          have t1 : (z == z) = true := by simp
          have HCt := Lib.hid (show LtC w w.heap.size (w.heap.size + 1) (.string a0s) (.int .i64 ac) (.int .i64 af) (.int .i64 al) (.int .i64 an) (.string bs) (.int .i64 bc) (.int .i64 bf) (.int .i64 bl) (.int .i64 bn) 0 wr from ⟨ha', hb', HBr.out⟩)
          clear HC1 HC2 c1 c2 ha' hb' d0 d1 d2 d3 d4 p0 p1 p2 p3 p4
          go_wp2_with fail
          refine wp_region_loose 87 (by kernel_rfl) (by kernel_rfl) (LtC w (w.heap.size) (w.heap.size + 1) (.string a0s) (.int .i64 ac) (.int .i64 af) (.int .i64 al) (.int .i64 an) (.string bs) (.int .i64 bc) (.int .i64 bf) (.int .i64 bl) (.int .i64 bn)) FoR (LtV (w.heap.size) (w.heap.size + 1) a0s bs #[.string a0s, .int .i64 ac, .int .i64 af, .int .i64 al, .int .i64 an] #[.string bs, .int .i64 bc, .int .i64 bf, .int .i64 bl, .int .i64 bn] false false z) rfl (fun i v w w' h hv => by unfold LtV at *; split at hv <;> exact hv) ?_ ?_ ?_
          · exact HCt.out.step (Below.refl _ _).drew
          · simp only [OblAll]
            refine ⟨?_, ?_, ?_, ?_, ?_, ?_, ?_, ?_, ?_, ?_, ?_, ?_, ?_, ?_, ?_, ?_, ?_, ?_, ?_, ?_, ?_, ?_, ?_, trivial⟩
            all_goals
              intro fu wx vals hC hp
              simp [predL, predE, Region.binds, PreV, LtV] at hp
              simp only [fillA, if_true, Act.put]
              simp
              have HC := Lib.hid hC
              obtain ⟨⟨a0, a1, a2, a3, a4⟩, ⟨c0, c1, c2, c3, c4⟩, _⟩ := hC
              have HR0 := Lib.hid (show FoR wx wx from Below.refl _ _)
            · try simp only [hp]
              try clear hp
              go_wp2
              exact ⟨rfl, HC.out.step (Below.refl _ _), HR0.out, rfl⟩
            · try simp only [hp]
              try clear hp
              go_wp2
              exact ⟨rfl, HC.out.step (Below.refl _ _), HR0.out, rfl⟩
            · try simp only [hp]
              try clear hp
              go_wp2
              exact ⟨rfl, HC.out.step (Below.refl _ _), HR0.out, rfl⟩
            · try simp only [hp]
              try clear hp
              go_wp2
              exact ⟨rfl, HC.out.step (Below.refl _ _), HR0.out, show Value.bool (decide ((60 : Int) < (a0s.size : Int))) = .bool false from congrArg Value.bool (decide_eq_false (by omega))⟩
            · try simp only [hp]
              try clear hp
              go_wp2
              exact ⟨rfl, HC.out.step (Below.refl _ _), HR0.out, rfl⟩
            · try simp only [hp]
              try clear hp
              go_wp2
              exact ⟨rfl, HC.out.step (Below.refl _ _), HR0.out, (fun _ => rfl)⟩
            · try simp only [hp]
              try clear hp
              go_wp2
              exact ⟨rfl, HC.out.step (Below.refl _ _), HR0.out, (fun _ => rfl)⟩
            · try simp only [hp]
              try clear hp
              go_wp2
              exact ⟨rfl, HC.out.step (Below.refl _ _), HR0.out, (fun _ => rfl)⟩
            · try simp only [hp]
              try clear hp
              go_wp2
              first
                | exact ⟨rfl, HC.out.step (Below.refl _ _), HR0.out, fun _ => rfl⟩
                | exact ⟨rfl, HC.out.step (Below.refl _ _), HR0.out, fun _ => show Value.bool (decide ((60 : Int) < (bs.size : Int))) = .bool false from congrArg Value.bool (decide_eq_false (by omega))⟩
            · try simp only [hp]
              try clear hp
              go_wp2
              exact ⟨rfl, HC.out.step (Below.refl _ _), HR0.out, rfl⟩
            · try simp only [hp]
              try clear hp
              go_wp2
              exact ⟨rfl, HC.out.step (Below.refl _ _), HR0.out, rfl⟩
            · try simp only [hp]
              try clear hp
              go_wp2
              exact ⟨rfl, HC.out.step (Below.refl _ _), HR0.out, (fun _ => rfl)⟩
            · try simp only [hp]
              try clear hp
              go_wp2
              exact ⟨rfl, HC.out.step (Below.refl _ _), HR0.out, (fun _ => rfl)⟩
            · try simp only [hp]
              try clear hp
              go_wp2_with fail
              (with_reducible refine (K1.out _).mono ?_); rintro e w' ⟨rfl, hb⟩
              have HB := Lib.hid hb
              go_wp2
              exact ⟨rfl, HC.out.step HB.out, HB.out, (fun _ => rfl)⟩
            · try simp only [hp]
              try clear hp
              go_wp2
              exact ⟨rfl, HC.out.step (Below.refl _ _), HR0.out, (fun _ => rfl)⟩
            · try simp only [hp]
              try clear hp
              go_wp2
              exact ⟨rfl, HC.out.step (Below.refl _ _), HR0.out, (fun _ => rfl)⟩
            · try simp only [hp]
              try clear hp
              go_wp2_with fail
              (with_reducible refine (K2.out _).mono ?_); rintro e w' ⟨rfl, hb⟩
              have HB := Lib.hid hb
              go_wp2
              exact ⟨rfl, HC.out.step HB.out, HB.out, (fun _ => rfl)⟩
            · try simp only [hp]
              try clear hp
              go_wp2
              exact ⟨rfl, HC.out.step (Below.refl _ _), HR0.out, (fun _ => rfl)⟩
            · try simp only [hp]
              try clear hp
              go_wp2
              exact ⟨rfl, HC.out.step (Below.refl _ _), HR0.out, (fun _ => rfl)⟩
            · try simp only [hp]
              try clear hp
              go_wp2_with fail
              (with_reducible refine (HA.out _ (HC.out.ws hW.out)).mono ?_); rintro e w' ⟨rfl, hb⟩
              have HB := Lib.hid hb
              go_wp2
              exact ⟨rfl, HC.out.step HB.out, HB.out, (fun _ => rfl)⟩
            · try simp only [hp]
              try clear hp
              go_wp2
              exact ⟨rfl, HC.out.step (Below.refl _ _), HR0.out, (fun _ => rfl)⟩
            · try simp only [hp]
              try clear hp
              go_wp2
              exact ⟨rfl, HC.out.step (Below.refl _ _), HR0.out, rfl⟩
            · try simp only [hp]
              try clear hp
              go_wp2
              exact ⟨rfl, HC.out.step (Below.refl _ _), HR0.out, rfl⟩
          · intro w6 vals hC hV
            have e22 := (show vals 22 = .bool true from hV 22 (by simp))
            have HBf := Lib.hid hC.2.2
            simp only [fillA, if_true, Act.put]
            simp
            simp only [e22]
            clear hV hC
            go_wp2
            go_ret
            exact ⟨rfl, HBf.out⟩
end Go.Proofs.YtfkbohfelacaoaaDoor

