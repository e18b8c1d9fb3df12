/-
  Layer 6: contracts of Pack and of the reference's Pack. Every word; no other condition.
-/
import Derived.Test.YtimnndjegfiniaaBmPkPlain
import Derived.Test.YtimnndjegfiniaaBmLaws
import Derived.OwnWalk
namespace Go.Proofs.Ytimnndjegfiniaa
open Go.ChangeShapes Go.WideShapes Go.ChangeAt Go.RowKit
set_option linter.unusedVariables false

/-- What Pack answers. -/
def PkAns (b x : Int) (w : World) (e : Ending) (w' : World) : Prop := e = .returned (.tuple #[.string (pkV b x), .int .i64 (pkE b)]) ∧ Below w.heap.size w w'
theorem newCell (w : World) (x : Value) (t : TypeId) : ∀ j u, [x][j]? = some u → (w.alloc (.cells #[x] t)).cell? ((⟨w.heap.size, 0, none⟩ : Addr).add j) = some u := by
  intro j u hj
  have h : ((⟨w.heap.size, 0, none⟩ : Addr).add j) = ⟨w.heap.size, j, none⟩ := by unfold Addr.add; split <;> simp_all
  rw [h]
  have e := (MapKept.heap_alloc w (.cells #[x] t)).1
  simp only [World.cell?, e]
  simpa using hj
theorem oneByte (x : Int) : ∀ u ∈ [Value.int .u8 x], u.oneCell' = true := by
  intro u hu; simp at hu; rcases hu with rfl; rfl
theorem rowBlock {w : World} {base : Nat} {e : TypeId} {size : Nat} {v : Value} {n : Nat} {xs : List Value} (h : w.ownsRow base e size v n xs) : ∀ k, v.ownBlock = some k → base ≤ k := by
  intro k hk
  rcases h.2 with ⟨hv, _⟩ | ⟨g, cap, cur, hv, hg, _⟩
  · subst hv; cases hk
  · subst hv; simp [Value.ownBlock] at hk; omega
theorem infoU8 : (Try.prog.info? 5).map (fun i => (i.zero, i.size, i.bytes)) = some (some (.int .u8 0), 1, 1) := by kernel_rfl
/-- The first n bytes of the packed form, as memory holds them. -/
def pkC (b x : Int) (n : Nat) : List Value := (pkN b x n).map (Value.int .u8)
theorem pkC_next (b x : Int) (k : Nat) : pkC b x (2 + k) ++ [.int .u8 (x / 2 ^ (8 * k) % 256)] = pkC b x (2 + (k + 1)) := by
  rw [show 2 + (k + 1) = (2 + k) + 1 from by omega]
  unfold pkC
  rw [pkN, List.map_append, pkI_at]; rfl
/-- A slice of the call's own holds the first 2 + k bytes; nothing else of the world has turned. -/
def PkAt (w1 : World) (b x : Int) (k : Nat) (v : Value) (wr : World) : Prop :=
  wr.ownsRow w1.heap.size 5 1 v (2 + k) (pkC b x (2 + k)) ∧ Below w1.heap.size w1 wr
theorem PkAt.start (w1 : World) (b x : Int) : PkAt w1 b x 0 (.slice (some ⟨w1.heap.size, 0, none⟩) 2 2) (w1.alloc (.cells #[.int .u8 (b / 256), .int .u8 (b % 256)] 5)) :=
  ⟨⟨by simp [pkC, pkN_len], .inr ⟨w1.heap.size, 2, _, rfl, Nat.le_refl _, heap_alloc_new w1 _, by omega, by unfold maxLen; omega, rfl, rfl⟩⟩, (Below.refl _ _).alloc (Nat.le_refl _) _⟩
theorem PkAt.next {w1 : World} {b x : Int} {k : Nat} {v v' : Value} {wr w' : World} {o : Obj} (h : PkAt w1 b x k v wr)
    (hown : w'.ownsRow w1.heap.size 5 1 v' (2 + k + 1) (pkC b x (2 + k) ++ [.int .u8 (x / 2 ^ (8 * k) % 256)])) (hg : (wr.alloc o).grownBy w' v.ownBlock) : PkAt w1 b x (k + 1) v' w' := by
  rw [pkC_next] at hown
  exact ⟨hown, (h.2.alloc h.2.size o).grown hg (by have := h.2.size; simp; omega) (rowBlock h.1)⟩
/-- All ten bytes make the string. -/
theorem PkAt.string {w1 : World} {b x : Int} {v : Value} {wr : World} (h : PkAt w1 b x 8 v wr) : (convert 54 9 v).run Try.prog wr = .ok (.string (pkS b x)) wr := by
  rcases h.1.2 with ⟨_, h0⟩ | ⟨g, cap, cur, hv, _, hh, _, _, _, ht⟩
  · omega
  · subst hv
    refine run_convert_bytes_arg wr 54 5 Try.underlying54 Try.underlying5 g 0 10 cap (pkN b x 10) (pkN_len b x 10) (fun i hi => ?_) 9 Try.underlying9
    rw [cell_of_row wr g (0 + i) cur 5 (0, 0) hh, Nat.zero_add]
    have e : (pkC b x 10)[i]? = some (.int .u8 ((pkN b x 10).getD i 0)) := by
      unfold pkC
      rw [List.getElem?_map, List.getD_eq_getElem?_getD, List.getElem?_eq_getElem (by rw [pkN_len]; exact hi)]; rfl
    rw [show 2 + 8 = 10 from rfl] at ht
    rw [← ht, List.getElem?_take, if_pos (by omega)] at e
    simpa using e
theorem pack_no (b x : Int) (h : isNum b = false) (w : World) : Calls Try.prog 15 #[.agg #[.int .i64 b, .int .u64 x]] w (PkAns b x w) := by
  have HV := fun w => valid_any b x w
  obtain ⟨e1, e2⟩ := pk_no (x := x) h
  unfold PkAns
  rw [e1, e2]
  rw [h] at HV
  have HV := Lib.hid HV
  clear e1 e2 h
  go_enter Try.func15, Try.ntmps15
  go_wp2_with fail
  (with_reducible refine (HV.out _).mono ?_); rintro e w1 ⟨rfl, hb1⟩
  have B1 := (Below.refl w.heap.size w).alloc (Nat.le_refl _) (.cells #[.int .i64 b, .int .u64 x] 32)
  have HB := Lib.hid (B1.trans (hb1.mono B1.size))
  clear hb1 B1
  go_wp2
  go_ret2
  exact ⟨rfl, HB.out⟩
theorem refPack_no (b x : Int) (h : isNum b = false) (w : World) : Calls Try.prog 16 #[.agg #[.int .i64 b, .int .u64 x]] w (PkAns b x w) := by
  have HV := fun w => validMap_any b x w
  obtain ⟨e1, e2⟩ := pk_no (x := x) h
  unfold PkAns
  rw [e1, e2]
  rw [h] at HV
  have HV := Lib.hid HV
  clear e1 e2 h
  go_enter Try.func16, Try.ntmps16
  go_wp2_with fail
  (with_reducible refine (HV.out _).mono ?_); rintro e w1 ⟨rfl, hb1⟩
  have B1 := (Below.refl w.heap.size w).alloc (Nat.le_refl _) (.cells #[.int .i64 b, .int .u64 x] 32)
  have HB := Lib.hid (B1.trans (hb1.mono B1.size))
  clear hb1 B1
  go_wp2
  go_ret2
  exact ⟨rfl, HB.out⟩
set_option maxHeartbeats 2000000 in
theorem pack_ok (b x : Int) (h : isNum b = true) (hx : Wd x) (w : World) : Calls Try.prog 15 #[.agg #[.int .i64 b, .int .u64 x]] w (PkAns b x w) := by
  have HV := fun w => valid_any b x w
  obtain ⟨e1, e2⟩ := pk_yes (x := x) h
  obtain ⟨b0, b1⟩ := isNum_bd h
  unfold PkAns
  rw [e1, e2]
  rw [h] at HV
  have HV := Lib.hid HV
  have HX := Lib.hid hx
  have A0 := Lib.hid (Whole.fresh w 32 #[.int .i64 b, .int .u64 x])
  obtain ⟨i0, hii, hz0, hz1, hz2⟩ := info_parts infoU8
  have q1 : IntKind.u8.wrap (b / 256) = b / 256 := by rw [IntKind.wrap_u8']; omega
  have q2 : IntKind.u8.wrap b = b % 256 := IntKind.wrap_u8' b
  clear e1 e2 h hx
  go_enter Try.func15, Try.ntmps15
  go_wp2_with fail
  (with_reducible refine (HV.out _).mono ?_); rintro e w1 ⟨rfl, hb1⟩
  have A1 := A0.out.later hb1
  have B1 := (Below.refl w.heap.size w).alloc (Nat.le_refl _) (.cells #[.int .i64 b, .int .u64 x] 32)
  have HB := Lib.hid (B1.trans (hb1.mono B1.size))
  have hl := A1.size_lt
  obtain ⟨c0, c1⟩ := A1.two
  have C1 := Lib.hid c1
  have P0 := Lib.hid (PkAt.start w1 b x)
  clear hb1 B1 A0 A1
  go_wp2_with fail
  go_loopw [4, 5] (fun v s5 wr => ∃ k S : Nat, k ≤ 8 ∧ s5 = .int .i64 S ∧ Hid (S = 8 * k) ∧ Hid (PkAt w1 b x k v wr)) (fun _ s5 _ => 64 - (intOf s5).toNat)
  case atStart => exact ⟨0, 0, by omega, rfl, Lib.hid rfl, P0⟩
  case round =>
    obtain ⟨k, S, hk, rfl, hS, HP⟩ := hrel
    clear P0 c0 c1 q1 q2
    by_cases hlt : k < 8
    · have hS0 := hS.out
      have hlt' : (S : Int) < 64 := by omega
      have c1 := (HP.out.2.cell (p := ⟨w.heap.size, 1, none⟩) hl).trans C1.out
      have hwr := HP.out.2.size
      have hown := HP.out.1.alloc (.cells #[.int .u8 (x / 2 ^ S % 256)] 5)
      have hcv : IntKind.u8.wrap (x / 2 ^ S) = x / 2 ^ S % 256 := IntKind.wrap_u8' _
      have HN := Lib.hid (fun v' w' o => HP.out.next (v' := v') (w' := w') (o := o))
      rw [← hS0] at HN
      have hS' := Lib.hid (show S + 8 = 8 * (k + 1) by omega)
      clear hS hS0 HP
      go_wp2_with (at_builtin; refine wpList_append_own _ rfl (.tmp 21) (.tmp 27) 54 rfl w1.heap.size 5 i0 (.int .u8 0) 1 1 Try.underlying54 hii hz0 hz1 hz2 rfl (by decide) _ (2 + k) (pkC b x (2 + k)) rfl hown ⟨wr.heap.size, 0, none⟩ 1 1 [.int .u8 (x / 2 ^ S % 256)] rfl rfl (newCell _ _ _) (oneByte _) (by unfold maxLen; omega) (by omega) (by simp; omega) ?_; intro v4 w4 hown4 hg4 _)
      have HR := Lib.hid (HN.out _ _ _ hown4 hg4)
      clear hown hown4 hg4 HN
      go_wp2
      go_roundw
      case rel => exact ⟨k + 1, S + 8, by omega, by go_num, hS', HR⟩
      case measure => simp [intOf]; omega
    · obtain rfl : k = 8 := by omega
      have hS0 := hS.out
      have hge : ¬ (S : Int) < 64 := by omega
      have hst := HP.out.string
      have HE := Lib.hid (HB.out.trans (HP.out.2.mono HB.out.size))
      clear hS hS0 HP hlt
      go_wp2
      go_ret2
      exact ⟨rfl, HE.out⟩
set_option maxHeartbeats 2000000 in
theorem refPack_ok (b x : Int) (h : isNum b = true) (hx : Wd x) (w : World) : Calls Try.prog 16 #[.agg #[.int .i64 b, .int .u64 x]] w (PkAns b x w) := by
  have HV := fun w => validMap_any b x w
  obtain ⟨e1, e2⟩ := pk_yes (x := x) h
  obtain ⟨b0, b1⟩ := isNum_bd h
  unfold PkAns
  rw [e1, e2]
  rw [h] at HV
  have HV := Lib.hid HV
  have HX := Lib.hid hx
  have A0 := Lib.hid (Whole.fresh w 32 #[.int .i64 b, .int .u64 x])
  obtain ⟨i0, hii, hz0, hz1, hz2⟩ := info_parts infoU8
  have q1 : IntKind.u8.wrap (b / 256) = b / 256 := by rw [IntKind.wrap_u8']; omega
  have q2 : IntKind.u8.wrap (b % 256) = b % 256 := by rw [IntKind.wrap_u8']; omega
  clear e1 e2 h hx
  go_enter Try.func16, Try.ntmps16
  go_wp2_with fail
  (with_reducible refine (HV.out _).mono ?_); rintro e w1 ⟨rfl, hb1⟩
  have A1 := A0.out.later hb1
  have B1 := (Below.refl w.heap.size w).alloc (Nat.le_refl _) (.cells #[.int .i64 b, .int .u64 x] 32)
  have HB := Lib.hid (B1.trans (hb1.mono B1.size))
  have hl := A1.size_lt
  obtain ⟨c0, c1⟩ := A1.two
  have C1 := Lib.hid c1
  have P0 := Lib.hid (PkAt.start w1 b x)
  clear hb1 B1 A0 A1
  go_wp2_with fail
  go_loopw [4, 5] (fun v s5 wr => ∃ k : Nat, k ≤ 8 ∧ s5 = .int .i64 k ∧ Hid (PkAt w1 b x k v wr)) (fun _ s5 _ => 8 - (intOf s5).toNat)
  case atStart => exact ⟨0, by omega, rfl, P0⟩
  case round =>
    obtain ⟨k, hk, rfl, HP⟩ := hrel
    clear P0 c0 c1 q1 q2
    by_cases hlt : k < 8
    · have hlt' : (k : Int) < 8 := by omega
      have p1 : IntKind.i64.wrap (8 * (k : Int)) = 8 * k := IntWalk.i64_in _ (by omega)
      have p2 : IntKind.u64.wrap (8 * (k : Int)) = 8 * k := IntWalk.u64_in _ (by omega)
      have p3 : (8 * (k : Int)).toNat = 8 * k := by omega
      have p4 : 8 * (k : Int) ≤ 64 := by omega
      have p5 : 0 ≤ 8 * (k : Int) := by omega
      have c1 := (HP.out.2.cell (p := ⟨w.heap.size, 1, none⟩) hl).trans C1.out
      have hwr := HP.out.2.size
      have hown := HP.out.1.alloc (.cells #[.int .u8 (x / 2 ^ (8 * k) % 256)] 5)
      have hcv : IntKind.u8.wrap (x / 2 ^ (8 * k)) = x / 2 ^ (8 * k) % 256 := IntKind.wrap_u8' _
      have HN := Lib.hid (fun v' w' o => HP.out.next (v' := v') (w' := w') (o := o))
      clear HP
      go_wp2_with (at_builtin; refine wpList_append_own _ rfl (.tmp 22) (.tmp 30) 54 rfl w1.heap.size 5 i0 (.int .u8 0) 1 1 Try.underlying54 hii hz0 hz1 hz2 rfl (by decide) _ (2 + k) (pkC b x (2 + k)) rfl hown ⟨wr.heap.size, 0, none⟩ 1 1 [.int .u8 (x / 2 ^ (8 * k) % 256)] rfl rfl (newCell _ _ _) (oneByte _) (by unfold maxLen; omega) (by omega) (by simp; omega) ?_; intro v4 w4 hown4 hg4 _)
      have HR := Lib.hid (HN.out _ _ _ hown4 hg4)
      clear hown hown4 hg4 HN
      go_wp2
      go_roundw
      case rel => exact ⟨k + 1, by omega, by go_num, HR⟩
      case measure => simp [intOf]; omega
    · obtain rfl : k = 8 := by omega
      have hst := HP.out.string
      have HE := Lib.hid (HB.out.trans (HP.out.2.mono HB.out.size))
      clear HP hlt
      go_wp2
      go_ret2
      exact ⟨rfl, HE.out⟩
theorem pack_any (b x : Int) (hx : Wd x) (w : World) : Calls Try.prog 15 #[.agg #[.int .i64 b, .int .u64 x]] w (PkAns b x w) := by
  rcases h : isNum b with _ | _
  · exact pack_no b x h w
  · exact pack_ok b x h hx w
theorem refPack_any (b x : Int) (hx : Wd x) (w : World) : Calls Try.prog 16 #[.agg #[.int .i64 b, .int .u64 x]] w (PkAns b x w) := by
  rcases h : isNum b with _ | _
  · exact refPack_no b x h w
  · exact refPack_ok b x h hx w
end Go.Proofs.Ytimnndjegfiniaa

