/-
  Layer 9: contracts of the reference's Covers and Matches. Stations of up to 2000000 bytes. Written by a program (gen_ruinc.py).
-/
import Derived.Test.YtfkbohfelacaoaaDoorRuInc
namespace Go.Proofs.YtfkbohfelacaoaaDoor
open Go.ChangeShapes Go.WideShapes Go.ChangeAt Go.RowKit
set_option linter.unusedVariables false

theorem cov_cases {a b : Rul} (ha : ruOk a = true) (hb : ruOk b = true) : (a.st.size = 0 ∧ cov a b = refN a.c a.f a.l b.c b.f b.l) ∨ (¬ a.st.size = 0 ∧ b.st.size = 0 ∧ cov a b = false) ∨ (¬ a.st.size = 0 ∧ ¬ b.st.size = 0 ∧ cmpN a.st b.st = 0 ∧ cov a b = refN a.c a.f a.l b.c b.f b.l) ∨ (¬ a.st.size = 0 ∧ ¬ b.st.size = 0 ∧ ¬ cmpN a.st b.st = 0 ∧ cov a b = false) := by
  have h1 := (ruOk_parts ha).2.1.1
  rw [cov_inc ha hb, refN_inc h1]
  rcases inc_cases a b with ⟨h, k⟩ | ⟨h, h2, k⟩ | ⟨h, h2, k⟩
  · exact .inl ⟨h, k⟩
  · refine .inr (.inr (.inl ⟨h, fun e => ?_, h2, k⟩))
    exact cmp_empty ((ruOk_parts ha).1.resolve_left h) e h2
  · by_cases e : b.st.size = 0
    · exact .inr (.inl ⟨h, e, k⟩)
    · exact .inr (.inr (.inr ⟨h, e, h2, k⟩))
theorem mt_cases {r : Rul} {h : Hdr} (hr : ruOk r = true) (hh : hdB h = true) : (r.st.size = 0 ∧ mtR r h = refN r.c r.f r.l h.c h.p h.p) ∨ (¬ r.st.size = 0 ∧ cmpN r.st h.st = 0 ∧ mtR r h = refN r.c r.f r.l h.c h.p h.p) ∨ (¬ r.st.size = 0 ∧ ¬ cmpN r.st h.st = 0 ∧ mtR r h = false) := by
  have h1 := (ruOk_parts hr).2.1.1
  rw [mt_inc hr hh 0, refN_inc h1]
  exact inc_cases r _
theorem refN_mid {ac af al bc bf bl : Int} (h : af ≤ bf) : ((decide (ac < 0) || ac == bc) && decide (bl ≤ al)) = refN ac af al bc bf bl := by
  unfold refN
  rw [Bool.eq_iff_iff]
  simp only [Bool.and_eq_true, Bool.or_eq_true, decide_eq_true_eq, beq_iff_eq]
  constructor <;> intro k <;> omega
theorem refN_pre {ac af al bc bf bl : Int} {s t : ByteArray} (k : ¬ t.toList = []) (h : af ≤ bf) : ((s.toList.isEmpty || !t.toList.isEmpty) && (decide (ac < 0) || ac == bc) && decide (bl ≤ al)) = refN ac af al bc bf bl := by
  rw [← refN_mid h]
  have e : t.toList.isEmpty = false := by rw [List.isEmpty_eq_false_iff]; exact k
  rw [e, Bool.not_false, Bool.or_true, Bool.true_and]
theorem refN_end {ac af al bc bf bl : Int} {s t : ByteArray} (k : ¬ t.toList = []) (h : (ac < 0 ∨ ac = bc) ∧ af ≤ bf) : ((s.toList.isEmpty || !t.toList.isEmpty) && decide (bl ≤ al)) = refN ac af al bc bf bl := by
  rw [← refN_last h]
  have e : t.toList.isEmpty = false := by rw [List.isEmpty_eq_false_iff]; exact k
  rw [e, Bool.not_false, Bool.or_true, Bool.true_and]
set_option maxHeartbeats 8000000 in
theorem covR_any (s1 bs : ByteArray) (ac af al an bc bf bl bn : Int) (ha : s1.size ≤ 2000000) (hb : bs.size ≤ 2000000) (w : World) : Calls Tryd.prog 25 #[.agg #[.string s1, .int .i64 ac, .int .i64 af, .int .i64 al, .int .i64 an], .agg #[.string bs, .int .i64 bc, .int .i64 bf, .int .i64 bl, .int .i64 bn]] w (BoolAns (cov ⟨s1, ac, af, al, an⟩ ⟨bs, bc, bf, bl, bn⟩) w) := by
  have HA := Lib.hid (fun w => rvalR_any s1 ac af al an ha w)
  have HB := Lib.hid (fun w => rvalR_any bs bc bf bl bn hb w)
  have H := Lib.hid (fun w => refCmp_any s1 bs ha hb w)
  have C1 := Lib.hid (fun hx hy => cov_cases (a := ⟨s1, ac, af, al, an⟩) (b := ⟨bs, bc, bf, bl, bn⟩) hx hy)
  have C0 := Lib.hid (fun h => cov_no (a := ⟨s1, ac, af, al, an⟩) (b := ⟨bs, bc, bf, bl, bn⟩) h)
  have N0 := Lib.hid (fun h => refN_no (ac := ac) (af := af) (al := al) (bc := bc) (bf := bf) (bl := bl) h)
  have N1 := Lib.hid (fun h => refN_last (ac := ac) (af := af) (al := al) (bc := bc) (bf := bf) (bl := bl) h)
  have N2 := Lib.hid (fun h => refN_mid (ac := ac) (af := af) (al := al) (bc := bc) (bf := bf) (bl := bl) h)
  have N3 := Lib.hid (fun k h => refN_pre (s := s1) (t := bs) (ac := ac) (af := af) (al := al) (bc := bc) (bf := bf) (bl := bl) k h)
  have N4 := Lib.hid (fun k h => refN_end (s := s1) (t := bs) (ac := ac) (af := af) (al := al) (bc := bc) (bf := bf) (bl := bl) k h)
  unfold BoolAns at *
  unfold CmpAns at H
  skip
  generalize ruOk ⟨s1, ac, af, al, an⟩ = x at *
  generalize ruOk ⟨bs, bc, bf, bl, bn⟩ = y at *
  have HK0 := Lib.hid (Kept2.start w 29 29 #[.string s1, .int .i64 ac, .int .i64 af, .int .i64 al, .int .i64 an] #[.string bs, .int .i64 bc, .int .i64 bf, .int .i64 bl, .int .i64 bn])
  clear ha hb
  cases x
  · rw [C0.out (.inl rfl)]
    clear C0 C1 H HB N0 N1 N2 N3 N4
    go_enter Tryd.func25, Tryd.ntmps25
    go_wp2_with fail
    (with_reducible refine (HA.out _).mono ?_); rintro e w1 ⟨rfl, hb⟩
    have HK1 := Lib.hid (HK0.out.later hb)
    clear hb
    go_wp2
    go_ret
    exact ⟨rfl, HK1.out.below⟩
  · cases y
    · rw [C0.out (.inr rfl)]
      clear C0 C1 H N0 N1 N2 N3 N4
      go_enter Tryd.func25, Tryd.ntmps25
      go_wp2_with fail
      (with_reducible refine (HA.out _).mono ?_); rintro e w1 ⟨rfl, hb⟩
      have HK1 := Lib.hid (HK0.out.later hb)
      clear hb
      obtain ⟨⟨d0, d1, d2, d3, d4⟩, ⟨e0, e1, e2, e3, e4⟩⟩ := HK1.out.cells5
      go_wp2_with fail
      (with_reducible refine (HB.out _).mono ?_); rintro e w2 ⟨rfl, hb⟩
      have HK2 := Lib.hid (HK1.out.later hb)
      clear hb
      clear d0 d1 d2 d3 d4 e0 e1 e2 e3 e4
      go_wp2
      go_ret
      exact ⟨rfl, HK2.out.below⟩
    · have hc1 := C1.out rfl rfl
      clear C0 C1
      rcases hc1 with ⟨h0, hr⟩ | ⟨h0, h2, hr⟩ | ⟨h0, h2, h1, hr⟩ | ⟨h0, h2, h1, hr⟩
      · rw [hr]
        try simp only at h0
        generalize refN ac af al bc bf bl = r at *
        have e := empty_of h0
        subst e
        clear h0 hr H
        go_enter Tryd.func25, Tryd.ntmps25
        go_wp2_with fail
        (with_reducible refine (HA.out _).mono ?_); rintro e w1 ⟨rfl, hb⟩
        have HK1 := Lib.hid (HK0.out.later hb)
        clear hb
        obtain ⟨⟨d0, d1, d2, d3, d4⟩, ⟨e0, e1, e2, e3, e4⟩⟩ := HK1.out.cells5
        go_wp2_with fail
        (with_reducible refine (HB.out _).mono ?_); rintro e w2 ⟨rfl, hb⟩
        have HK2 := Lib.hid (HK1.out.later hb)
        clear hb
        clear d0 d1 d2 d3 d4 e0 e1 e2 e3 e4
        obtain ⟨⟨d0, d1, d2, d3, d4⟩, ⟨e0, e1, e2, e3, e4⟩⟩ := HK2.out.cells5
        go_wp2
        all_goals
          go_ret
          first
            | exact ⟨ret_bool (N1.out (by omega)), HK2.out.below⟩
            | exact ⟨ret_bool (N0.out (by omega)), HK2.out.below⟩
            | exact ⟨ret_bool (N2.out (by omega)), HK2.out.below⟩
            | exact ⟨ret_bool (N3.out he2 (by omega)), HK2.out.below⟩
            | exact ⟨ret_bool (N4.out he2 (by omega)), HK2.out.below⟩
      · rw [hr]
        try simp only at h0 h2
        have e := empty_of h2
        subst e
        have he := str_ne h0
        clear h0 h2 hr H N0 N1 N2 N3 N4
        go_enter Tryd.func25, Tryd.ntmps25
        go_wp2_with fail
        (with_reducible refine (HA.out _).mono ?_); rintro e w1 ⟨rfl, hb⟩
        have HK1 := Lib.hid (HK0.out.later hb)
        clear hb
        obtain ⟨⟨d0, d1, d2, d3, d4⟩, ⟨e0, e1, e2, e3, e4⟩⟩ := HK1.out.cells5
        go_wp2_with fail
        (with_reducible refine (HB.out _).mono ?_); rintro e w2 ⟨rfl, hb⟩
        have HK2 := Lib.hid (HK1.out.later hb)
        clear hb
        clear d0 d1 d2 d3 d4 e0 e1 e2 e3 e4
        obtain ⟨⟨d0, d1, d2, d3, d4⟩, ⟨e0, e1, e2, e3, e4⟩⟩ := HK2.out.cells5
        go_wp2
        go_ret
        exact ⟨rfl, HK2.out.below⟩
      · rw [hr]
        try simp only at h0 h2 h1
        unfold cmpN at h1
        rw [h1] at H
        generalize refN ac af al bc bf bl = r at *
        have he := str_ne h0
        have he2 := str_ne h2
        clear h0 h2 h1 hr
        go_enter Tryd.func25, Tryd.ntmps25
        go_wp2_with fail
        (with_reducible refine (HA.out _).mono ?_); rintro e w1 ⟨rfl, hb⟩
        have HK1 := Lib.hid (HK0.out.later hb)
        clear hb
        obtain ⟨⟨d0, d1, d2, d3, d4⟩, ⟨e0, e1, e2, e3, e4⟩⟩ := HK1.out.cells5
        go_wp2_with fail
        (with_reducible refine (HB.out _).mono ?_); rintro e w2 ⟨rfl, hb⟩
        have HK2 := Lib.hid (HK1.out.later hb)
        clear hb
        clear d0 d1 d2 d3 d4 e0 e1 e2 e3 e4
        obtain ⟨⟨d0, d1, d2, d3, d4⟩, ⟨e0, e1, e2, e3, e4⟩⟩ := HK2.out.cells5
        go_wp2_with fail
        (with_reducible refine (H.out _).mono ?_); rintro e w3 ⟨rfl, hb⟩
        have HK3 := Lib.hid (HK2.out.later hb)
        clear hb
        clear d0 d1 d2 d3 d4 e0 e1 e2 e3 e4
        obtain ⟨⟨d0, d1, d2, d3, d4⟩, ⟨e0, e1, e2, e3, e4⟩⟩ := HK3.out.cells5
        go_wp2
        all_goals
          go_ret
          first
            | exact ⟨ret_bool (N1.out (by omega)), HK3.out.below⟩
            | exact ⟨ret_bool (N0.out (by omega)), HK3.out.below⟩
            | exact ⟨ret_bool (N2.out (by omega)), HK3.out.below⟩
            | exact ⟨ret_bool (N3.out he2 (by omega)), HK3.out.below⟩
            | exact ⟨ret_bool (N4.out he2 (by omega)), HK3.out.below⟩
      · rw [hr]
        try simp only at h0 h2 h1
        unfold cmpN at h1
        generalize cmpO (nam s1) (nam bs) = v at *
        have he := str_ne h0
        have he2 := str_ne h2
        clear h0 h2 hr N0 N1 N2 N3 N4
        go_enter Tryd.func25, Tryd.ntmps25
        go_wp2_with fail
        (with_reducible refine (HA.out _).mono ?_); rintro e w1 ⟨rfl, hb⟩
        have HK1 := Lib.hid (HK0.out.later hb)
        clear hb
        obtain ⟨⟨d0, d1, d2, d3, d4⟩, ⟨e0, e1, e2, e3, e4⟩⟩ := HK1.out.cells5
        go_wp2_with fail
        (with_reducible refine (HB.out _).mono ?_); rintro e w2 ⟨rfl, hb⟩
        have HK2 := Lib.hid (HK1.out.later hb)
        clear hb
        clear d0 d1 d2 d3 d4 e0 e1 e2 e3 e4
        obtain ⟨⟨d0, d1, d2, d3, d4⟩, ⟨e0, e1, e2, e3, e4⟩⟩ := HK2.out.cells5
        go_wp2_with fail
        (with_reducible refine (H.out _).mono ?_); rintro e w3 ⟨rfl, hb⟩
        have HK3 := Lib.hid (HK2.out.later hb)
        clear hb
        clear d0 d1 d2 d3 d4 e0 e1 e2 e3 e4
        go_wp2
        go_ret
        exact ⟨rfl, HK3.out.below⟩
set_option maxHeartbeats 8000000 in
theorem mtR_any (s1 hs : ByteArray) (ac af al an hc hp hl hf : Int) (ha : s1.size ≤ 2000000) (hb : hs.size ≤ 2000000) (w : World) : Calls Tryd.prog 23 #[.agg #[.string s1, .int .i64 ac, .int .i64 af, .int .i64 al, .int .i64 an], .agg #[.string hs, .int .i64 hc, .int .i64 hp, .int .i64 hl, .int .i64 hf]] w (BoolAns (mtR ⟨s1, ac, af, al, an⟩ ⟨hs, hc, hp, hl, hf⟩) w) := by
  have HA := Lib.hid (fun w => rvalR_any s1 ac af al an ha w)
  have HB := Lib.hid (fun w => validHeader_any hs hc hp hl hf hb w)
  have H := Lib.hid (fun w => refCmp_any s1 hs ha hb w)
  have C1 := Lib.hid (fun hx hy => mt_cases (r := ⟨s1, ac, af, al, an⟩) (h := ⟨hs, hc, hp, hl, hf⟩) hx hy)
  have C0 := Lib.hid (fun h => mt_no (r := ⟨s1, ac, af, al, an⟩) (h := ⟨hs, hc, hp, hl, hf⟩) h)
  have N0 := Lib.hid (fun h => refN_no (ac := ac) (af := af) (al := al) (bc := hc) (bf := hp) (bl := hp) h)
  have N1 := Lib.hid (fun h => refN_last (ac := ac) (af := af) (al := al) (bc := hc) (bf := hp) (bl := hp) h)
  have N2 := Lib.hid (fun h => refN_mid (ac := ac) (af := af) (al := al) (bc := hc) (bf := hp) (bl := hp) h)
  have N3 := Lib.hid (fun k h => refN_pre (s := s1) (t := hs) (ac := ac) (af := af) (al := al) (bc := hc) (bf := hp) (bl := hp) k h)
  have N4 := Lib.hid (fun k h => refN_end (s := s1) (t := hs) (ac := ac) (af := af) (al := al) (bc := hc) (bf := hp) (bl := hp) k h)
  unfold BoolAns at *
  unfold CmpAns at H
  simp only [show hdB ⟨hs, hc, hp, hl, hf⟩ = hdOk hs hc hp hl hf from rfl] at C0 C1
  generalize ruOk ⟨s1, ac, af, al, an⟩ = x at *
  generalize hdOk hs hc hp hl hf = y at *
  have HK0 := Lib.hid (Kept2.start w 29 43 #[.string s1, .int .i64 ac, .int .i64 af, .int .i64 al, .int .i64 an] #[.string hs, .int .i64 hc, .int .i64 hp, .int .i64 hl, .int .i64 hf])
  clear ha hb
  cases x
  · rw [C0.out (.inl rfl)]
    clear C0 C1 H HB N0 N1 N2 N3 N4
    go_enter Tryd.func23, Tryd.ntmps23
    go_wp2_with fail
    (with_reducible refine (HA.out _).mono ?_); rintro e w1 ⟨rfl, hb⟩
    have HK1 := Lib.hid (HK0.out.later hb)
    clear hb
    go_wp2
    go_ret
    exact ⟨rfl, HK1.out.below⟩
  · cases y
    · rw [C0.out (.inr rfl)]
      clear C0 C1 H N0 N1 N2 N3 N4
      go_enter Tryd.func23, Tryd.ntmps23
      go_wp2_with fail
      (with_reducible refine (HA.out _).mono ?_); rintro e w1 ⟨rfl, hb⟩
      have HK1 := Lib.hid (HK0.out.later hb)
      clear hb
      obtain ⟨⟨d0, d1, d2, d3, d4⟩, ⟨e0, e1, e2, e3, e4⟩⟩ := HK1.out.cells5
      go_wp2_with fail
      (with_reducible refine (HB.out _).mono ?_); rintro e w2 ⟨rfl, hb⟩
      have HK2 := Lib.hid (HK1.out.later hb)
      clear hb
      clear d0 d1 d2 d3 d4 e0 e1 e2 e3 e4
      go_wp2
      go_ret
      exact ⟨rfl, HK2.out.below⟩
    · have hc1 := C1.out rfl rfl
      clear C0 C1
      rcases hc1 with ⟨h0, hr⟩ | ⟨h0, h1, hr⟩ | ⟨h0, h1, hr⟩
      · rw [hr]
        try simp only at h0
        generalize refN ac af al hc hp hp = r at *
        have e := empty_of h0
        subst e
        clear h0 hr H
        go_enter Tryd.func23, Tryd.ntmps23
        go_wp2_with fail
        (with_reducible refine (HA.out _).mono ?_); rintro e w1 ⟨rfl, hb⟩
        have HK1 := Lib.hid (HK0.out.later hb)
        clear hb
        obtain ⟨⟨d0, d1, d2, d3, d4⟩, ⟨e0, e1, e2, e3, e4⟩⟩ := HK1.out.cells5
        go_wp2_with fail
        (with_reducible refine (HB.out _).mono ?_); rintro e w2 ⟨rfl, hb⟩
        have HK2 := Lib.hid (HK1.out.later hb)
        clear hb
        clear d0 d1 d2 d3 d4 e0 e1 e2 e3 e4
        obtain ⟨⟨d0, d1, d2, d3, d4⟩, ⟨e0, e1, e2, e3, e4⟩⟩ := HK2.out.cells5
        go_wp2
        all_goals
          go_ret
          first
            | exact ⟨ret_bool (N1.out (by omega)), HK2.out.below⟩
            | exact ⟨ret_bool (N0.out (by omega)), HK2.out.below⟩
            | exact ⟨ret_bool (N2.out (by omega)), HK2.out.below⟩
            | exact ⟨ret_bool (N3.out he2 (by omega)), HK2.out.below⟩
            | exact ⟨ret_bool (N4.out he2 (by omega)), HK2.out.below⟩
      · rw [hr]
        try simp only at h0 h1
        unfold cmpN at h1
        rw [h1] at H
        generalize refN ac af al hc hp hp = r at *
        have he := str_ne h0
        clear h0 h1 hr
        go_enter Tryd.func23, Tryd.ntmps23
        go_wp2_with fail
        (with_reducible refine (HA.out _).mono ?_); rintro e w1 ⟨rfl, hb⟩
        have HK1 := Lib.hid (HK0.out.later hb)
        clear hb
        obtain ⟨⟨d0, d1, d2, d3, d4⟩, ⟨e0, e1, e2, e3, e4⟩⟩ := HK1.out.cells5
        go_wp2_with fail
        (with_reducible refine (HB.out _).mono ?_); rintro e w2 ⟨rfl, hb⟩
        have HK2 := Lib.hid (HK1.out.later hb)
        clear hb
        clear d0 d1 d2 d3 d4 e0 e1 e2 e3 e4
        obtain ⟨⟨d0, d1, d2, d3, d4⟩, ⟨e0, e1, e2, e3, e4⟩⟩ := HK2.out.cells5
        go_wp2_with fail
        (with_reducible refine (H.out _).mono ?_); rintro e w3 ⟨rfl, hb⟩
        have HK3 := Lib.hid (HK2.out.later hb)
        clear hb
        clear d0 d1 d2 d3 d4 e0 e1 e2 e3 e4
        obtain ⟨⟨d0, d1, d2, d3, d4⟩, ⟨e0, e1, e2, e3, e4⟩⟩ := HK3.out.cells5
        go_wp2
        all_goals
          go_ret
          first
            | exact ⟨ret_bool (N1.out (by omega)), HK3.out.below⟩
            | exact ⟨ret_bool (N0.out (by omega)), HK3.out.below⟩
            | exact ⟨ret_bool (N2.out (by omega)), HK3.out.below⟩
            | exact ⟨ret_bool (N3.out he2 (by omega)), HK3.out.below⟩
            | exact ⟨ret_bool (N4.out he2 (by omega)), HK3.out.below⟩
      · rw [hr]
        try simp only at h0 h1
        unfold cmpN at h1
        generalize cmpO (nam s1) (nam hs) = v at *
        have he := str_ne h0
        clear h0 hr N0 N1 N2 N3 N4
        go_enter Tryd.func23, Tryd.ntmps23
        go_wp2_with fail
        (with_reducible refine (HA.out _).mono ?_); rintro e w1 ⟨rfl, hb⟩
        have HK1 := Lib.hid (HK0.out.later hb)
        clear hb
        obtain ⟨⟨d0, d1, d2, d3, d4⟩, ⟨e0, e1, e2, e3, e4⟩⟩ := HK1.out.cells5
        go_wp2_with fail
        (with_reducible refine (HB.out _).mono ?_); rintro e w2 ⟨rfl, hb⟩
        have HK2 := Lib.hid (HK1.out.later hb)
        clear hb
        clear d0 d1 d2 d3 d4 e0 e1 e2 e3 e4
        obtain ⟨⟨d0, d1, d2, d3, d4⟩, ⟨e0, e1, e2, e3, e4⟩⟩ := HK2.out.cells5
        go_wp2_with fail
        (with_reducible refine (H.out _).mono ?_); rintro e w3 ⟨rfl, hb⟩
        have HK3 := Lib.hid (HK2.out.later hb)
        clear hb
        clear d0 d1 d2 d3 d4 e0 e1 e2 e3 e4
        go_wp2
        go_ret
        exact ⟨rfl, HK3.out.below⟩
end Go.Proofs.YtfkbohfelacaoaaDoor

