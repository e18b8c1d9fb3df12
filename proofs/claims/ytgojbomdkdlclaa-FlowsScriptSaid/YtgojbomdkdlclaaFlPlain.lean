/-
  Layer 10, plain: stations, flows, and what the calls of a table answer. No program is named.
-/
import Derived.Test.YtgojbomdkdlclaaLbProg2
namespace Go.Proofs.Ytgojbomdkdlclaa
set_option linter.unusedVariables false

structure Sta where
  i : Int
  nm : ByteArray
  w : Int
  r : Int
structure Flo where
  i : Int
  s : Int
  w : Int
  p : Int
  b : Int
  lg : Int
  ld : Int
theorem cmpR_zero : ∀ x y : List Nat, cmpR x y = 0 ↔ x = y
  | [], [] => by simp [cmpR]
  | [], _ :: _ => by simp [cmpR]
  | _ :: _, [] => by simp [cmpR]
  | a :: x, b :: y => by
    have ih := cmpR_zero x y
    rw [cmpR]
    by_cases h1 : a < b
    · rw [if_pos h1]
      constructor
      · intro h; cases h
      · intro h; cases h; omega
    · rw [if_neg h1]
      by_cases h2 : b < a
      · rw [if_pos h2]
        constructor
        · intro h; cases h
        · intro h; cases h; omega
      · rw [if_neg h2, ih]
        obtain rfl : a = b := by omega
        simp
theorem cmpO_zero : ∀ x y : Option (List Nat), cmpO x y = 0 ↔ x = y
  | none, none => by simp [cmpO]
  | none, some _ => by simp [cmpO]
  | some _, none => by simp [cmpO]
  | some x, some y => by rw [cmpO, cmpR_zero]; simp
theorem encs_inj : ∀ x y : List Nat, (∀ r ∈ x, Scal r) → (∀ r ∈ y, Scal r) → encs x = encs y → x = y
  | [], [], _, _, _ => rfl
  | [], b :: y, _, hy, h => by
    rw [encs_cons] at h
    have := enc_ne (hy b (by simp))
    have h' : enc b ++ encs y = [] := h.symm
    exact absurd (List.append_eq_nil_iff.1 h').1 this
  | a :: x, [], hx, _, h => by
    rw [encs_cons] at h
    have := enc_ne (hx a (by simp))
    have h' : enc a ++ encs x = [] := h
    exact absurd (List.append_eq_nil_iff.1 h').1 this
  | a :: x, b :: y, hx, hy, h => by
    rw [encs_cons, encs_cons] at h
    obtain ⟨h1, h2⟩ := enc_inj (hx a (by simp)) (hy b (by simp)) h
    rw [h1, encs_inj x y (fun r hr => hx r (by simp [hr])) (fun r hr => hy r (by simp [hr])) h2]
/-- Two names have one folded text just if they are equal by the order of names. -/
theorem key_iff {a b : ByteArray} (ha : (nam a).isSome = true) : fS a = fS b ↔ nam a = nam b := by
  constructor
  · intro h
    cases hx : nam a with
    | none => rw [hx] at ha; cases ha
    | some x =>
      have ea : fS a = ⟨(encs x).toArray⟩ := by unfold fS; rw [hx]
      cases hy : nam b with
      | none =>
        have eb : fS b = ⟨#[]⟩ := by unfold fS; rw [hy]
        rw [ea, eb] at h
        have h' := congrArg (fun s : ByteArray => s.data.toList) h
        exact absurd h' (nam_ne hx).2
      | some y =>
        have eb : fS b = ⟨(encs y).toArray⟩ := by unfold fS; rw [hy]
        rw [ea, eb] at h
        have h' : encs x = encs y := congrArg (fun s : ByteArray => s.data.toList) h
        rw [encs_inj x y (nam_ne hx).1 (nam_ne hy).1 h']
  · intro h; unfold fS; rw [h]
/-- A station that a name finds. -/
def hitB (n : ByteArray) (s : Sta) : Bool := (nam n).isSome && (cmpO (nam s.nm) (nam n) == 0)
def fndN (S : List Sta) (n : ByteArray) : Option Nat := S.findIdx? (hitB n)
theorem fnd_no {S : List Sta} {n : ByteArray} (h : (nam n).isSome = false) : fndN S n = none := by
  unfold fndN; rw [List.findIdx?_eq_none_iff]; intro s _; unfold hitB; rw [h]; rfl
theorem fnd_snoc (S : List Sta) (s : Sta) (n : ByteArray) : fndN (S ++ [s]) n = (fndN S n).or (if hitB n s then some S.length else none) := by
  unfold fndN; rw [List.findIdx?_append]
  congr 1
  cases h : hitB n s <;> simp [List.findIdx?_cons, h]
theorem fnd_at {S : List Sta} {n : ByteArray} {k : Nat} (hk : k < S.length) (h : hitB n S[k] = true) (hn : ∀ j (hj : j < k), hitB n (S[j]'(by omega)) = false) : fndN S n = some k := by
  unfold fndN; rw [List.findIdx?_eq_some_iff_getElem]
  exact ⟨hk, h, fun j hj => by rw [hn j hj]; simp⟩
theorem fnd_end {S : List Sta} {n : ByteArray} (hn : ∀ j (hj : j < S.length), hitB n S[j] = false) : fndN S n = none := by
  unfold fndN; rw [List.findIdx?_eq_none_iff]
  intro s hs
  obtain ⟨j, hj, rfl⟩ := List.getElem_of_mem hs
  exact hn j hj
/-- Names that are all names and all different: what a map by folded names holds of them. -/
def keyOf (S : List Sta) (k : ByteArray) : Option Nat := S.findIdx? fun s => decide (fS s.nm = k)
theorem key_fnd {S : List Sta} {n : ByteArray} (hS : ∀ s ∈ S, (nam s.nm).isSome = true) (hn : (nam n).isSome = true) : keyOf S (fS n) = fndN S n := by
  unfold keyOf fndN
  induction S with
  | nil => rfl
  | cons s S ih =>
    have e : (decide (fS s.nm = fS n)) = hitB n s := by
      unfold hitB; rw [hn, Bool.true_and, Bool.eq_iff_iff, decide_eq_true_iff, beq_iff_eq, cmpO_zero]
      exact key_iff (hS s (by simp))
    rw [List.findIdx?_cons, List.findIdx?_cons, e, ih fun r hr => hS r (by simp [hr])]
theorem key_snoc (S : List Sta) (s : Sta) (k : ByteArray) : keyOf (S ++ [s]) k = (keyOf S k).or (if fS s.nm = k then some S.length else none) := by
  unfold keyOf; rw [List.findIdx?_append]
  congr 1
  by_cases h : fS s.nm = k <;> simp [List.findIdx?_cons, h]
/-- The sum of the weights of the flows that are there; G tells which are gone. -/
def totF : List Flo → List Bool → Int
  | f :: F, g :: G => (if g then 0 else f.w) + totF F G
  | _, _ => 0
theorem tot_snoc : ∀ (F : List Flo) (G : List Bool) (f : Flo) (g : Bool), F.length = G.length → totF (F ++ [f]) (G ++ [g]) = totF F G + if g then 0 else f.w
  | [], [], f, g, _ => by simp [totF]
  | [], _ :: _, _, _, h => by simp at h
  | _ :: _, [], _, _, h => by simp at h
  | a :: F, b :: G, f, g, h => by
    have := tot_snoc F G f g (by simpa using h)
    rw [List.cons_append, List.cons_append, totF, totF, this]; omega
theorem tot_take {F : List Flo} {G : List Bool} {k : Nat} (hk : k < F.length) (hl : F.length = G.length) : totF (F.take (k + 1)) (G.take (k + 1)) = totF (F.take k) (G.take k) + if G[k]'(by omega) then 0 else F[k].w := by
  rw [List.take_succ_eq_append_getElem hk, List.take_succ_eq_append_getElem (l := G) (by omega), tot_snoc _ _ _ _ (by simp; omega)]
theorem tot_set : ∀ (F : List Flo) (G : List Bool) (k : Nat) (f : Flo) (hk : k < F.length) (hl : F.length = G.length), G[k]'(by omega) = false → totF (F.set k f) G = totF F G - F[k].w + f.w
  | [], _, k, _, hk, _, _ => by simp at hk
  | _ :: _, [], _, _, _, h, _ => by simp at h
  | a :: F, b :: G, 0, f, _, _, h => by
    simp at h; subst h
    simp [totF]; omega
  | a :: F, b :: G, k + 1, f, hk, hl, h => by
    have := tot_set F G k f (by simpa using hk) (by simpa using hl) (by simpa using h)
    rw [List.set_cons_succ, totF, this, totF, List.getElem_cons_succ]; omega
theorem tot_gone : ∀ (F : List Flo) (G : List Bool) (k : Nat) (hk : k < F.length) (hl : F.length = G.length), G[k]'(by omega) = false → totF F (G.set k true) = totF F G - F[k].w
  | [], _, k, hk, _, _ => by simp at hk
  | _ :: _, [], _, _, h, _ => by simp at h
  | a :: F, b :: G, 0, _, _, h => by
    simp at h; subst h
    simp [totF]; omega
  | a :: F, b :: G, k + 1, hk, hl, h => by
    have := tot_gone F G k (by simpa using hk) (by simpa using hl) (by simpa using h)
    rw [List.set_cons_succ, totF, this, totF, List.getElem_cons_succ]; omega
theorem tot_bounds : ∀ (F : List Flo) (G : List Bool), (∀ f ∈ F, 1 ≤ f.w ∧ f.w ≤ 16) → 0 ≤ totF F G ∧ totF F G ≤ 16 * F.length
  | [], _, _ => by simp [totF]
  | _ :: _, [], _ => by simp [totF]; omega
  | a :: F, b :: G, h => by
    have := tot_bounds F G fun f hf => h f (by simp [hf])
    have h1 := h a (by simp)
    rw [totF, List.length_cons]
    split <;> omega
theorem tot_has : ∀ (F : List Flo) (G : List Bool) (k : Nat) (hk : k < F.length) (hl : F.length = G.length), (∀ f ∈ F, 1 ≤ f.w ∧ f.w ≤ 16) → G[k]'(by omega) = false → F[k].w ≤ totF F G
  | [], _, k, hk, _, _, _ => by simp at hk
  | _ :: _, [], _, _, h, _, _ => by simp at h
  | a :: F, b :: G, 0, _, _, hF, h => by
    simp at h; subst h
    have := tot_bounds F G fun f hf => hF f (by simp [hf])
    simp [totF]; omega
  | a :: F, b :: G, k + 1, hk, hl, hF, h => by
    have h1 := tot_has F G k (by simpa using hk) (by simpa using hl) (fun f hf => hF f (by simp [hf])) (by simpa using h)
    have h2 := hF a (by simp)
    rw [List.getElem_cons_succ, totF]
    split <;> omega
/-- The flows that are there. -/
def flwL : List Flo → List Bool → List Flo
  | f :: F, g :: G => if g then flwL F G else f :: flwL F G
  | _, _ => []
theorem flw_snoc : ∀ (F : List Flo) (G : List Bool) (f : Flo) (g : Bool), F.length = G.length → flwL (F ++ [f]) (G ++ [g]) = flwL F G ++ if g then [] else [f]
  | [], [], f, g, _ => by cases g <;> simp [flwL]
  | [], _ :: _, _, _, h => by simp at h
  | _ :: _, [], _, _, h => by simp at h
  | a :: F, b :: G, f, g, h => by
    have := flw_snoc F G f g (by simpa using h)
    rw [List.cons_append, List.cons_append, flwL, flwL, this]
    cases b <;> simp
theorem flw_take {F : List Flo} {G : List Bool} {k : Nat} (hk : k < F.length) (hl : F.length = G.length) : flwL (F.take (k + 1)) (G.take (k + 1)) = flwL (F.take k) (G.take k) ++ if G[k]'(by omega) then [] else [F[k]] := by
  rw [List.take_succ_eq_append_getElem hk, List.take_succ_eq_append_getElem (l := G) (by omega), flw_snoc _ _ _ _ (by simp; omega)]
theorem flw_len : ∀ (F : List Flo) (G : List Bool), (flwL F G).length ≤ F.length
  | [], _ => by simp [flwL]
  | _ :: _, [] => by simp [flwL]
  | a :: F, b :: G => by
    have := flw_len F G
    rw [flwL, List.length_cons]
    split
    · omega
    · rw [List.length_cons]; omega
/-- A flow is there. -/
def thrB (F : List Flo) (G : List Bool) (f : Int) : Bool := decide (0 ≤ f) && decide (f < F.length) && !(G.getD f.toNat true)
theorem thr_yes {F : List Flo} {G : List Bool} {f : Int} (hl : F.length = G.length) (h : thrB F G f = true) : ∃ k : Nat, f = k ∧ k < F.length ∧ ∃ hk : k < G.length, G[k] = false := by
  unfold thrB at h
  simp only [Bool.and_eq_true, decide_eq_true_eq, Bool.not_eq_true'] at h
  obtain ⟨⟨h0, h1⟩, h2⟩ := h
  obtain ⟨k, rfl⟩ := Int.eq_ofNat_of_zero_le h0
  have hk : k < F.length := by omega
  refine ⟨k, rfl, hk, by omega, ?_⟩
  rw [List.getD_eq_getElem?_getD, Int.toNat_natCast, List.getElem?_eq_getElem (by omega)] at h2
  exact h2
theorem thr_nat {F : List Flo} {G : List Bool} {k : Nat} (hl : F.length = G.length) (hk : k < F.length) : thrB F G k = !(G[k]'(by omega)) := by
  unfold thrB
  rw [List.getD_eq_getElem?_getD, Int.toNat_natCast, List.getElem?_eq_getElem (by omega)]
  simp [hk]
/-- A table: its capacity, how many rates there are, its stations, its flows, and which of them are gone. -/
structure Tb where
  cap : Int
  rt : Int
  S : List Sta
  F : List Flo
  G : List Bool
def Tb.tot (t : Tb) : Int := totF t.F t.G
def gwB (w : Int) : Bool := decide (1 ≤ w) && decide (w ≤ 16)
def newE (c r : Int) : Int := if decide (1 ≤ c) && decide (c ≤ 512) && decide (1 ≤ r) && decide (r ≤ 12) then 0 else 1
/-- AddStation: the error; the number is the list's length where there is none. -/
def asE (t : Tb) (n : ByteArray) (w r : Int) : Int :=
  if ((nam n).isSome && gwB w && decide (0 ≤ r) && decide (r < t.rt)) = false then 1 else if (fndN t.S n).isSome then 7 else if 16 ≤ t.S.length then 4 else 0
def asX (t : Tb) (n : ByteArray) (w r : Int) : Int := if asE t n w r = 0 then t.S.length else 0
def asT (t : Tb) (n : ByteArray) (w r : Int) : Tb := if asE t n w r = 0 then { t with S := t.S ++ [⟨t.S.length, n, w, r⟩] } else t
def afE (t : Tb) (s w : Int) : Int :=
  if (decide (0 ≤ s) && decide (s < t.S.length)) = false then 6 else if gwB w = false then 1 else if 32 ≤ t.F.length then 4 else if t.cap < t.tot + w then 12 else 0
def afX (t : Tb) (s w : Int) : Int := if afE t s w = 0 then t.F.length else 0
def afT (t : Tb) (s w : Int) : Tb := if afE t s w = 0 then { t with F := t.F ++ [⟨t.F.length, s, w, 64, 262144, 1099511627776, 1099511627776⟩], G := t.G ++ [false] } else t
def flo0 : Flo := ⟨0, 0, 0, 0, 0, 0, 0⟩
def Tb.at (t : Tb) (f : Int) : Flo := t.F.getD f.toNat flo0
def swE (t : Tb) (f w : Int) : Int := if thrB t.F t.G f = false then 6 else if gwB w = false then 1 else if t.cap < t.tot - (t.at f).w + w then 12 else 0
def swT (t : Tb) (f w : Int) : Tb := if swE t f w = 0 then { t with F := t.F.set f.toNat { t.at f with w := w } } else t
def scE (t : Tb) (f p b : Int) : Int := if thrB t.F t.G f = false then 6 else if (decide (1 ≤ p) && decide (p ≤ 64) && decide (1 ≤ b) && decide (b ≤ 262144)) = false then 1 else 0
def scT (t : Tb) (f p b : Int) : Tb := if scE t f p b = 0 then { t with F := t.F.set f.toNat { t.at f with p := p, b := b } } else t
def sbE (t : Tb) (f p b : Int) : Int := if thrB t.F t.G f = false then 6 else if (decide (0 ≤ p) && decide (p ≤ 1099511627776) && decide (0 ≤ b) && decide (b ≤ 1099511627776)) = false then 1 else 0
def sbT (t : Tb) (f p b : Int) : Tb := if sbE t f p b = 0 then { t with F := t.F.set f.toNat { t.at f with lg := p, ld := b } } else t
def rmE (t : Tb) (f : Int) : Int := if thrB t.F t.G f = false then 6 else 0
def rmT (t : Tb) (f : Int) : Tb := if rmE t f = 0 then { t with G := t.G.set f.toNat true } else t
/-- What holds of every table. -/
structure TbOk (t : Tb) : Prop where
  cap : 1 ≤ t.cap ∧ t.cap ≤ 512
  rt : 1 ≤ t.rt ∧ t.rt ≤ 12
  len : t.F.length = t.G.length
  few : t.S.length ≤ 16 ∧ t.F.length ≤ 32
  nms : ∀ s ∈ t.S, (nam s.nm).isSome = true ∧ 1 ≤ s.w ∧ s.w ≤ 16 ∧ 0 ≤ s.r ∧ s.r < t.rt
  fls : ∀ f ∈ t.F, 1 ≤ f.w ∧ f.w ≤ 16
  tot : t.tot ≤ t.cap
theorem TbOk.new {c r : Int} (h : newE c r = 0) : TbOk ⟨c, r, [], [], []⟩ := by
  unfold newE at h
  split at h
  · rename_i h1
    simp only [Bool.and_eq_true, decide_eq_true_eq] at h1
    obtain ⟨⟨⟨h1, h2⟩, h3⟩, h4⟩ := h1
    refine ⟨⟨h1, h2⟩, ⟨h3, h4⟩, rfl, by simp, by simp, by simp, ?_⟩
    show (0 : Int) ≤ c
    omega
  · cases h
theorem gw_yes {w : Int} (h : gwB w = true) : 1 ≤ w ∧ w ≤ 16 := by
  unfold gwB at h; simpa using h
theorem TbOk.addS {t : Tb} (h : TbOk t) (n : ByteArray) (w r : Int) : TbOk (asT t n w r) := by
  unfold asT
  split
  · rename_i h0
    unfold asE at h0
    split at h0
    · cases h0
    · rename_i h1
      split at h0
      · cases h0
      · split at h0
        · cases h0
        · rename_i h3
          have h1' := eq_true_of_ne_false h1
          simp only [Bool.and_eq_true, decide_eq_true_eq] at h1'
          obtain ⟨⟨⟨h4, h5⟩, h6⟩, h7⟩ := h1'
          have h8 := gw_yes h5
          refine ⟨h.cap, h.rt, h.len, ⟨by simp; omega, h.few.2⟩, fun s hs => ?_, h.fls, h.tot⟩
          rcases List.mem_append.1 hs with hs | hs
          · exact h.nms s hs
          · simp only [List.mem_singleton] at hs; subst hs; exact ⟨h4, h8.1, h8.2, h6, h7⟩
  · exact h
theorem TbOk.addF {t : Tb} (h : TbOk t) (s w : Int) : TbOk (afT t s w) := by
  unfold afT
  split
  · rename_i h0
    unfold afE at h0
    split at h0
    · cases h0
    · split at h0
      · cases h0
      · rename_i h2
        split at h0
        · cases h0
        · rename_i h3
          split at h0
          · cases h0
          · rename_i h4
            have h8 := gw_yes (eq_true_of_ne_false h2)
            refine ⟨h.cap, h.rt, by simp [h.len], ⟨h.few.1, by simp; omega⟩, h.nms, fun f hf => ?_, ?_⟩
            · rcases List.mem_append.1 hf with hf | hf
              · exact h.fls f hf
              · simp only [List.mem_singleton] at hf; subst hf; exact h8
            · show totF _ _ ≤ t.cap
              rw [tot_snoc _ _ _ _ h.len]
              have : t.tot = totF t.F t.G := rfl
              simp; omega
  · exact h
theorem TbOk.rem {t : Tb} (h : TbOk t) (f : Int) : TbOk (rmT t f) := by
  unfold rmT
  split
  · rename_i h0
    unfold rmE at h0
    split at h0
    · cases h0
    · rename_i h1
      obtain ⟨k, rfl, hk, hg, e⟩ := thr_yes h.len (eq_true_of_ne_false h1)
      refine ⟨h.cap, h.rt, by simp [h.len], h.few, h.nms, h.fls, ?_⟩
      show totF _ _ ≤ t.cap
      rw [Int.toNat_natCast, tot_gone _ _ _ hk h.len e]
      have h2 := h.fls _ (List.getElem_mem hk)
      have h3 := h.tot
      unfold Tb.tot at h3
      omega
  · exact h
theorem Tb.at_nat {t : Tb} {k : Nat} (hk : k < t.F.length) : t.at k = t.F[k] := by
  unfold Tb.at; rw [Int.toNat_natCast, List.getD_eq_getElem?_getD, List.getElem?_eq_getElem hk]; rfl
theorem TbOk.put {t : Tb} (h : TbOk t) {k : Nat} (hk : k < t.F.length) (hg : ∃ hk : k < t.G.length, t.G[k] = false) (f : Flo) (hf : 1 ≤ f.w ∧ f.w ≤ 16) (ht : t.tot - t.F[k].w + f.w ≤ t.cap) : TbOk { t with F := t.F.set k f } := by
  obtain ⟨_, e⟩ := hg
  refine ⟨h.cap, h.rt, by simp [h.len], ⟨h.few.1, by simpa using h.few.2⟩, h.nms, fun x hx => ?_, ?_⟩
  · rcases List.mem_or_eq_of_mem_set hx with hx | rfl
    · exact h.fls x hx
    · exact hf
  · show totF _ _ ≤ t.cap
    rw [tot_set _ _ _ _ hk h.len e]; exact ht
theorem TbOk.setW {t : Tb} (h : TbOk t) (f w : Int) : TbOk (swT t f w) := by
  unfold swT
  split
  · rename_i h0
    unfold swE at h0
    split at h0
    · cases h0
    · rename_i h1
      split at h0
      · cases h0
      · rename_i h2
        split at h0
        · cases h0
        · rename_i h3
          obtain ⟨k, rfl, hk, hg⟩ := thr_yes h.len (eq_true_of_ne_false h1)
          rw [Tb.at_nat hk] at h3
          exact h.put hk hg _ (gw_yes (eq_true_of_ne_false h2)) (by show t.tot - _ + w ≤ _; omega)
  · exact h
theorem TbOk.setC {t : Tb} (h : TbOk t) (f p b : Int) : TbOk (scT t f p b) := by
  unfold scT
  split
  · rename_i h0
    unfold scE at h0
    split at h0
    · cases h0
    · rename_i h1
      obtain ⟨k, rfl, hk, hg⟩ := thr_yes h.len (eq_true_of_ne_false h1)
      have h2 := h.fls _ (List.getElem_mem hk)
      have h3 := h.tot
      rw [Tb.at_nat hk, Int.toNat_natCast]
      exact h.put hk hg _ h2 (by show t.tot - t.F[k].w + t.F[k].w ≤ _; omega)
  · exact h
theorem TbOk.setB {t : Tb} (h : TbOk t) (f p b : Int) : TbOk (sbT t f p b) := by
  unfold sbT
  split
  · rename_i h0
    unfold sbE at h0
    split at h0
    · cases h0
    · rename_i h1
      obtain ⟨k, rfl, hk, hg⟩ := thr_yes h.len (eq_true_of_ne_false h1)
      have h2 := h.fls _ (List.getElem_mem hk)
      have h3 := h.tot
      rw [Tb.at_nat hk, Int.toNat_natCast]
      exact h.put hk hg _ h2 (by show t.tot - t.F[k].w + t.F[k].w ≤ _; omega)
  · exact h
end Go.Proofs.Ytgojbomdkdlclaa

