/-
  PLAIN MATHEMATICS: a varint read back; which frame stands at a place; the records and gaps of a shard.
-/
import Derived.Test.YtfpodnleimhohabGreatDoorMath
namespace Go.Proofs.YtfpodnleimhohabGreatDoor
open Go.RowKit

/-! ### a varint read back -/
/-- Reading, by so many bytes at most: the number so far, the next unit, how many bytes are read. -/
def rvF : Nat → Int → Int → Nat → List UInt8 → Option (Int × Nat)
  | 0, _, _, _, _ => none
  | _ + 1, _, _, _, [] => none
  | f + 1, n, u, i, c :: r =>
    if c.toNat < 128 then (if c.toNat = 0 ∧ 0 < i then none else some (n + (c.toNat : Int) % 128 * u, i + 1))
    else rvF f (n + (c.toNat : Int) % 128 * u) (u * 128) (i + 1) r
theorem rvF_nil (f : Nat) (n u : Int) (i : Nat) : rvF f n u i [] = none := by cases f <;> rfl
theorem rvF_zero (n u : Int) (i : Nat) (l : List UInt8) : rvF 0 n u i l = none := rfl
theorem rvF_last {f : Nat} {n u : Int} {i : Nat} {c : UInt8} {r : List UInt8} (h : c.toNat < 128) (h2 : ¬ (c.toNat = 0 ∧ 0 < i)) :
    rvF (f + 1) n u i (c :: r) = some (n + (c.toNat : Int) % 128 * u, i + 1) := by simp only [rvF]; rw [if_pos h, if_neg h2]
theorem rvF_bad {f : Nat} {n u : Int} {i : Nat} {c : UInt8} {r : List UInt8} (h : c.toNat < 128) (h2 : c.toNat = 0 ∧ 0 < i) :
    rvF (f + 1) n u i (c :: r) = none := by simp only [rvF]; rw [if_pos h, if_pos h2]
theorem rvF_more {f : Nat} {n u : Int} {i : Nat} {c : UInt8} {r : List UInt8} (h : ¬ c.toNat < 128) :
    rvF (f + 1) n u i (c :: r) = rvF f (n + (c.toNat : Int) % 128 * u) (u * 128) (i + 1) r := by simp only [rvF]; rw [if_neg h]

theorem rvF_some (f : Nat) : ∀ (n u : Int) (i : Nat) (l : List UInt8) (v : Int) (k : Nat), rvF (f + 1) n u i l = some (v, k) →
    ∃ (x : Int) (r : List UInt8), 0 ≤ x ∧ x < 128 ^ (f + 1) ∧ v = n + x * u ∧ l = varF f x ++ r ∧ k = i + (varF f x).length ∧ (0 < i → x ≠ 0) := by
  induction f with
  | zero =>
    intro n u i l v k h
    cases l with
    | nil => simp [rvF] at h
    | cons c r =>
      by_cases hc : c.toNat < 128
      · by_cases hb : c.toNat = 0 ∧ 0 < i
        · rw [rvF_bad hc hb] at h; simp at h
        · rw [rvF_last hc hb] at h
          simp at h
          refine ⟨(c.toNat : Int), r, by omega, by simp; omega, ?_, ?_, ?_, ?_⟩
          · rw [← h.1, Int.emod_eq_of_lt (by omega) (by omega)]
          · simp [varF, by8_nat]
          · simp [varF]; omega
          · intro hi hz; exact hb ⟨by omega, hi⟩
      · rw [rvF_more hc] at h; simp [rvF] at h
  | succ f ih =>
    intro n u i l v k h
    cases l with
    | nil => simp [rvF] at h
    | cons c r =>
      have hc8 := c.toNat_lt
      by_cases hc : c.toNat < 128
      · by_cases hb : c.toNat = 0 ∧ 0 < i
        · rw [rvF_bad hc hb] at h; simp at h
        · rw [rvF_last hc hb] at h
          simp at h
          have hp : (128 : Int) ^ (f + 1 + 1) = 128 ^ (f + 1) * 128 := Int.pow_succ ..
          have hp1 : (1 : Int) ≤ 128 ^ (f + 1) := Int.pow_pos (by omega)
          refine ⟨(c.toNat : Int), r, by omega, by omega, ?_, ?_, ?_, ?_⟩
          · rw [← h.1, Int.emod_eq_of_lt (by omega) (by omega)]
          · rw [varF_short _ _ (by omega), by8_nat]; rfl
          · rw [varF_short _ _ (by omega)]; simp; omega
          · intro hi hz; exact hb ⟨by omega, hi⟩
      · rw [rvF_more hc] at h
        obtain ⟨x, r', hx0, hx1, hv, hl, hk, hne⟩ := ih _ _ _ _ _ _ h
        have hx := hne (by omega)
        have hp : (128 : Int) ^ (f + 1 + 1) = 128 ^ (f + 1) * 128 := Int.pow_succ ..
        have e1 : ((c.toNat : Int) % 128 + 128 * x) % 128 + 128 = (c.toNat : Int) := by omega
        have e2 : ((c.toNat : Int) % 128 + 128 * x) / 128 = x := by omega
        refine ⟨(c.toNat : Int) % 128 + 128 * x, r', by omega, by rw [hp]; omega, ?_, ?_, ?_, by intro _; omega⟩
        · rw [hv, Int.add_mul, Int.mul_comm 128 x, Int.mul_assoc, Int.mul_comm 128 u, Int.add_assoc]
        · rw [varF_long _ _ (by omega), e1, e2, by8_nat, hl]; rfl
        · rw [varF_long _ _ (by omega), e2, hk]; simp; omega

theorem rvF_var (f : Nat) : ∀ (x n u : Int) (i : Nat) (r : List UInt8), 0 ≤ x → x < 128 ^ (f + 1) → (0 < i → x ≠ 0) →
    rvF (f + 1) n u i (varF f x ++ r) = some (n + x * u, i + (varF f x).length) := by
  induction f with
  | zero =>
    intro x n u i r h0 h1 hi
    have h1 : x < 128 := by simpa using h1
    have e := by8_toNat x h0 (by omega)
    rw [varF_short _ _ h1]
    show rvF (0 + 1) n u i (by8 x :: r) = _
    rw [rvF_last (by omega) (by intro h; have := hi h.2; omega), e, Int.emod_eq_of_lt h0 h1]
    simp
  | succ f ih =>
    intro x n u i r h0 h1 hi
    by_cases hs : x < 128
    · have e := by8_toNat x h0 (by omega)
      rw [varF_short _ _ hs]
      show rvF (f + 1 + 1) n u i (by8 x :: r) = _
      rw [rvF_last (by omega) (by intro h; have := hi h.2; omega), e, Int.emod_eq_of_lt h0 hs]
      simp
    · have hp : (128 : Int) ^ (f + 1 + 1) = 128 ^ (f + 1) * 128 := Int.pow_succ ..
      have e := by8_toNat (x % 128 + 128) (by omega) (by omega)
      rw [varF_long _ _ hs]
      show rvF (f + 1 + 1) n u i (by8 (x % 128 + 128) :: (varF f (x / 128) ++ r)) = _
      rw [rvF_more (by omega), ih _ _ _ _ _ (by omega) (by rw [hp] at h1; omega) (by intro _; omega), e]
      have e3 : (x % 128 + 128) % 128 = x % 128 := by omega
      have e4 : x / 128 * (u * 128) = x / 128 * 128 * u := by rw [Int.mul_comm u 128, Int.mul_assoc]
      have e5 : x % 128 * u + x / 128 * 128 * u = x * u := by
        rw [← Int.add_mul]
        have : x % 128 + x / 128 * 128 = x := by omega
        rw [this]
      rw [e3, e4, Int.add_assoc, e5]
      simp; omega
/-- The program's way: at most nine bytes. -/
def rv (l : List UInt8) : Option (Int × Nat) := rvF 9 0 1 0 l
theorem var_nine (x : Int) (h : x < 128 ^ 9) : var x = varF 8 x := varF_more 8 x h
theorem rv_some {l : List UInt8} {v : Int} {k : Nat} (h : rv l = some (v, k)) :
    0 ≤ v ∧ v < 128 ^ 9 ∧ k = (var v).length ∧ ∃ r, l = var v ++ r := by
  obtain ⟨x, r, h0, h1, hv, hl, hk, _⟩ := rvF_some 8 _ _ _ _ _ _ h
  obtain rfl : v = x := by omega
  have e := var_nine v h1
  exact ⟨h0, h1, by rw [e]; omega, r, by rw [e]; exact hl⟩
theorem rv_var (x : Int) (r : List UInt8) (h0 : 0 ≤ x) (h1 : x < 128 ^ 9) : rv (var x ++ r) = some (x, (var x).length) := by
  have e := var_nine x h1
  unfold rv
  rw [e, rvF_var 8 x 0 1 0 r h0 h1 (by omega)]
  simp

/-! ### which frame stands at a place -/
def bodyOk : List UInt8 → Bool
  | [] => false
  | c :: t => decide (c.toNat < 4) && decide (t.length ≤ 200)
theorem bodyOk_len {b : List UInt8} (h : bodyOk b = true) : 1 ≤ b.length ∧ b.length ≤ 201 := by
  cases b with
  | nil => simp [bodyOk] at h
  | cons c t => simp [bodyOk] at h; simp; omega
/-- The body of n bytes that would stand there. -/
def cutB (l : List UInt8) (n : Nat) : List UInt8 := (l.drop (1 + (var (n : Int)).length)).take n
def stand (l : List UInt8) : Option (List UInt8) := ((List.range 202).map (cutB l)).find? fun b => bodyOk b && (frameB b).isPrefixOf l

theorem cutB_frame {b l : List UInt8} (h : frameB b <+: l) : b = cutB l b.length := by
  obtain ⟨r, rfl⟩ := h
  unfold cutB frameB
  rw [show 1 + (var (b.length : Int)).length = ((213 : UInt8) :: var (b.length : Int)).length by simp [Nat.add_comm]]
  rw [show ((213 : UInt8) :: (var (b.length : Int) ++ (b ++ le (crc b) 4))) ++ r = ((213 : UInt8) :: var (b.length : Int)) ++ (b ++ (le (crc b) 4 ++ r)) by simp]
  rw [List.drop_left, List.take_left]
theorem var_head (n : Nat) (h : n ≤ 201) : ∃ r, var (n : Int) = by8 (n : Int) :: r := by
  by_cases hs : (n : Int) < 128
  · exact ⟨[], var_short _ hs⟩
  · refine ⟨[by8 ((n : Int) / 128)], ?_⟩
    rw [var_two _ hs (by omega)]
    have : (n : Int) % 128 + 128 = n := by omega
    rw [this]
theorem frameB_second {b : List UInt8} (h : b.length ≤ 201) : (frameB b)[1]? = some (by8 (b.length : Int)) := by
  obtain ⟨r, hr⟩ := var_head b.length h
  unfold frameB
  rw [hr]; rfl
theorem prefix_get {a l : List UInt8} (h : a <+: l) {i : Nat} {c : UInt8} (hc : a[i]? = some c) : l[i]? = some c := by
  obtain ⟨r, rfl⟩ := h
  have hi : i < a.length := by
    rcases Nat.lt_or_ge i a.length with h | h
    · exact h
    · rw [List.getElem?_eq_none h] at hc; simp at hc
  rw [List.getElem?_append_left hi]; exact hc
theorem frame_one {b b' l : List UInt8} (ok : bodyOk b = true) (ok' : bodyOk b' = true) (h : frameB b <+: l) (h' : frameB b' <+: l) : b = b' := by
  have n := bodyOk_len ok
  have n' := bodyOk_len ok'
  have e := prefix_get h (frameB_second n.2)
  have e' := prefix_get h' (frameB_second n'.2)
  rw [e] at e'
  simp at e'
  have t := by8_toNat (b.length : Int) (by omega) (by omega)
  have t' := by8_toNat (b'.length : Int) (by omega) (by omega)
  rw [e', t'] at t
  have hl : b.length = b'.length := by omega
  rw [cutB_frame h, cutB_frame h', hl]
theorem stand_iff (l b : List UInt8) : stand l = some b ↔ bodyOk b = true ∧ frameB b <+: l := by
  constructor
  · intro h
    have := List.find?_some h
    simp at this
    exact this
  · rintro ⟨ok, hp⟩
    have n := bodyOk_len ok
    have hm : b ∈ (List.range 202).map (cutB l) := by
      rw [cutB_frame hp]
      exact List.mem_map.2 ⟨b.length, by simp; omega, rfl⟩
    cases hs : stand l with
    | none =>
      have := List.find?_eq_none.1 hs b hm
      simp [ok, hp] at this
    | some b' =>
      have := List.find?_some hs
      simp at this
      rw [frame_one this.1 ok this.2 hp]
theorem stand_none (l : List UInt8) (h : ∀ b, bodyOk b = true → ¬ frameB b <+: l) : stand l = none := by
  cases hs : stand l with
  | none => rfl
  | some b => exact absurd ((stand_iff l b).1 hs).2 (h b ((stand_iff l b).1 hs).1)
theorem stand_nil : stand [] = none := stand_none _ fun b _ h => by simp [frameB] at h
theorem stand_213 {c : UInt8} {r : List UInt8} (h : c ≠ 213) : stand (c :: r) = none :=
  stand_none _ fun b _ hp => by simp [frameB] at hp; exact h hp.1.symm
theorem frameB_pre {b r : List UInt8} (h : frameB b <+: 213 :: r) : var (b.length : Int) ++ (b ++ le (crc b) 4) <+: r := by
  unfold frameB at h
  simpa using h
theorem small_pow (n : Nat) (h : n ≤ 201) : ((n : Int)) < 128 ^ 9 := by
  have : (128 : Int) ^ 9 = 9223372036854775808 := by decide
  omega
/-- No varint there. -/
theorem stand_novar {r : List UInt8} (h : rv r = none) : stand (213 :: r) = none :=
  stand_none _ fun b ok hp => by
    obtain ⟨q, hq⟩ := frameB_pre hp
    have n := bodyOk_len ok
    rw [← hq, List.append_assoc, rv_var _ _ (by omega) (small_pow _ n.2)] at h
    simp at h
/-- The varint is there: what stands is told by it. -/
theorem stand_var {r : List UInt8} {v : Int} {k : Nat} (h : rv r = some (v, k)) :
    (¬ (1 ≤ v ∧ v ≤ 201) → stand (213 :: r) = none) ∧
    (1 ≤ v → v ≤ 201 → r.length < k + v.toNat + 4 → stand (213 :: r) = none) ∧
    (1 ≤ v → v ≤ 201 → k + v.toNat + 4 ≤ r.length → ∀ c t, (r.drop k).take v.toNat = c :: t →
      (¬ c.toNat < 4 → stand (213 :: r) = none) ∧
      (le (crc (c :: t)) 4 ≠ (r.drop (k + v.toNat)).take 4 → stand (213 :: r) = none) ∧
      (c.toNat < 4 → le (crc (c :: t)) 4 = (r.drop (k + v.toNat)).take 4 → stand (213 :: r) = some (c :: t) ∧ (frameB (c :: t)).length = 1 + k + v.toNat + 4)) := by
  have key : ∀ b, bodyOk b = true → frameB b <+: 213 :: r → (b.length : Int) = v ∧ b ++ le (crc b) 4 <+: r.drop k := by
    intro b ok hp
    obtain ⟨q, hq⟩ := frameB_pre hp
    have n := bodyOk_len ok
    have h2 := h
    rw [← hq, List.append_assoc, rv_var _ _ (by omega) (small_pow _ n.2)] at h2
    simp at h2
    refine ⟨h2.1, q, ?_⟩
    rw [← hq, ← h2.2, List.append_assoc (var _), List.drop_left]
  refine ⟨?_, ?_, ?_⟩
  · intro hn
    refine stand_none _ fun b ok hp => ?_
    have n := bodyOk_len ok
    have := (key b ok hp).1
    exact hn (by omega)
  · intro _ _ hl
    refine stand_none _ fun b ok hp => ?_
    obtain ⟨e, hq⟩ := key b ok hp
    have := hq.length_le
    simp [le_length] at this
    omega
  · intro h1 h2 hl c t hct
    have hlen : (c :: t).length = v.toNat := by
      rw [← hct, List.length_take, List.length_drop]; omega
    have eq : ∀ b, bodyOk b = true → frameB b <+: 213 :: r → b = c :: t ∧ le (crc b) 4 = (r.drop (k + v.toNat)).take 4 := by
      intro b ok hp
      obtain ⟨e, q, hq⟩ := key b ok hp
      have hb : b = c :: t := by
        rw [← hct, ← hq, List.append_assoc, show v.toNat = b.length by omega, List.take_left]
      refine ⟨hb, ?_⟩
      rw [← List.drop_drop, ← hq, show v.toNat = b.length by omega, List.append_assoc, List.drop_left]
      rw [show (4 : Nat) = (le (crc b) 4).length by rw [le_length]]
      rw [List.take_left' (by simp [le_length])]
    refine ⟨?_, ?_, ?_⟩
    · intro hc
      refine stand_none _ fun b ok hp => ?_
      rw [(eq b ok hp).1] at ok
      simp [bodyOk] at ok
      exact hc ok.1
    · intro hne
      refine stand_none _ fun b ok hp => ?_
      have := eq b ok hp
      rw [this.1] at this
      exact hne this.2
    · intro hc hs
      obtain ⟨_, _, hk, q, hq⟩ := rv_some h
      have hv : ((c :: t).length : Int) = v := by omega
      have hr : r = var v ++ ((c :: t) ++ (le (crc (c :: t)) 4 ++ r.drop (k + v.toNat + 4))) := by
        have d1 : r.drop k = q := by rw [hq, hk, List.drop_left]
        have d2 : q = (c :: t) ++ r.drop (k + v.toNat) := by
          rw [← hct, ← d1, ← List.drop_drop, List.take_append_drop]
        have d3 : r.drop (k + v.toNat) = le (crc (c :: t)) 4 ++ r.drop (k + v.toNat + 4) := by
          rw [hs, ← List.drop_drop (i := 4), List.take_append_drop]
        rw [← d3, ← d2]; exact hq
      refine ⟨(stand_iff _ _).2 ⟨?_, ?_⟩, ?_⟩
      · simp [bodyOk, hc]; simp at hlen; omega
      · refine ⟨r.drop (k + v.toNat + 4), ?_⟩
        unfold frameB
        rw [hv]
        conv => rhs; rw [hr]
        simp
      · unfold frameB
        rw [hv]
        simp only [List.length_cons, List.length_append, le_length]
        simp at hlen
        omega
theorem frameB_len (b : List UInt8) : 6 + b.length ≤ (frameB b).length := by
  unfold frameB
  have := var_length (b.length : Int)
  simp [le_length]; omega
theorem stand_le {l b : List UInt8} (h : stand l = some b) : (frameB b).length ≤ l.length := ((stand_iff l b).1 h).2.length_le

/-! ### the records and the gaps -/
/-- A record: from, to, the body. -/
structure Rc where
  fr : Nat
  to : Nat
  bd : List UInt8
/-- The records of what is left, which begins at a place. -/
def recsF : Nat → List UInt8 → Nat → List Rc
  | 0, _, _ => []
  | f + 1, l, p =>
    match l with
    | [] => []
    | c :: r =>
      match stand (c :: r) with
      | some b => ⟨p, p + (frameB b).length, b⟩ :: recsF f ((c :: r).drop (frameB b).length) (p + (frameB b).length)
      | none => recsF f r (p + 1)
/-- The gaps: the open one begins at a place. -/
def gapsF (o : Nat) (n : Nat) : List Rc → List (Nat × Nat)
  | [] => if o < n then [(o, n)] else []
  | r :: rs => (if o < r.fr then [(o, r.fr)] else []) ++ gapsF r.to n rs
/-- More fuel than bytes changes nothing. -/
theorem recsF_fuel (f : Nat) : ∀ (g : Nat) (l : List UInt8) (p : Nat), l.length ≤ f → l.length ≤ g → recsF f l p = recsF g l p := by
  induction f with
  | zero =>
    intro g l p h _
    cases l with
    | nil => cases g <;> rfl
    | cons c r => simp at h
  | succ f ih =>
    intro g l p h h'
    cases l with
    | nil => cases g <;> rfl
    | cons c r =>
      cases g with
      | zero => simp at h'
      | succ g =>
        simp at h h'
        simp only [recsF]
        cases hs : stand (c :: r) with
        | none => exact ih g r _ h h'
        | some b =>
          have := frameB_len b
          have e : ((c :: r).drop (frameB b).length).length ≤ r.length := by simp; omega
          simp only
          rw [ih g _ _ (by omega) (by omega)]
/-- The records of a shard from a place on; all of it. -/
def recsAt (l : List UInt8) (p : Nat) : List Rc := recsF (l.length - p) (l.drop p) p
theorem recsAt_end (l : List UInt8) : recsAt l l.length = [] := by simp [recsAt, recsF]
theorem drop_cons {l : List UInt8} {p : Nat} (h : p < l.length) : l.drop p = l[p] :: l.drop (p + 1) := List.drop_eq_getElem_cons h
theorem recsAt_none {l : List UInt8} {p : Nat} (h : p < l.length) (hs : stand (l.drop p) = none) : recsAt l p = recsAt l (p + 1) := by
  unfold recsAt
  rw [show l.length - p = (l.length - (p + 1)) + 1 by omega]
  rw [drop_cons h] at hs ⊢
  simp only [recsF, hs]
theorem recsAt_some {l : List UInt8} {p : Nat} {b : List UInt8} (hs : stand (l.drop p) = some b) :
    p + (frameB b).length ≤ l.length ∧ recsAt l p = ⟨p, p + (frameB b).length, b⟩ :: recsAt l (p + (frameB b).length) := by
  have hl := stand_le hs
  simp at hl
  have h6 := frameB_len b
  have h : p < l.length := by omega
  refine ⟨by omega, ?_⟩
  unfold recsAt
  rw [show l.length - p = (l.length - (p + 1)) + 1 by omega]
  have hd : (l.drop p).drop (frameB b).length = l.drop (p + (frameB b).length) := List.drop_drop ..
  rw [drop_cons h] at hs hd ⊢
  simp only [recsF, hs]
  rw [hd, recsF_fuel _ (l.length - (p + (frameB b).length)) _ _ (by simp; omega) (by simp)]
/-- All records, all gaps. -/
def recs (l : List UInt8) : List Rc := recsAt l 0
def gaps (l : List UInt8) : List (Nat × Nat) := gapsF 0 l.length (recs l)

end Go.Proofs.YtfpodnleimhohabGreatDoor
