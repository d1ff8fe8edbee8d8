import Derived.Test.YtfpodnleimhohabGreatDoorMath2
import Derived.Test.YtfpodnleimhohabGreatDoorMathL
import Derived.Test.YtfpodnleimhohabGreatDoorArr
import Derived.Test.YtfpodnleimhohabGreatDoorWalks3
import Derived.Test.YtfpodnleimhohabGreatDoorGen
import Derived.Test.YtfpodnleimhohabGreatDoorSpare
import Derived.Great.BuildSlice
/-
  PLAIN MATHEMATICS: a run as bytes, and read back.
-/
namespace Go.Proofs.YtfpodnleimhohabGreatDoor
open Go.RowKit

/-- The bytes that a mark is the sum of. -/
def markL (c : Cf) (s : List UInt8) : List UInt8 := le (c.seed : Int) 8 ++ (by8 (c.batch : Int) :: (le (c.rate : Int) 4 ++ (le (c.mom : Int) 4 ++ (by8 (c.decay : Int) :: s))))
/-- The mark, as it is written. -/
def markB (c : Cf) (s : ByteArray) : ByteArray := bs (le (crc (markL c (ls s))) 4)
theorem markB_size (c : Cf) (s : ByteArray) : (markB c s).size = 4 := by unfold markB; rw [bs_size, le_length]

/-! ### numbers that may be below 0 -/
def sg (x : Int) : Int := if x < 0 then -2 * x - 1 else 2 * x
def wh (n : Int) : Int := if n % 2 = 1 then -(n / 2) - 1 else n / 2
theorem sg_nonneg (x : Int) : 0 ≤ sg x := by unfold sg; split <;> omega
theorem sg_neg {x : Int} (h : x < 0) : sg x = -2 * x - 1 := if_pos h
theorem sg_pos {x : Int} (h : ¬ x < 0) : sg x = 2 * x := if_neg h
theorem wh_odd {n : Int} (h : n % 2 = 1) : wh n = -(n / 2) - 1 := if_pos h
theorem wh_even {n : Int} (h : ¬ n % 2 = 1) : wh n = n / 2 := if_neg h
theorem wh_sg (x : Int) : wh (sg x) = x := by
  by_cases h : x < 0
  · rw [sg_neg h, wh_odd (by omega)]; omega
  · rw [sg_pos h, wh_even (by omega)]; omega
theorem sg_wh {n : Int} (h : 0 ≤ n) : sg (wh n) = n := by
  by_cases h2 : n % 2 = 1
  · rw [wh_odd h2, sg_neg (by omega)]; omega
  · rw [wh_even h2, sg_pos (by omega)]; omega
theorem sg_le {x m : Int} (h1 : -m ≤ x) (h2 : x ≤ m) : sg x ≤ 2 * m := by unfold sg; split <;> omega
def sgL (x : Int) : List UInt8 := var (sg x)
theorem sgL_length (x : Int) : 1 ≤ (sgL x).length ∧ (sgL x).length ≤ 10 := var_length _

/-! ### a table -/
/-- The numbers from the i-th on, so many. -/
def tabFrom (f : Nat → Int) : Nat → Nat → List UInt8
  | _, 0 => []
  | i, k + 1 => sgL (f i) ++ tabFrom f (i + 1) k
theorem tabFrom_snoc (f : Nat → Int) (k : Nat) : ∀ i, tabFrom f i (k + 1) = tabFrom f i k ++ sgL (f (i + k)) := by
  induction k with
  | zero => intro i; simp [tabFrom]
  | succ k ih =>
    intro i
    rw [tabFrom, ih (i + 1), ← List.append_assoc, show i + 1 + k = i + (k + 1) by omega]
    rfl
theorem tabFrom_congr {f g : Nat → Int} (k : Nat) : ∀ i, (∀ x, i ≤ x → x < i + k → f x = g x) → tabFrom f i k = tabFrom g i k := by
  induction k with
  | zero => intro i _; rfl
  | succ k ih =>
    intro i h
    rw [tabFrom, tabFrom, h i (by omega) (by omega), ih (i + 1) (fun x h1 h2 => h x (by omega) (by omega))]
theorem tabFrom_length (f : Nat → Int) (k : Nat) : ∀ i, k ≤ (tabFrom f i k).length ∧ (tabFrom f i k).length ≤ 10 * k := by
  induction k with
  | zero => intro i; simp [tabFrom]
  | succ k ih =>
    intro i
    have := ih (i + 1)
    have h2 := sgL_length (f i)
    rw [tabFrom, List.length_append]; omega
/-- The first k numbers of a table. -/
def tabL (f : Nat → Int) (k : Nat) : List UInt8 := tabFrom f 0 k
theorem tabL_zero (f : Nat → Int) : tabL f 0 = [] := rfl
theorem tabL_snoc (f : Nat → Int) (k : Nat) : tabL f (k + 1) = tabL f k ++ sgL (f k) := by
  unfold tabL; rw [tabFrom_snoc, Nat.zero_add]
theorem tabL_length (f : Nat → Int) (k : Nat) : k ≤ (tabL f k).length ∧ (tabL f k).length ≤ 10 * k := tabFrom_length f k 0
/-- A number read, from -m to m. -/
def rdN (m : Int) (l : List UInt8) : Option (Int × Nat) :=
  match rv l with
  | none => none
  | some (v, k) => if wh v < -m ∨ m < wh v then none else some (wh v, k)
theorem rdN_no {m : Int} {l : List UInt8} (h : rv l = none) : rdN m l = none := by simp [rdN, h]
theorem rdN_out {m : Int} {l : List UInt8} {v : Int} {k : Nat} (h : rv l = some (v, k)) (h2 : wh v < -m ∨ m < wh v) : rdN m l = none := by simp [rdN, h, h2]
theorem rdN_in {m : Int} {l : List UInt8} {v : Int} {k : Nat} (h : rv l = some (v, k)) (h2 : ¬ (wh v < -m ∨ m < wh v)) : rdN m l = some (wh v, k) := by
  simp only [rdN, h]; rw [if_neg h2]
theorem rdN_some {m : Int} {l : List UInt8} {x : Int} {k : Nat} (h : rdN m l = some (x, k)) : -m ≤ x ∧ x ≤ m ∧ k = (sgL x).length ∧ l = sgL x ++ l.drop k := by
  cases hv : rv l with
  | none => rw [rdN_no hv] at h; simp at h
  | some p =>
    obtain ⟨v, k'⟩ := p
    by_cases h2 : wh v < -m ∨ m < wh v
    · rw [rdN_out hv h2] at h; simp at h
    · rw [rdN_in hv h2] at h
      simp at h
      obtain ⟨rfl, rfl⟩ := h
      obtain ⟨h0, _, hk, r, hr⟩ := rv_some hv
      have e : sgL (wh v) = var v := by unfold sgL; rw [sg_wh h0]
      refine ⟨by omega, by omega, by rw [e]; exact hk, ?_⟩
      rw [e, hk]
      conv => lhs; rw [hr]
      conv => rhs; rw [hr]
      rw [List.drop_left]
theorem rdN_sgL {m : Int} (hm : m ≤ 1073741824) {x : Int} (h1 : -m ≤ x) (h2 : x ≤ m) (r : List UInt8) : rdN m (sgL x ++ r) = some (x, (sgL x).length) := by
  have h := rv_var (sg x) r (sg_nonneg x) (by
    have := sg_le h1 h2
    have e : (128 : Int) ^ 9 = 9223372036854775808 := by decide
    omega)
  have e := rdN_in (m := m) h (by rw [wh_sg]; omega)
  rw [wh_sg] at e
  exact e
/-! ### the document reads six bytes at most -/
theorem rvF_fuel (f : Nat) : ∀ (n u : Int) (i : Nat) (l : List UInt8) (x : Int × Nat), rvF f n u i l = some x → rvF (f + 1) n u i l = some x := by
  induction f with
  | zero => intro n u i l x h; simp [rvF] at h
  | succ f ih =>
    intro n u i l x h
    cases l with
    | nil => simp [rvF] at h
    | cons c r =>
      by_cases hc : c.toNat < 128
      · by_cases hb : c.toNat = 0 ∧ 0 < i
        · rw [rvF_bad hc hb] at h; simp at h
        · rw [rvF_last hc hb] at h ⊢; exact h
      · rw [rvF_more hc] at h ⊢
        exact ih _ _ _ _ _ h
def rv6 (l : List UInt8) : Option (Int × Nat) := rvF 6 0 1 0 l
theorem rv6_some {l : List UInt8} {x : Int × Nat} (h : rv6 l = some x) : rv l = some x := rvF_fuel 8 _ _ _ _ _ (rvF_fuel 7 _ _ _ _ _ (rvF_fuel 6 _ _ _ _ _ h))
theorem pow6 : (128 : Int) ^ 6 = 4398046511104 := by decide
theorem rv6_none {l : List UInt8} (h : rv6 l = none) {v : Int} {k : Nat} (h2 : rv l = some (v, k)) : 4398046511104 ≤ v := by
  rcases Int.lt_or_le v 4398046511104 with hlt | hge
  · exfalso
    obtain ⟨h0, _, _, r, rfl⟩ := rv_some h2
    have e : var v = varF 5 v := by
      have p7 : (128 : Int) ^ 7 = 562949953421312 := by decide
      have p8 : (128 : Int) ^ 8 = 72057594037927936 := by decide
      have p9 : (128 : Int) ^ 9 = 9223372036854775808 := by decide
      have p6 := pow6
      show varF 9 v = _
      rw [varF_more 8 v (by omega), varF_more 7 v (by omega), varF_more 6 v (by omega), varF_more 5 v (by omega)]
    have q := rvF_var 5 v 0 1 0 r h0 (by rw [pow6]; exact hlt) (by omega)
    rw [e] at h
    unfold rv6 at h
    rw [q] at h
    simp at h
  · exact hge
theorem wh_big {v : Int} (h : 4398046511104 ≤ v) : wh v < -1073741824 ∨ 1073741824 < wh v := by unfold wh; split <;> omega
theorem rdN_no6 {m : Int} (hm : m ≤ 1073741824) {l : List UInt8} (h : rv6 l = none) : rdN m l = none := by
  cases hv : rv l with
  | none => exact rdN_no hv
  | some p =>
    obtain ⟨v, k⟩ := p
    exact rdN_out hv (by have := wh_big (rv6_none h hv); omega)
/-- A table read: j numbers are left, the i-th comes next; what is read so far. -/
def rt (m : Int) : Nat → Nat → (Nat → Int) → List UInt8 → Option ((Nat → Int) × List UInt8)
  | 0, _, f, l => some (f, l)
  | j + 1, i, f, l =>
    match rdN m l with
    | none => none
    | some (x, k) => rt m j (i + 1) (upd f i x) (l.drop k)
theorem rt_zero (m : Int) (i : Nat) (f : Nat → Int) (l : List UInt8) : rt m 0 i f l = some (f, l) := rfl
theorem rt_none {m : Int} {j i : Nat} {f : Nat → Int} {l : List UInt8} (h : rdN m l = none) : rt m (j + 1) i f l = none := by simp [rt, h]
theorem rt_more {m : Int} {j i : Nat} {f : Nat → Int} {l : List UInt8} {x : Int} {k : Nat} (h : rdN m l = some (x, k)) : rt m (j + 1) i f l = rt m j (i + 1) (upd f i x) (l.drop k) := by simp [rt, h]
theorem rt_some {m : Int} (j : Nat) : ∀ (i : Nat) (f : Nat → Int) (l : List UInt8) (g : Nat → Int) (r : List UInt8), rt m j i f l = some (g, r) →
    (∀ x, x < i ∨ i + j ≤ x → g x = f x) ∧ (∀ x, i ≤ x → x < i + j → -m ≤ g x ∧ g x ≤ m) ∧ l = tabFrom g i j ++ r := by
  induction j with
  | zero =>
    intro i f l g r h
    simp [rt] at h
    obtain ⟨rfl, rfl⟩ := h
    exact ⟨fun _ _ => rfl, fun x h1 h2 => by omega, rfl⟩
  | succ j ih =>
    intro i f l g r h
    cases hd : rdN m l with
    | none => rw [rt_none hd] at h; simp at h
    | some p =>
      obtain ⟨x, k⟩ := p
      rw [rt_more hd] at h
      obtain ⟨h1, h2, h3⟩ := ih _ _ _ _ _ h
      obtain ⟨b1, b2, hk, hl⟩ := rdN_some hd
      have hi : g i = x := by rw [h1 i (by omega)]; simp [upd]
      refine ⟨fun y hy => ?_, fun y h4 h5 => ?_, ?_⟩
      · rw [h1 y (by omega)]
        simp only [upd]
        rw [if_neg (by omega)]
      · by_cases e : y = i
        · subst e; rw [hi]; exact ⟨b1, b2⟩
        · exact h2 y (by omega) (by omega)
      · rw [tabFrom, hi, List.append_assoc, ← h3]
        exact hl
theorem rt_tab {m : Int} (hm : m ≤ 1073741824) (j : Nat) : ∀ (i : Nat) (f g : Nat → Int) (r : List UInt8), (∀ x, i ≤ x → x < i + j → -m ≤ g x ∧ g x ≤ m) →
    rt m j i f (tabFrom g i j ++ r) = some ((fun x => if i ≤ x ∧ x < i + j then g x else f x), r) := by
  induction j with
  | zero =>
    intro i f g r _
    simp only [rt, tabFrom, List.nil_append, Option.some.injEq, Prod.mk.injEq, and_true]
    funext x
    rw [if_neg (by omega)]
  | succ j ih =>
    intro i f g r h
    have hb := h i (by omega) (by omega)
    rw [tabFrom, List.append_assoc, rt_more (rdN_sgL hm hb.1 hb.2 _), List.drop_left, ih _ _ _ _ (fun x h1 h2 => h x (by omega) (by omega))]
    simp only [Option.some.injEq, Prod.mk.injEq, and_true]
    funext x
    simp only [upd]
    by_cases e : x = i
    · subst e; rw [if_neg (by omega), if_pos rfl, if_pos (by omega)]
    · by_cases e2 : i + 1 ≤ x ∧ x < i + 1 + j
      · rw [if_pos e2, if_pos (by omega)]
      · rw [if_neg e2, if_neg e, if_neg (by omega)]

/-! ### a save -/
/-- What a save tells: the mark's bytes, the steps, the weights, the speeds. -/
structure Sv where
  m4 : List UInt8
  n : Nat
  w : Nat → Int
  v : Nat → Int
structure Sv.Ok (s : Sv) : Prop where
  m4 : s.m4.length = 4
  n : s.n ≤ 400
  w : ∀ x, x < 128 → -16777216 ≤ s.w x ∧ s.w x ≤ 16777216
  v : ∀ x, x < 128 → -1073741824 ≤ s.v x ∧ s.v x ≤ 1073741824
  wz : ∀ x, 128 ≤ x → s.w x = 0
  vz : ∀ x, 128 ≤ x → s.v x = 0
def headL : List UInt8 := [68, 82, 76, 49]
def numsL (n : Nat) (w v : Nat → Int) : List UInt8 := var (n : Int) ++ (tabL w 128 ++ tabL v 128)
def bodyL (s : Sv) : List UInt8 := headL ++ (s.m4 ++ numsL s.n s.w s.v)
def saveL (s : Sv) : List UInt8 := bodyL s ++ le (crc (bodyL s)) 4
def cut128 (f : Nat → Int) : Nat → Int := fun x => if x < 128 then f x else 0
theorem tabL_cut (f : Nat → Int) : tabL (cut128 f) 128 = tabL f 128 := tabFrom_congr 128 0 (fun x _ h => if_pos (by omega))
theorem saveL_cut (mk : List UInt8) (n : Nat) (w v : Nat → Int) : saveL ⟨mk, n, cut128 w, cut128 v⟩ = saveL ⟨mk, n, w, v⟩ := by
  unfold saveL bodyL numsL
  simp only [tabL_cut]
theorem cut128_same {f : Nat → Int} (h : ∀ x, 128 ≤ x → f x = 0) : cut128 f = f := by
  funext x
  unfold cut128
  split
  · rfl
  · rw [h x (by omega)]
theorem saveL_length (s : Sv) (h : s.Ok) : 12 ≤ (saveL s).length ∧ (saveL s).length ≤ 2600 := by
  have h1 := var_length (s.n : Int)
  have h2 := tabL_length s.w 128
  have h3 := tabL_length s.v 128
  have h4 := h.m4
  simp only [saveL, bodyL, numsL, headL, List.length_append, le_length, List.length_cons, List.length_nil]
  omega

/-- Reading the numbers of a save: steps, weights, speeds; what is behind them. -/
def rdNums (l : List UInt8) : Option (Nat × (Nat → Int) × (Nat → Int) × List UInt8) :=
  match rv l with
  | none => none
  | some (n, k) =>
    if 400 < n then none else
    match rt 16777216 128 0 (fun _ => 0) (l.drop k) with
    | none => none
    | some (w, r) =>
      match rt 1073741824 128 0 (fun _ => 0) r with
      | none => none
      | some (v, q) => some (n.toNat, w, v, q)
theorem rdNums_some {l : List UInt8} {n : Nat} {w v : Nat → Int} {q : List UInt8} (h : rdNums l = some (n, w, v, q)) :
    n ≤ 400 ∧ (∀ x, x < 128 → -16777216 ≤ w x ∧ w x ≤ 16777216) ∧ (∀ x, x < 128 → -1073741824 ≤ v x ∧ v x ≤ 1073741824) ∧ (∀ x, 128 ≤ x → w x = 0) ∧ (∀ x, 128 ≤ x → v x = 0) ∧ l = numsL n w v ++ q := by
  unfold rdNums at h
  cases hv : rv l with
  | none => rw [hv] at h; simp at h
  | some p =>
    obtain ⟨N, k⟩ := p
    rw [hv] at h
    simp only at h
    by_cases h4 : 400 < N
    · rw [if_pos h4] at h; simp at h
    rw [if_neg h4] at h
    cases hw : rt 16777216 128 0 (fun _ => 0) (l.drop k) with
    | none => rw [hw] at h; simp at h
    | some p =>
      obtain ⟨W, r⟩ := p
      rw [hw] at h
      simp only at h
      cases hu : rt 1073741824 128 0 (fun _ => 0) r with
      | none => rw [hu] at h; simp at h
      | some p =>
        obtain ⟨V, s⟩ := p
        rw [hu] at h
        simp only [Option.some.injEq, Prod.mk.injEq] at h
        obtain ⟨rfl, rfl, rfl, rfl⟩ := h
        obtain ⟨a1, a2, a3⟩ := rt_some 128 _ _ _ _ _ hw
        obtain ⟨b1, b2, b3⟩ := rt_some 128 _ _ _ _ _ hu
        obtain ⟨h0, _, hk, t, ht⟩ := rv_some hv
        refine ⟨by omega, fun x hx => a2 x (by omega) (by omega), fun x hx => b2 x (by omega) (by omega), fun x hx => a1 x (by omega), fun x hx => b1 x (by omega), ?_⟩
        have e : l.drop k = t := by
          conv => lhs; rw [ht]
          rw [hk, List.drop_left]
        rw [e, b3] at a3
        unfold numsL tabL
        rw [show ((N.toNat : Nat) : Int) = N by omega, List.append_assoc, List.append_assoc, ← a3]
        exact ht
theorem rdNums_nums {n : Nat} {w v : Nat → Int} (hn : n ≤ 400) (hw : ∀ x, x < 128 → -16777216 ≤ w x ∧ w x ≤ 16777216) (hv : ∀ x, x < 128 → -1073741824 ≤ v x ∧ v x ≤ 1073741824) (wz : ∀ x, 128 ≤ x → w x = 0) (vz : ∀ x, 128 ≤ x → v x = 0) (q : List UInt8) :
    rdNums (numsL n w v ++ q) = some (n, w, v, q) := by
  unfold rdNums numsL
  rw [List.append_assoc, rv_var (n : Int) _ (by omega) (by have e : (128 : Int) ^ 9 = 9223372036854775808 := by decide
                                                           omega)]
  simp only
  rw [if_neg (by omega), List.drop_left, List.append_assoc]
  have e1 := rt_tab (m := 16777216) (by decide) 128 0 (fun _ => 0) w (tabL v 128 ++ q) (fun x _ h => hw x (by omega))
  have e2 := rt_tab (m := 1073741824) (by decide) 128 0 (fun _ => 0) v q (fun x _ h => hv x (by omega))
  unfold tabL at e1 ⊢
  rw [e1]
  simp only
  rw [e2]
  simp only [Option.some.injEq, Prod.mk.injEq]
  refine ⟨by omega, ?_, ?_, trivial⟩
  · funext x
    split
    · rfl
    · rw [wz x (by omega)]
  · funext x
    split
    · rfl
    · rw [vz x (by omega)]

/-- The program's way: behind the numbers stands the sum of all before it. -/
def pRead (l : List UInt8) : Option Sv :=
  if l.length < 8 ∨ l.take 4 ≠ headL then none else
  match rdNums (l.drop 8) with
  | none => none
  | some (n, w, v, q) => if le (crc (l.take (l.length - q.length))) 4 = q then some ⟨(l.drop 4).take 4, n, w, v⟩ else none
/-- The document's way: the sum of all but the last four bytes first. -/
def dRead (l : List UInt8) : Option Sv :=
  if l.length < 12 ∨ l.take 4 ≠ headL ∨ le (crc (l.take (l.length - 4))) 4 ≠ l.drop (l.length - 4) then none else
  match rdNums ((l.take (l.length - 4)).drop 8) with
  | none => none
  | some (n, w, v, q) => if q = [] then some ⟨(l.drop 4).take 4, n, w, v⟩ else none
theorem parts8 {l : List UInt8} (h4 : l.take 4 = headL) : l = headL ++ ((l.drop 4).take 4 ++ l.drop 8) := by
  rw [← h4, show l.drop 8 = (l.drop 4).drop 4 by rw [List.drop_drop], List.take_append_drop, List.take_append_drop]
theorem pRead_some {l : List UInt8} {s : Sv} (h : pRead l = some s) : s.Ok ∧ l = saveL s := by
  unfold pRead at h
  by_cases h1 : l.length < 8 ∨ l.take 4 ≠ headL
  · rw [if_pos h1] at h; simp at h
  rw [if_neg h1] at h
  have h8 : 8 ≤ l.length := by
    rcases Nat.lt_or_ge l.length 8 with h | h
    · exact absurd (.inl h) h1
    · exact h
  have hh : l.take 4 = headL := Classical.byContradiction fun h => h1 (.inr h)
  cases hn : rdNums (l.drop 8) with
  | none => rw [hn] at h; simp at h
  | some p =>
    obtain ⟨n, w, v, q⟩ := p
    rw [hn] at h
    simp only at h
    by_cases hc : le (crc (l.take (l.length - q.length))) 4 = q
    · rw [if_pos hc] at h
      simp only [Option.some.injEq] at h
      subst h
      obtain ⟨a1, a2, a3, a4, a5, a6⟩ := rdNums_some hn
      have hq : q.length = 4 := by rw [← hc, le_length]
      refine ⟨⟨by simp; omega, a1, a2, a3, a4, a5⟩, ?_⟩
      have e := parts8 hh
      rw [a6] at e
      have e2 : l = bodyL ⟨(l.drop 4).take 4, n, w, v⟩ ++ q := by
        unfold bodyL
        simp only [List.append_assoc]
        exact e
      have e3 : ∀ b : List UInt8, l = b ++ q → l.take (l.length - q.length) = b := fun b hb => by
        subst hb
        rw [List.length_append, Nat.add_sub_cancel, List.take_left]
      rw [e3 _ e2] at hc
      unfold saveL
      rw [hc]
      exact e2
    · rw [if_neg hc] at h; simp at h
theorem save_head (s : Sv) (h : s.Ok) (r : List UInt8) : (bodyL s ++ r).take 4 = headL ∧ ((bodyL s ++ r).drop 4).take 4 = s.m4 ∧ (bodyL s ++ r).drop 8 = numsL s.n s.w s.v ++ r := by
  have hm := h.m4
  unfold bodyL
  have e4 : ∀ z : List UInt8, (headL ++ z).drop 4 = z := fun z => by
    rw [show (4 : Nat) = headL.length from rfl, List.drop_left]
  refine ⟨?_, ?_, ?_⟩
  · rw [List.append_assoc, show (4 : Nat) = headL.length from rfl, List.take_left]
  · rw [List.append_assoc, e4, List.append_assoc, ← hm, List.take_left]
  · rw [show (8 : Nat) = 4 + 4 from rfl, ← List.drop_drop, List.append_assoc, e4, List.append_assoc]
    conv => lhs; rw [← hm]
    rw [List.drop_left]
theorem bodyL_length (s : Sv) (h : s.Ok) : 9 ≤ (bodyL s).length := by
  have h1 := var_length (s.n : Int)
  have h4 := h.m4
  simp only [bodyL, numsL, headL, List.length_append, List.length_cons, List.length_nil]
  omega
theorem pRead_save {s : Sv} (h : s.Ok) : pRead (saveL s) = some s := by
  obtain ⟨e1, e2, e3⟩ := save_head s h (le (crc (bodyL s)) 4)
  have hl := bodyL_length s h
  unfold pRead saveL
  rw [if_neg (by rw [e1, List.length_append, le_length]; simp; omega), e3, rdNums_nums h.n h.w h.v h.wz h.vz]
  simp only
  rw [List.length_append, Nat.add_sub_cancel, List.take_left, if_pos rfl, e2]
theorem dRead_save {s : Sv} (h : s.Ok) : dRead (saveL s) = some s := by
  obtain ⟨e1, e2, e3⟩ := save_head s h (le (crc (bodyL s)) 4)
  obtain ⟨_, _, e5⟩ := save_head s h []
  have hl := bodyL_length s h
  unfold dRead saveL
  rw [List.append_nil] at e5
  rw [List.length_append, le_length, Nat.add_sub_cancel, List.take_left, List.drop_left, if_neg (by rw [e1]; simp; omega), e5, rdNums_nums h.n h.w h.v h.wz h.vz]
  simp only
  rw [if_pos trivial, e2]
theorem dRead_some {l : List UInt8} {s : Sv} (h : dRead l = some s) : s.Ok ∧ l = saveL s := by
  unfold dRead at h
  by_cases h1 : l.length < 12 ∨ l.take 4 ≠ headL ∨ le (crc (l.take (l.length - 4))) 4 ≠ l.drop (l.length - 4)
  · rw [if_pos h1] at h; simp at h
  rw [if_neg h1] at h
  have h8 : 12 ≤ l.length := by
    rcases Nat.lt_or_ge l.length 12 with h | h
    · exact absurd (.inl h) h1
    · exact h
  have hh : l.take 4 = headL := Classical.byContradiction fun h => h1 (.inr (.inl h))
  have hc : le (crc (l.take (l.length - 4))) 4 = l.drop (l.length - 4) := Classical.byContradiction fun h => h1 (.inr (.inr h))
  cases hn : rdNums ((l.take (l.length - 4)).drop 8) with
  | none => rw [hn] at h; simp at h
  | some p =>
    obtain ⟨n, w, v, q⟩ := p
    rw [hn] at h
    simp only at h
    by_cases hq : q = []
    · rw [if_pos hq] at h
      simp only [Option.some.injEq] at h
      subst h
      subst hq
      obtain ⟨a1, a2, a3, a4, a5, a6⟩ := rdNums_some hn
      refine ⟨⟨by simp; omega, a1, a2, a3, a4, a5⟩, ?_⟩
      have t4 : (l.take (l.length - 4)).take 4 = l.take 4 := by rw [List.take_take, Nat.min_eq_left (by omega)]
      have d4 : ((l.take (l.length - 4)).drop 4).take 4 = (l.drop 4).take 4 := by
        rw [List.drop_take, List.take_take, Nat.min_eq_left (by omega)]
      have e := parts8 (l := l.take (l.length - 4)) (by rw [t4]; exact hh)
      rw [a6, d4, List.append_nil] at e
      have e3 : l.take (l.length - 4) = bodyL ⟨(l.drop 4).take 4, n, w, v⟩ := e
      have e5 : saveL ⟨(l.drop 4).take 4, n, w, v⟩ = l.take (l.length - 4) ++ l.drop (l.length - 4) := by
        unfold saveL
        rw [← e3, hc]
      rw [e5, List.take_append_drop]
    · rw [if_neg hq] at h; simp at h
/-- Both ways read the same. -/
theorem read_same (l : List UInt8) : dRead l = pRead l := by
  cases hp : pRead l with
  | some s =>
    obtain ⟨h, rfl⟩ := pRead_some hp
    exact dRead_save h
  | none =>
    cases hd : dRead l with
    | none => rfl
    | some s =>
      obtain ⟨h, rfl⟩ := dRead_some hd
      rw [pRead_save h] at hp
      simp at hp
end Go.Proofs.YtfpodnleimhohabGreatDoor

/-
  WALKS: the mark of a run (the program's).
-/
namespace Go.Proofs.YtfpodnleimhohabGreatDoor
open Go.RowKit
set_option linter.unusedVariables false

theorem le8 (a : Int) : le (a % 4294967296) 4 ++ le (a / 4294967296) 4 = le a 8 := by
  have e0 : a % 4294967296 % 256 = a % 256 := by omega
  have e1 : a % 4294967296 / 256 % 256 = a / 256 % 256 := by omega
  have e2 : a % 4294967296 / 256 / 256 % 256 = a / 256 / 256 % 256 := by omega
  have e3 : a % 4294967296 / 256 / 256 / 256 % 256 = a / 256 / 256 / 256 % 256 := by omega
  have e4 : a / 4294967296 = a / 256 / 256 / 256 / 256 := by omega
  simp only [le, List.cons_append, List.nil_append, e0, e1, e2, e3]
  rw [e4]
theorem mark_bytes {cf : Cf} {s A B C D E F : ByteArray} (hA : bs (le ((cf.seed : Int) % 4294967296) 4) = A) (hB : bs (le ((cf.seed : Int) / 4294967296) 4) = B) (hC : bs [by8 (cf.batch : Int)] = C) (hD : bs (le (cf.rate : Int) 4) = D) (hE : bs (le (cf.mom : Int) 4) = E) (hF : bs [by8 (cf.decay : Int)] = F) :
    ls (A ++ B ++ C ++ D ++ E ++ F ++ s) = markL cf (ls s) := by
  simp only [ls_append, ← hA, ← hB, ← hC, ← hD, ← hE, ← hF, ls_bs]
  unfold markL
  rw [← le8]
  simp

set_option maxRecDepth 100000 in
set_option maxHeartbeats 2000000 in
theorem progMark_any (cf : Cf) (hcf : cf.Ok) (s : ByteArray) (hs : s.size ≤ 600) (w : World) :
    Calls Tryz.prog 14 #[.agg #[.int .u64 cf.seed, .int .u8 cf.batch, .int .i32 cf.rate, .int .i32 cf.mom, .int .u8 cf.decay], .string s] w fun e w' => e = .returned (.string (markB cf s)) ∧ Below w.heap.size w w' := by
  have kc := conv1
  obtain ⟨A, HA, hAz⟩ : ∃ A, Hid (bs (le ((cf.seed : Int) % 4294967296) 4) = A) ∧ A.size = 4 := ⟨_, (rfl : _ = _), by rw [bs_size, le_length]⟩
  obtain ⟨B, HB, hBz⟩ : ∃ B, Hid (bs (le ((cf.seed : Int) / 4294967296) 4) = B) ∧ B.size = 4 := ⟨_, (rfl : _ = _), by rw [bs_size, le_length]⟩
  obtain ⟨C, HC, hCz⟩ : ∃ C, Hid (bs [by8 (cf.batch : Int)] = C) ∧ C.size = 1 := ⟨_, (rfl : _ = _), by rw [bs_size]; rfl⟩
  obtain ⟨D, HD, hDz⟩ : ∃ D, Hid (bs (le (cf.rate : Int) 4) = D) ∧ D.size = 4 := ⟨_, (rfl : _ = _), by rw [bs_size, le_length]⟩
  obtain ⟨E, HE, hEz⟩ : ∃ E, Hid (bs (le (cf.mom : Int) 4) = E) ∧ E.size = 4 := ⟨_, (rfl : _ = _), by rw [bs_size, le_length]⟩
  obtain ⟨F, HF, hFz⟩ : ∃ F, Hid (bs [by8 (cf.decay : Int)] = F) ∧ F.size = 1 := ⟨_, (rfl : _ = _), by rw [bs_size]; rfl⟩
  have HM : Hid (markB cf s = bs (le (crc (ls (A ++ B ++ C ++ D ++ E ++ F ++ s))) 4)) := by
    show _ = _
    rw [mark_bytes HA.out HB.out HC.out HD.out HE.out HF.out]
    rfl
  rw [HM.out]
  have hsd := hcf.seed
  have hbt := hcf.batch8
  have hra := hcf.rate
  have hmo := hcf.mom
  have hde := hcf.decay
  obtain ⟨sd, bt, ra, mo, de⟩ := cf
  simp only at *
  clear HM
  go_enter Tryz.func14, Tryz.ntmps14
  go_wp2_with fail
  obtain ⟨w0, Hw0⟩ : ∃ w0, Hid (w.alloc (.cells #[.int .u64 sd, .int .u8 bt, .int .i32 ra, .int .i32 mo, .int .u8 de] 24) = w0) := ⟨_, (rfl : _ = _)⟩
  rw [Hw0.out]
  have HB0 : Hid (Below w.heap.size w w0) := by rw [← Hw0.out]; exact (Below.refl _ _).alloc (Nat.le_refl _) _
  have HC0 : Hid (CellsAt w0 w.heap.size 24 [.int .u64 sd, .int .u8 bt, .int .i32 ra, .int .i32 mo, .int .u8 de]) := by rw [← Hw0.out]; exact CellsAt.new w _ _ _ rfl rfl
  clear Hw0
  refine (lowFirst_any _ (by omega) (by omega) _).mono ?_
  rintro e w1 ⟨rfl, hb1⟩
  rw [HA.out]
  have HB1 : Hid (Below w.heap.size w w1) := HB0.out.trans (hb1.mono HB0.out.size)
  have HC1 : Hid (CellsAt w1 w.heap.size 24 [.int .u64 sd, .int .u8 bt, .int .i32 ra, .int .i32 mo, .int .u8 de]) := CellsAt.later HC0.out hb1
  clear hb1 HB0 HC0
  have c0 := CellsAt.cell HC1.out 0
  simp only [List.getElem?_cons_zero] at c0
  go_wp2_with fail
  refine (lowFirst_any _ (by omega) (by omega) _).mono ?_
  rintro e w2 ⟨rfl, hb2⟩
  rw [HB.out]
  have HB2 : Hid (Below w.heap.size w w2) := HB1.out.trans (hb2.mono HB1.out.size)
  have HC2 : Hid (CellsAt w2 w.heap.size 24 [.int .u64 sd, .int .u8 bt, .int .i32 ra, .int .i32 mo, .int .u8 de]) := CellsAt.later HC1.out hb2
  clear hb2 HB1 HC1 c0
  have hz2 := CellsAt.lt HC2.out
  have c1 := CellsAt.cell HC2.out 1
  have c2 := CellsAt.cell HC2.out 2
  simp only [List.getElem?_cons_zero, List.getElem?_cons_succ] at c1 c2
  go_wp2_with fail
  rw [HC.out]
  have HB3 : Hid (Below w.heap.size w (w2.alloc (.cells #[.int .u8 bt] 5))) := HB2.out.alloc HB2.out.size _
  have HC3 : Hid (CellsAt (w2.alloc (.cells #[.int .u8 bt] 5)) w.heap.size 24 [.int .u64 sd, .int .u8 bt, .int .i32 ra, .int .i32 mo, .int .u8 de]) := CellsAt.alloc HC2.out _
  generalize w2.alloc (.cells #[.int .u8 bt] 5) = w3 at *
  clear HB2 HC2 c1 c2 hz2
  refine (lowFirst_any _ (by omega) (by omega) _).mono ?_
  rintro e w4 ⟨rfl, hb4⟩
  rw [HD.out]
  have HB4 : Hid (Below w.heap.size w w4) := HB3.out.trans (hb4.mono HB3.out.size)
  have HC4 : Hid (CellsAt w4 w.heap.size 24 [.int .u64 sd, .int .u8 bt, .int .i32 ra, .int .i32 mo, .int .u8 de]) := CellsAt.later HC3.out hb4
  clear hb4 HB3 HC3
  have c3 := CellsAt.cell HC4.out 3
  simp only [List.getElem?_cons_zero, List.getElem?_cons_succ] at c3
  go_wp2_with fail
  refine (lowFirst_any _ (by omega) (by omega) _).mono ?_
  rintro e w5 ⟨rfl, hb5⟩
  rw [HE.out]
  have HB5 : Hid (Below w.heap.size w w5) := HB4.out.trans (hb5.mono HB4.out.size)
  have HC5 : Hid (CellsAt w5 w.heap.size 24 [.int .u64 sd, .int .u8 bt, .int .i32 ra, .int .i32 mo, .int .u8 de]) := CellsAt.later HC4.out hb5
  clear hb5 HB4 HC4 c3
  have c4 := CellsAt.cell HC5.out 4
  simp only [List.getElem?_cons_zero, List.getElem?_cons_succ] at c4
  have q1 : (A ++ B).size = 8 := by rw [ByteArray.size_append]; omega
  have q2 : (A ++ B ++ C).size = 9 := by rw [ByteArray.size_append]; omega
  have q3 : (A ++ B ++ C ++ D).size = 13 := by rw [ByteArray.size_append]; omega
  have q4 : (A ++ B ++ C ++ D ++ E).size = 17 := by rw [ByteArray.size_append]; omega
  have q5 : (A ++ B ++ C ++ D ++ E ++ F).size = 18 := by rw [ByteArray.size_append]; omega
  have q6 : (A ++ B ++ C ++ D ++ E ++ F ++ s).size = 18 + s.size := by rw [ByteArray.size_append]; omega
  have kf : ∀ (w : World) (g : Nat), g = w.heap.size → _ := fun w g hg => HF.out ▸ conv1 w g hg (de : Int)
  clear kc
  go_wp2_with fail
  have HB6 : Hid (Below w.heap.size w (w5.alloc (.cells #[.int .u8 de] 5))) := HB5.out.alloc HB5.out.size _
  generalize w5.alloc (.cells #[.int .u8 de] 5) = w6 at *
  refine (sumBytes_any _ (by unfold maxLen; omega) _).mono ?_
  rintro e w7 ⟨rfl, hb7⟩
  have HB7 : Hid (Below w.heap.size w w7) := HB6.out.trans (hb7.mono HB6.out.size)
  clear hb7 HB6 HB5 HC5
  go_wp2
  go_ret
  exact ⟨rfl, HB7.out⟩
end Go.Proofs.YtfpodnleimhohabGreatDoor

/-
  ARRAYS: a part of a block written at once.
-/
namespace Go.Proofs.YtfpodnleimhohabGreatDoor
open Go.RowKit
set_option linter.unusedVariables false

theorem CellsAt.sets {g : Nat} {t : TypeId} (vs : List Value) : ∀ {w : World} (A B C : List Value), B.length = vs.length → CellsAt w g t (A ++ (B ++ C)) → CellsAt (w.setCells g A.length vs) g t (A ++ (vs ++ C)) := by
  induction vs with
  | nil =>
    intro w A B C hl h
    have : B = [] := List.eq_nil_of_length_eq_zero hl
    subst this
    exact h
  | cons v r ih =>
    intro w A B C hl h
    cases B with
    | nil => simp at hl
    | cons b B =>
      have hl' : B.length = r.length := by simpa using hl
      have h1 := h.set A.length v
      rw [List.set_append_right _ _ (Nat.le_refl _), Nat.sub_self] at h1
      have h2 : CellsAt (w.setCell ⟨g, A.length, none⟩ v) g t ((A ++ [v]) ++ (B ++ C)) := by
        rw [List.append_assoc]
        exact h1
      have h3 := ih (A ++ [v]) B C hl' h2
      rw [List.length_append, List.append_assoc] at h3
      exact h3
theorem below_sets {B : Nat} {a w : World} {b : Nat} (h : Below B a w) (hb : B ≤ b) (o : Nat) (vs : List Value) : Below B a (w.setCells b o vs) := below_setCells hb vs o h
theorem CellsAt.thereAt {w : World} {g : Nat} {t : TypeId} {c : List Value} (h : CellsAt w g t c) (o n : Nat) (hn : o + n ≤ c.length) : w.there g o n := fun j hj => by
  rw [h.cell]
  exact ⟨by rw [List.getElem?_eq_getElem (by omega)]; rfl, h.frozen _⟩
theorem CellsAt.rangeAt {w : World} {g : Nat} {t : TypeId} {A B C : List Value} (h : CellsAt w g t (A ++ (B ++ C))) : w.rangeAt g A.length B := fun j v hv => by
  have hj : j < B.length := (List.getElem?_eq_some_iff.1 hv).1
  rw [h.cell, List.getElem?_append_right (by omega), List.getElem?_append_left (by omega), show A.length + j - A.length = j by omega]
  exact hv

theorem wp_store_new {P : Program} {op : Oper} {a : Act} {w : World} {K : Act → World → Prop} {Q : Exit → Act → World → Prop} (ty : TypeId) (x y : Operand) (ho : op.op = .store ty x y)
    (c : Array Value) (cs : List Value) (hx : a.eval x = .pointer (some ⟨w.heap.size, 0, none⟩)) (hy : a.eval y = .agg cs.toArray)
    (hi : (P.info? ty).map (·.size) = some cs.length) (hc : c.size = cs.length) (h1 : ∀ u ∈ cs, u.oneCell' = true)
    (h : K (a.put op.dst undef) (w.alloc (.cells cs.toArray ty))) : op.wp P a (w.alloc (.cells c ty)) K Q := by
  unfold Oper.wp execOp
  simp only [ho, hx, hy, Instr.storeAt, Instr.sureAddr, Sem.run_bind, Sem.run_pure, Result.andThen_ok, run_storeVar_new (P := P) w ty c cs.toArray (by rw [List.size_toArray]; exact hi) (by rw [List.size_toArray]; exact hc) (all_oneCell_toArray h1)]
  exact h
theorem spared_sets (g : Nat) (vs : List Value) : ∀ (o : Nat) (w : World), Spared w (w.setCells g o vs) (fun j => j = g) := by
  induction vs with
  | nil => intro o w; exact Spared.of_below (Below.refl _ _) _
  | cons v r ih =>
    intro o w
    rw [World.setCells]
    exact (Spared.of_set w g o v).trans (ih (o + 1) _) (fun _ _ h => h)
/-! ### a struct built out of its fields, some of them long -/
theorem fold_set (off : Nat) (cs : List Value) : ∀ (pre mid post : List Value) (k : Nat), mid.length = cs.length → pre.length = off + k →
    (cs.zipIdx k).foldl (fun (acc : Array Value) (p : Value × Nat) => acc.setIfInBounds (off + p.2) p.1) (pre ++ (mid ++ post)).toArray = (pre ++ (cs ++ post)).toArray := by
  induction cs with
  | nil =>
    intro pre mid post k hm hk
    have : mid = [] := List.eq_nil_of_length_eq_zero hm
    subst this
    rfl
  | cons c cs ih =>
    intro pre mid post k hm hk
    cases mid with
    | nil => simp at hm
    | cons m mid =>
      have hm' : mid.length = cs.length := by simpa using hm
      rw [List.zipIdx_cons, List.foldl_cons, List.setIfInBounds_toArray, ← hk]
      have e : (pre ++ (m :: mid ++ post)).set pre.length c = (pre ++ [c]) ++ (mid ++ post) := by
        rw [List.set_append_right _ _ (Nat.le_refl _), Nat.sub_self]
        simp
      rw [e, ih (pre ++ [c]) mid post (k + 1) hm' (by rw [List.length_append, List.length_singleton]; omega)]
      simp
/-- .. as the walk prints it: at the beginning, at a place. -/
theorem fold_at (n : Nat) (cs pre mid post : List Value) (z : Array Value) (hz : z = (pre ++ (mid ++ post)).toArray) (hm : mid.length = cs.length) (hn : pre.length = n) :
    cs.zipIdx.foldl (fun (acc : Array Value) (p : Value × Nat) => acc.setIfInBounds (n + p.2) p.1) z = (pre ++ (cs ++ post)).toArray := by
  rw [hz]
  exact fold_set n cs pre mid post 0 hm (by omega)
theorem fold_at0 (cs mid post : List Value) (z : Array Value) (hz : z = (mid ++ post).toArray) (hm : mid.length = cs.length) :
    cs.zipIdx.foldl (fun (acc : Array Value) (p : Value × Nat) => acc.setIfInBounds p.2 p.1) z = (cs ++ post).toArray := by
  have h := fold_at 0 cs [] mid post z hz hm rfl
  simp only [Nat.zero_add, List.nil_append] at h
  exact h
theorem fill_put {place : Nat → Option (Nat × Nat)} {i off : Nat} {v : Value} {cs : List Value} (pre mid post : List Value) {rest : List (Nat × Value)} (hp : place i = some (off, cs.length)) (ho : pre.length = off) (hv : v.cells = cs.toArray) (hm : mid.length = cs.length) :
    Instr.fill place (pre ++ (mid ++ post)).toArray ((i, v) :: rest) = Instr.fill place (pre ++ (cs ++ post)).toArray rest := by
  have h := fold_set off cs pre mid post 0 hm (by omega)
  simp only [Instr.fill, hp, hv]
  rw [if_neg (by simp; omega)]
  congr 1
  rw [← Array.foldl_toList, Array.toList_zipIdx]
  exact h
theorem built_of {P : Program} {t : TypeId} {z : Array Value} {places : List (Nat × Nat)} (hz : (P.info? t).bind (·.zero) = some (.agg z))
    (hp : ((P.underlying t).bind fun d => match d with | .struct fields => fields.toList.mapM (fun f => (P.info? f.type).map fun i => (f.offset, i.size)) | _ => none) = some places) (parts : List (Nat × Value)) :
    P.built t parts = Instr.fill (places.toArray[·]?) z parts := by
  unfold Program.built
  cases hi : P.info? t with
  | none => simp [hi] at hz
  | some it =>
    cases hu : P.underlying t with
    | none => simp [hu] at hp
    | some d =>
      cases d with
      | struct fields =>
        simp only [hu, Option.bind_some] at hp
        simp only [hi, Option.bind_some] at hz
        simp only [hz, hp]
        rfl
      | _ => simp [hu] at hp
/-- .. in a region that draws its order. -/
theorem yieldsIf_build {P : Program} {ops : Array Oper} {S : World → Prop} {op : Oper} {a : Act} (hw : Region.wanted op (yielded ops a.tmps) = true) (t : TypeId) (parts : Array (Nat × Operand)) (ho : op.op = .build t parts)
    (vs : List (Nat × Value)) (hv : (parts.toList.map fun (p : Nat × Operand) => (p.1, a.eval p.2)) = vs) (cells : Array Value) (hb : P.built t vs = some cells) : YieldsIf P ops S op (.agg cells) a :=
  .inl ⟨hw, fun w _ => by
    have hb' : P.built t (parts.map fun (i, x) => (i, a.eval x)).toList = some cells := by rw [Array.toList_map]; rw [← hv] at hb; exact hb
    unfold execOp
    simp only [ho, Sem.run_bind, run_build w t _ cells hb', Result.andThen_ok]
    rfl⟩
theorem wpList_buildL {P : Program} {ops : Array Oper} {rest : List Oper} {o : Oper} {a : Act} {w : World} {Q : Exit → Act → World → Prop} (hg : o.guard = none) (t : TypeId) (parts : Array (Nat × Operand)) (ho : o.op = .build t parts)
    (d : Option Tmp) (hd : o.dst = d) (vs : List (Nat × Value)) (hv : (parts.toList.map fun (p : Nat × Operand) => (p.1, a.eval p.2)) = vs) (cells : Array Value) (hb : P.built t vs = some cells)
    (h : wpList P ops Q rest (a.put d (.agg cells)) w) : wpList P ops Q (o :: rest) a w :=
  wpList_buildTo hg t parts ho d hd cells (by rw [Array.toList_map]; rw [← hv] at hb; exact hb) h
end Go.Proofs.YtfpodnleimhohabGreatDoor
