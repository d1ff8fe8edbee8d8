/-
  PLAIN MATHEMATICS: what comes of a step: workers, epochs, weights that are held.
-/
import Derived.Test.YtfpodnleimhohabMathL
namespace Go.Proofs.Ytfpodnleimhohab

/-! ### workers -/
theorem missedN_split (c : Cf) (X : List Ex) (s : St) (p q : Nat) (h : p ≤ q) : missedN c X s 0 q = missedN c X s 0 p + missedN c X s p q := by
  induction q with
  | zero => obtain rfl : p = 0 := by omega
            simp [missedN]
  | succ q ih =>
    by_cases e : p = q + 1
    · subst e
      have : ∀ m, m ≤ q + 1 → missedN c X s (q + 1) m = 0 := by
        intro m
        induction m with
        | zero => intro _; rfl
        | succ m im =>
          intro hm
          simp only [missedN]
          rw [im (by omega), if_neg (fun h => by omega)]
      rw [this _ (Nat.le_refl _)]; omega
    · simp only [missedN]
      rw [ih (by omega)]
      by_cases hm : missN s.w (rowN c X (s.steps * c.batch + q)) = true
      · rw [if_pos ⟨by omega, hm⟩, if_pos ⟨by omega, hm⟩]; omega
      · rw [if_neg (fun h => hm h.2), if_neg (fun h => hm h.2)]; omega
/-- How many rows a worker has. -/
theorem missedN_le (c : Cf) (X : List Ex) (s : St) (p q : Nat) (h : p ≤ q) : missedN c X s p q ≤ q - p := by
  induction q with
  | zero => simp [missedN]
  | succ q ih =>
    simp only [missedN]
    by_cases e : p = q + 1
    · subst e
      have : ∀ m, m ≤ q → missedN c X s (q + 1) m = 0 := by
        intro m
        induction m with
        | zero => intro _; rfl
        | succ m im => intro hm; simp only [missedN]; rw [im (by omega), if_neg (fun h => by omega)]
      rw [this _ (Nat.le_refl _), if_neg (fun h => by omega)]; omega
    · have := ih (by omega)
      split <;> omega
def sumNat (f : Nat → Nat) : Nat → Nat
  | 0 => 0
  | k + 1 => sumNat f k + f k
theorem part_le (B W k : Nat) : k * B / W ≤ (k + 1) * B / W := Nat.div_le_div_right (Nat.mul_le_mul_right _ (by omega))
theorem workers_sum (c : Cf) (X : List Ex) (s : St) (W : Nat) : ∀ k, k ≤ W → sumNat (workN c X s W) k = missedN c X s 0 (k * c.batch / W) := by
  intro k
  induction k with
  | zero => intro _; simp [sumNat, missedN]
  | succ k ih =>
    intro hk
    simp only [sumNat]
    rw [ih (by omega), missedN_split c X s (k * c.batch / W) ((k + 1) * c.batch / W) (part_le _ _ _)]
    rfl
/-- As many rows miss, in how many workers the step may be cut. -/
theorem workers_all (c : Cf) (X : List Ex) (s : St) {W : Nat} (hW : 1 ≤ W) : sumNat (workN c X s W) W = missedN c X s 0 c.batch := by
  rw [workers_sum c X s W W (Nat.le_refl _), Nat.mul_div_cancel_left _ (by omega)]
theorem workN_le (c : Cf) (X : List Ex) (s : St) (W k : Nat) : workN c X s W k ≤ (k + 1) * c.batch / W - k * c.batch / W := missedN_le c X s _ _ (part_le _ _ _)

/-! ### epochs -/
/-- Each epoch draws each record once. -/
theorem epoch_inj (c : Cf) {n e i j : Nat} (hn : 1 ≤ n) (hn2 : n ≤ 65536) (hi : i < n) (hj : j < n) (h : drawN c n (e * n + i) = drawN c n (e * n + j)) : i = j := by
  unfold drawN at h
  have e1 : ∀ k, k < n → (e * n + k) / n = e := fun k hk => by
    rw [Nat.mul_comm, Nat.mul_add_div (by omega), Nat.div_eq_of_lt hk]; rfl
  have e2 : ∀ k, k < n → (e * n + k) % n = k := fun k hk => by
    rw [Nat.mul_comm, Nat.mul_add_mod, Nat.mod_eq_of_lt hk]
  rw [e1 i hi, e1 j hj, e2 i hi, e2 j hj] at h
  exact (place_perm _ hn2).inj i j hi hj h

/-! ### steps -/
/-- A run after so many steps. -/
def runN (c : Cf) (X : List Ex) : Nat → St
  | 0 => St.zero
  | k + 1 => stepN c X (runN c X k)
theorem runN_steps (c : Cf) (X : List Ex) (k : Nat) : (runN c X k).steps = k := by
  induction k with
  | zero => rfl
  | succ k ih => show (runN c X k).steps + 1 = _; rw [ih]
theorem runN_ok (c : Cf) (X : List Ex) (k : Nat) (hk : k ≤ 400) : (runN c X k).Ok := by
  cases k with
  | zero => exact St.zero_ok
  | succ k => exact stepN_ok c X _ (by rw [runN_steps]; omega)
theorem score_zero (n : Nat → Nat) (w : Tab) (c : Nat) (h : ∀ b, w c b = 0) : scoreN n w c = 0 := by
  unfold scoreN
  have : ∀ k, sumTo (fun b => (n b : Int) * w c b) k = 0 := by
    intro k
    induction k with
    | zero => rfl
    | succ k ih => simp only [sumTo]; rw [ih, h]; omega
  exact this 32
/-- With the rate 0 the weights stay 0, and each row misses. -/
theorem still (c : Cf) (X : List Ex) (hr : c.rate = 0) (k : Nat) : (∀ a b, (runN c X k).w a b = 0) ∧ (∀ a b, (runN c X k).v a b = 0) := by
  induction k with
  | zero => exact ⟨fun _ _ => rfl, fun _ _ => rfl⟩
  | succ k ih =>
    have hv : ∀ a b, (runN c X (k + 1)).v a b = 0 := by
      intro a b
      show speedN c ((runN c X k).v a b) _ = 0
      rw [ih.2 a b]
      unfold speedN
      rw [hr]
      simp [clamp]
    refine ⟨fun a b => ?_, hv⟩
    show weightN c ((runN c X k).w a b) ((runN c X (k + 1)).v a b) = 0
    rw [ih.1 a b, hv a b]
    unfold weightN
    split <;> simp [clamp]
theorem still_miss (w : Tab) (x : Ex) (h : ∀ a b, w a b = 0) : missN w x = true := by
  unfold missN
  rw [score_zero _ _ _ (h _), score_zero _ _ _ (h _)]; decide
theorem still_all (c : Cf) (X : List Ex) (s : St) (h : ∀ a b, s.w a b = 0) : ∀ q, missedN c X s 0 q = q := by
  intro q
  induction q with
  | zero => rfl
  | succ q ih => simp only [missedN]; rw [ih, if_pos ⟨by omega, still_miss _ _ h⟩]

/-! ### the sum over the classes -/
def sum4 (f : Nat → Int) : Int := f 0 + f 1 + f 2 + f 3
theorem sum4_if (k : Nat) (hk : k < 4) (z : Int) : sum4 (fun a => if a = k then z else 0) = z := by
  have : k = 0 ∨ k = 1 ∨ k = 2 ∨ k = 3 := by omega
  rcases this with rfl | rfl | rfl | rfl <;> simp [sum4]
theorem add_sum4 (w : Tab) (x : Ex) (hx : x.1 < 4) (g : Tab) (b : Nat) : sum4 (fun a => addN w x g a b) = sum4 (fun a => g a b) := by
  have h1 := sum4_if x.1 hx (countsN x.2 b : Int)
  have h2 := sum4_if (rivalN w x) (bestN_lt _ _) (countsN x.2 b : Int)
  simp only [sum4] at h1 h2 ⊢
  simp only [addN]
  by_cases hm : missN w x = true
  · simp only [hm, if_true]
    generalize (if 0 = x.1 then (countsN x.2 b : Int) else 0) = p0 at *
    generalize (if 1 = x.1 then (countsN x.2 b : Int) else 0) = p1 at *
    generalize (if 2 = x.1 then (countsN x.2 b : Int) else 0) = p2 at *
    generalize (if 3 = x.1 then (countsN x.2 b : Int) else 0) = p3 at *
    generalize (if 0 = rivalN w x then (countsN x.2 b : Int) else 0) = q0 at *
    generalize (if 1 = rivalN w x then (countsN x.2 b : Int) else 0) = q1 at *
    generalize (if 2 = rivalN w x then (countsN x.2 b : Int) else 0) = q2 at *
    generalize (if 3 = rivalN w x then (countsN x.2 b : Int) else 0) = q3 at *
    omega
  · simp only [hm]; simp
theorem grad_sum4 (c : Cf) (X : List Ex) (hX : ∀ x ∈ X, x.1 < 4) (s : St) (k b : Nat) : sum4 (fun a => gradN c X s k a b) = 0 := by
  induction k with
  | zero => simp [sum4, gradN]
  | succ k ih =>
    simp only [gradN]
    rw [add_sum4 _ _ ?_ _ b]
    · exact ih
    · unfold rowN
      rw [List.getD_eq_getElem?_getD]
      cases h : X[drawN c X.length (s.steps * c.batch + k)]? with
      | none => simp
      | some x => simpa using hX x (List.mem_of_getElem? h)
/-- Without momentum and decay, with a rate that 64 divides: those of a bucket add up to 0 over the classes. -/
theorem even_sum (c : Cf) (X : List Ex) (hX : ∀ x ∈ X, x.1 < 4) (r : Nat) (hr : c.rate = 64 * r) (hr2 : c.rate ≤ 65536) (hm : c.mom = 0) (hd : c.decay = 0) (hb8 : c.batch ≤ 8) :
    ∀ k, k ≤ 30 → (∀ b, sum4 (fun a => (runN c X k).w a b) = 0) ∧ (∀ a b, -(57344 * k : Int) ≤ (runN c X k).w a b ∧ (runN c X k).w a b ≤ 57344 * k) := by
  intro k
  induction k with
  | zero => intro _; exact ⟨fun b => by simp [sum4, runN, St.zero], fun a b => by simp [runN, St.zero]⟩
  | succ k ih =>
    intro hk
    obtain ⟨i1, i2⟩ := ih (by omega)
    have hg : ∀ a b, -56 ≤ gradN c X (runN c X k) c.batch a b ∧ gradN c X (runN c X k) c.batch a b ≤ 56 := fun a b => by
      have := gradN_le c X (runN c X k) c.batch a b
      omega
    have hrr : r ≤ 1024 := by omega
    have hgr : ∀ a b, -57344 ≤ gradN c X (runN c X k) c.batch a b * r ∧ gradN c X (runN c X k) c.batch a b * r ≤ 57344 := fun a b => by
      obtain ⟨h1, h2⟩ := hg a b
      generalize gradN c X (runN c X k) c.batch a b = g at *
      have h0 : (0 : Int) ≤ r := by omega
      have e1 : g * r ≤ 56 * r := Int.mul_le_mul_of_nonneg_right h2 h0
      have e2 : -56 * (r : Int) ≤ g * r := Int.mul_le_mul_of_nonneg_right h1 h0
      omega
    have hw : ∀ a b, (runN c X (k + 1)).w a b = (runN c X k).w a b + gradN c X (runN c X k) c.batch a b * r := by
      intro a b
      obtain ⟨h1, h2⟩ := hgr a b
      obtain ⟨h3, h4⟩ := i2 a b
      show weightN c ((runN c X k).w a b) (speedN c ((runN c X k).v a b) (gradN c X (runN c X k) c.batch a b)) = _
      have hs : speedN c ((runN c X k).v a b) (gradN c X (runN c X k) c.batch a b) = 64 * (gradN c X (runN c X k) c.batch a b * r) := by
        unfold speedN
        have e : gradN c X (runN c X k) c.batch a b * ((64 * r : Nat) : Int) = 64 * (gradN c X (runN c X k) c.batch a b * r) := by
          rw [Int.natCast_mul, ← Int.mul_assoc, Int.mul_comm _ ((64 : Nat) : Int), Int.mul_assoc]; rfl
        rw [hm, hr, e]
        generalize gradN c X (runN c X k) c.batch a b * (r : Int) = z at *
        simp only [Int.natCast_zero, Int.mul_zero]
        rw [clamp_same (by omega) (by omega)]; omega
      rw [hs]
      unfold weightN
      rw [hd]
      generalize gradN c X (runN c X k) c.batch a b * (r : Int) = z at *
      rw [show 64 * z / 64 = z by omega]
      simp only [Nat.lt_irrefl, if_false]
      rw [clamp_same (by omega) (by omega)]; omega
    refine ⟨fun b => ?_, fun a b => ?_⟩
    · have hs := i1 b
      have hg0 := grad_sum4 c X hX (runN c X k) c.batch b
      simp only [sum4] at hs hg0 ⊢
      rw [hw, hw, hw, hw]
      have : (gradN c X (runN c X k) c.batch 0 b + gradN c X (runN c X k) c.batch 1 b + gradN c X (runN c X k) c.batch 2 b + gradN c X (runN c X k) c.batch 3 b) * (r : Int) = 0 := by rw [hg0]; simp
      rw [Int.add_mul, Int.add_mul, Int.add_mul] at this
      omega
    · have h1 := hgr a b
      have h2 := i2 a b
      rw [hw]
      omega
end Go.Proofs.Ytfpodnleimhohab
