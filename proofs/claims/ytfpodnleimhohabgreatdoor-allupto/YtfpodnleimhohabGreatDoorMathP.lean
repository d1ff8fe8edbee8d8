/-
  PLAIN MATHEMATICS: orders: a map that goes round within so many numbers; the first return below n; rounds and how they are undone.
-/
import Derived.Test.YtfpodnleimhohabGreatDoorMath
namespace Go.Proofs.YtfpodnleimhohabGreatDoor

/-- Of M + 1 numbers below M two are the same. -/
theorem pigeon (M : Nat) : ∀ g : Nat → Nat, (∀ i, i ≤ M → g i < M) → ∃ i j, i < j ∧ j ≤ M ∧ g i = g j := by
  induction M with
  | zero => intro g h; exact absurd (h 0 (Nat.le_refl _)) (by omega)
  | succ M ih =>
    intro g h
    by_cases hd : ∃ i, i ≤ M ∧ g i = g (M + 1)
    · obtain ⟨i, hi, he⟩ := hd
      exact ⟨i, M + 1, by omega, Nat.le_refl _, he⟩
    · have hn : ∀ i, i ≤ M → g i ≠ g (M + 1) := fun i hi he => hd ⟨i, hi, he⟩
      obtain ⟨i, j, hij, hj, he⟩ := ih (fun i => if g i = M then g (M + 1) else g i) (fun i hi => by
        have h1 := h i (by omega)
        have h2 := h (M + 1) (Nat.le_refl _)
        have h3 := hn i hi
        show (if g i = M then g (M + 1) else g i) < M
        split <;> omega)
      have h1 := hn i (by omega)
      have h2 := hn j hj
      have he : (if g i = M then g (M + 1) else g i) = (if g j = M then g (M + 1) else g j) := he
      refine ⟨i, j, hij, by omega, ?_⟩
      split at he <;> split at he <;> omega

/-- f, k times. -/
def iter (f : Nat → Nat) : Nat → Nat → Nat
  | 0, x => x
  | k + 1, x => f (iter f k x)
theorem iter_add (f : Nat → Nat) (a b x : Nat) : iter f (a + b) x = iter f a (iter f b x) := by
  induction a with
  | zero => simp [iter]
  | succ a ih => rw [show a + 1 + b = (a + b) + 1 by omega]; simp [iter, ih]
/-- A map of the numbers below M, each met once. -/
structure PermOn (f : Nat → Nat) (M : Nat) : Prop where
  maps : ∀ x, x < M → f x < M
  inj : ∀ x y, x < M → y < M → f x = f y → x = y
theorem PermOn.iter_lt {f : Nat → Nat} {M : Nat} (h : PermOn f M) (k x : Nat) (hx : x < M) : iter f k x < M := by
  induction k with
  | zero => exact hx
  | succ k ih => exact h.maps _ ih
theorem PermOn.iter_inj {f : Nat → Nat} {M : Nat} (h : PermOn f M) (k x y : Nat) (hx : x < M) (hy : y < M) (e : iter f k x = iter f k y) : x = y := by
  induction k with
  | zero => exact e
  | succ k ih => exact ih (h.inj _ _ (h.iter_lt k x hx) (h.iter_lt k y hy) e)
/-- It comes round. -/
theorem PermOn.round {f : Nat → Nat} {M : Nat} (h : PermOn f M) (x : Nat) (hx : x < M) : ∃ k, 1 ≤ k ∧ k ≤ M ∧ iter f k x = x := by
  obtain ⟨i, j, hij, hj, e⟩ := pigeon M (fun i => iter f i x) (fun i _ => h.iter_lt i x hx)
  have e : iter f i x = iter f j x := e
  refine ⟨j - i, by omega, by omega, ?_⟩
  rw [show j = i + (j - i) by omega, iter_add] at e
  exact (h.iter_inj i _ _ hx (h.iter_lt _ x hx) e).symm
/-- The least number that does it. -/
theorem least (p : Nat → Prop) (k : Nat) (hk : 1 ≤ k) (h : p k) : ∃ m, 1 ≤ m ∧ m ≤ k ∧ p m ∧ ∀ j, 1 ≤ j → j < m → ¬ p j := by
  induction k using Nat.strongRecOn with
  | _ k ih =>
    by_cases hs : ∃ j, 1 ≤ j ∧ j < k ∧ p j
    · obtain ⟨j, h1, h2, h3⟩ := hs
      obtain ⟨m, a, b, c, d⟩ := ih j h2 h1 h3
      exact ⟨m, a, by omega, c, d⟩
    · exact ⟨k, hk, Nat.le_refl _, h, fun j h1 h2 h3 => hs ⟨j, h1, h2, h3⟩⟩

/-- The first return below n, after k steps. -/
structure Ret (f : Nat → Nat) (n x k y : Nat) : Prop where
  pos : 1 ≤ k
  val : iter f k x = y
  low : y < n
  high : ∀ j, 1 ≤ j → j < k → n ≤ iter f j x
theorem Ret.exists' {f : Nat → Nat} {M : Nat} (h : PermOn f M) {n x : Nat} (hn : n ≤ M) (hx : x < n) : ∃ k y, k ≤ M ∧ Ret f n x k y := by
  obtain ⟨k, h1, h2, h3⟩ := h.round x (by omega)
  obtain ⟨m, a, b, c, d⟩ := least (fun k => iter f k x < n) k h1 (by rw [h3]; exact hx)
  exact ⟨m, _, by omega, ⟨a, rfl, c, fun j j1 j2 => Nat.le_of_not_lt (d j j1 j2)⟩⟩
theorem Ret.unique {f : Nat → Nat} {n x k y k' y' : Nat} (h : Ret f n x k y) (h' : Ret f n x k' y') : k = k' ∧ y = y' := by
  have hk : k = k' := by
    rcases Nat.lt_trichotomy k k' with c | c | c
    · have := h'.high k h.pos c; have := h.low; rw [← h.val] at this; omega
    · exact c
    · have := h.high k' h'.pos c; have := h'.low; rw [← h'.val] at this; omega
  subst hk
  exact ⟨rfl, h.val.symm.trans h'.val⟩
/-- The search, with fuel: as the loop goes. -/
def firstF (f : Nat → Nat) (n : Nat) : Nat → Nat → Nat
  | 0, x => x
  | k + 1, x => if f x < n then f x else firstF f n k (f x)
theorem iter_one (f : Nat → Nat) (k x : Nat) : iter f (k + 1) x = iter f k (f x) := by
  rw [iter_add f k 1 x]; rfl
theorem firstF_ret {f : Nat → Nat} {n : Nat} : ∀ (k : Nat) (x y fuel : Nat), Ret f n x k y → k ≤ fuel → firstF f n fuel x = y := by
  intro k
  induction k with
  | zero => intro x y fuel h; exact absurd h.pos (by omega)
  | succ k ih =>
    intro x y fuel h hf
    cases fuel with
    | zero => omega
    | succ fuel =>
      simp only [firstF]
      by_cases h0 : f x < n
      · rw [if_pos h0]
        have e := (Ret.unique h ⟨Nat.le_refl 1, rfl, h0, fun j a b => by omega⟩).2
        exact e.symm
      · rw [if_neg h0]
        cases k with
        | zero => have := h.low; rw [← h.val] at this; exact absurd this h0
        | succ k =>
          refine ih (f x) y fuel ⟨by omega, ?_, h.low, fun j a b => ?_⟩ (by omega)
          · rw [← iter_one]; exact h.val
          · rw [← iter_one]; exact h.high (j + 1) (by omega) (by omega)
/-- The place of x in the order of n numbers by f. -/
def placeOf (f : Nat → Nat) (M n x : Nat) : Nat := firstF f n M x
theorem placeOf_ret {f : Nat → Nat} {M : Nat} (h : PermOn f M) {n x : Nat} (hn : n ≤ M) (hx : x < n) : ∃ k, k ≤ M ∧ Ret f n x k (placeOf f M n x) := by
  obtain ⟨k, y, hk, hr⟩ := Ret.exists' h hn hx
  have e := firstF_ret k x y M hr hk
  refine ⟨k, hk, ?_⟩
  unfold placeOf
  rw [e]; exact hr
theorem placeOf_perm {f : Nat → Nat} {M : Nat} (h : PermOn f M) {n : Nat} (hn : n ≤ M) : PermOn (placeOf f M n) n := by
  refine ⟨fun x hx => ?_, fun x y hx hy e => ?_⟩
  · obtain ⟨k, _, hr⟩ := placeOf_ret h hn hx
    exact hr.low
  · obtain ⟨k, _, hr⟩ := placeOf_ret h hn hx
    obtain ⟨k', _, hr'⟩ := placeOf_ret h hn hy
    have key : ∀ (a b p q : Nat), p < n → q < n → Ret f n p a (placeOf f M n p) → Ret f n q b (placeOf f M n q) → placeOf f M n p = placeOf f M n q → a ≤ b → p = q := by
      intro a b p q hp hq ha hb he hab
      have h1 : iter f a p = iter f a (iter f (b - a) q) := by
        rw [← iter_add, show a + (b - a) = b by omega, ha.val, hb.val, he]
      have h2 := h.iter_inj a _ _ (by omega) (h.iter_lt _ q (by omega)) h1
      by_cases h0 : a = b
      · rw [h0, Nat.sub_self] at h2; exact h2
      · have := hb.high (b - a) (by omega) (by have := ha.pos; omega)
        omega
    rcases Nat.le_total k k' with c | c
    · exact key k k' x y hx hy hr hr' e c
    · exact (key k' k y x hy hx hr' hr e.symm c).symm
/-- The map undone, by the map that undoes f: it goes back the same way. -/
theorem placeOf_back {f g : Nat → Nat} {M : Nat} (h : PermOn f M) (hg : ∀ x, x < M → g (f x) = x) {n x : Nat} (hn : n ≤ M) (hx : x < n) {k : Nat} (hr : Ret f n x k (placeOf f M n x)) : Ret g n (placeOf f M n x) k x := by
  have back : ∀ j, j ≤ k → iter g j (iter f k x) = iter f (k - j) x := by
    intro j
    induction j with
    | zero => intro _; rfl
    | succ j ih =>
      intro hj
      show g (iter g j (iter f k x)) = _
      rw [ih (by omega), show k - j = (k - (j + 1)) + 1 by omega]
      exact hg _ (h.iter_lt _ x (by omega))
  refine ⟨hr.pos, ?_, hx, fun j j1 j2 => ?_⟩
  · rw [← hr.val, back k (Nat.le_refl _), Nat.sub_self]; rfl
  · rw [← hr.val, back j (by omega)]
    exact hr.high (k - j) (by omega) (by omega)

/-! ### rounds -/
/-- One of the four turns. -/
def fs (F : Nat → Nat) (side : Nat) (p : Nat × Nat) : Nat × Nat := (p.2, p.1 ^^^ (F p.2 % side))
def fsBack (F : Nat → Nat) (side : Nat) (p : Nat × Nat) : Nat × Nat := (p.2 ^^^ (F p.1 % side), p.1)
theorem xor_xor (a b : Nat) : (a ^^^ b) ^^^ b = a := by rw [Nat.xor_assoc, Nat.xor_self, Nat.xor_zero]
theorem fsBack_fs (F : Nat → Nat) (side : Nat) (p : Nat × Nat) : fsBack F side (fs F side p) = p := by simp [fs, fsBack, xor_xor]
theorem fs_fsBack (F : Nat → Nat) (side : Nat) (p : Nat × Nat) : fs F side (fsBack F side p) = p := by simp [fs, fsBack, xor_xor]
theorem fs_lt (F : Nat → Nat) (h : Nat) {p : Nat × Nat} (h1 : p.1 < 2 ^ h) (h2 : p.2 < 2 ^ h) : (fs F (2 ^ h) p).1 < 2 ^ h ∧ (fs F (2 ^ h) p).2 < 2 ^ h :=
  ⟨h2, Nat.xor_lt_two_pow h1 (Nat.mod_lt _ (Nat.two_pow_pos h))⟩
theorem fsBack_lt (F : Nat → Nat) (h : Nat) {p : Nat × Nat} (h1 : p.1 < 2 ^ h) (h2 : p.2 < 2 ^ h) : (fsBack F (2 ^ h) p).1 < 2 ^ h ∧ (fsBack F (2 ^ h) p).2 < 2 ^ h :=
  ⟨Nat.xor_lt_two_pow h2 (Nat.mod_lt _ (Nat.two_pow_pos h)), h1⟩
def split2 (side x : Nat) : Nat × Nat := (x / side, x % side)
def join2 (side : Nat) (p : Nat × Nat) : Nat := p.1 * side + p.2
theorem join_split (side x : Nat) : join2 side (split2 side x) = x := by
  simp [join2, split2, Nat.mul_comm]; exact Nat.div_add_mod x side
theorem split_join {side : Nat} (hs : 0 < side) {p : Nat × Nat} (h2 : p.2 < side) : split2 side (join2 side p) = p := by
  obtain ⟨a, b⟩ := p
  simp only [split2, join2]
  simp only at h2
  rw [Nat.mul_comm, Nat.mul_add_div hs, Nat.div_eq_of_lt h2, Nat.mul_add_mod, Nat.mod_eq_of_lt h2]
  rfl
theorem split_lt {side x : Nat} (hs : 0 < side) (hx : x < side * side) : (split2 side x).1 < side ∧ (split2 side x).2 < side :=
  ⟨Nat.div_lt_of_lt_mul hx, Nat.mod_lt _ hs⟩
theorem join_lt {side : Nat} {p : Nat × Nat} (h1 : p.1 < side) (h2 : p.2 < side) : join2 side p < side * side := by
  have : (p.1 + 1) * side ≤ side * side := Nat.mul_le_mul_right _ h1
  rw [Nat.succ_mul] at this
  unfold join2
  omega
/-- A round: four turns. -/
def roundN (F : Nat → Nat → Nat) (side x : Nat) : Nat := join2 side (fs (F 4) side (fs (F 3) side (fs (F 2) side (fs (F 1) side (split2 side x)))))
def unroundN (F : Nat → Nat → Nat) (side x : Nat) : Nat := join2 side (fsBack (F 1) side (fsBack (F 2) side (fsBack (F 3) side (fsBack (F 4) side (split2 side x)))))
theorem unround_round (F : Nat → Nat → Nat) (h : Nat) (x : Nat) (hx : x < 2 ^ h * 2 ^ h) : unroundN F (2 ^ h) (roundN F (2 ^ h) x) = x := by
  have hs := Nat.two_pow_pos h
  obtain ⟨a1, a2⟩ := split_lt hs hx
  obtain ⟨b1, b2⟩ := fs_lt (F 1) h a1 a2
  obtain ⟨c1, c2⟩ := fs_lt (F 2) h b1 b2
  obtain ⟨d1, d2⟩ := fs_lt (F 3) h c1 c2
  obtain ⟨e1, e2⟩ := fs_lt (F 4) h d1 d2
  unfold unroundN roundN
  rw [split_join hs e2, fsBack_fs, fsBack_fs, fsBack_fs, fsBack_fs, join_split]
theorem round_unround (F : Nat → Nat → Nat) (h : Nat) (x : Nat) (hx : x < 2 ^ h * 2 ^ h) : roundN F (2 ^ h) (unroundN F (2 ^ h) x) = x := by
  have hs := Nat.two_pow_pos h
  obtain ⟨a1, a2⟩ := split_lt hs hx
  obtain ⟨b1, b2⟩ := fsBack_lt (F 4) h a1 a2
  obtain ⟨c1, c2⟩ := fsBack_lt (F 3) h b1 b2
  obtain ⟨d1, d2⟩ := fsBack_lt (F 2) h c1 c2
  obtain ⟨e1, e2⟩ := fsBack_lt (F 1) h d1 d2
  unfold unroundN roundN
  rw [split_join hs e2, fs_fsBack, fs_fsBack, fs_fsBack, fs_fsBack, join_split]
theorem round_lt (F : Nat → Nat → Nat) (h : Nat) (x : Nat) (hx : x < 2 ^ h * 2 ^ h) : roundN F (2 ^ h) x < 2 ^ h * 2 ^ h := by
  have hs := Nat.two_pow_pos h
  obtain ⟨a1, a2⟩ := split_lt hs hx
  obtain ⟨b1, b2⟩ := fs_lt (F 1) h a1 a2
  obtain ⟨c1, c2⟩ := fs_lt (F 2) h b1 b2
  obtain ⟨d1, d2⟩ := fs_lt (F 3) h c1 c2
  obtain ⟨e1, e2⟩ := fs_lt (F 4) h d1 d2
  exact join_lt e1 e2
theorem unround_lt (F : Nat → Nat → Nat) (h : Nat) (x : Nat) (hx : x < 2 ^ h * 2 ^ h) : unroundN F (2 ^ h) x < 2 ^ h * 2 ^ h := by
  have hs := Nat.two_pow_pos h
  obtain ⟨a1, a2⟩ := split_lt hs hx
  obtain ⟨b1, b2⟩ := fsBack_lt (F 4) h a1 a2
  obtain ⟨c1, c2⟩ := fsBack_lt (F 3) h b1 b2
  obtain ⟨d1, d2⟩ := fsBack_lt (F 2) h c1 c2
  obtain ⟨e1, e2⟩ := fsBack_lt (F 1) h d1 d2
  exact join_lt e1 e2
theorem round_perm (F : Nat → Nat → Nat) (h : Nat) : PermOn (roundN F (2 ^ h)) (2 ^ h * 2 ^ h) :=
  ⟨fun x hx => round_lt F h x hx, fun x y hx hy e => by rw [← unround_round F h x hx, e, unround_round F h y hy]⟩
end Go.Proofs.YtfpodnleimhohabGreatDoor
