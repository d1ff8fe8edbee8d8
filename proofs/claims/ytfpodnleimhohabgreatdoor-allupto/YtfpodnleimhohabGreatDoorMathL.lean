/-
  PLAIN MATHEMATICS: the learner: runes, counts, scores, a step.
-/
import Derived.Test.YtfpodnleimhohabGreatDoorMathQ
namespace Go.Proofs.YtfpodnleimhohabGreatDoor

/-! ### runes -/
/-- How many bytes a rune has by its first, and what that byte tells of it. -/
def headOf (b : Nat) : Nat × Nat := if 192 ≤ b ∧ b < 224 then (2, b - 192) else if 224 ≤ b ∧ b < 240 then (3, b - 224) else if 240 ≤ b ∧ b < 248 then (4, b - 240) else (0, 0)
/-- The least rune that so many bytes may stand for. -/
def lowOf : Nat → Nat
  | 2 => 128
  | 3 => 2048
  | 4 => 65536
  | _ => 0
/-- The bytes behind the first: so many. -/
def contF : Nat → List UInt8 → Nat → Option Nat
  | 0, _, r => some r
  | _ + 1, [], _ => none
  | n + 1, c :: t, r => if c.toNat < 128 ∨ 192 ≤ c.toNat then none else contF n t (64 * r + c.toNat - 128)
def firstR : List UInt8 → Nat × Nat
  | [] => (65533, 1)
  | b :: t =>
    if b.toNat < 128 then (b.toNat, 1)
    else if (headOf b.toNat).1 = 0 ∨ t.length + 1 < (headOf b.toNat).1 then (65533, 1)
    else match contF ((headOf b.toNat).1 - 1) t (headOf b.toNat).2 with
      | none => (65533, 1)
      | some r => if r < lowOf (headOf b.toNat).1 ∨ 1114111 < r ∨ (55296 ≤ r ∧ r ≤ 57343) then (65533, 1) else (r, (headOf b.toNat).1)
theorem headOf_le (b : Nat) : (headOf b).1 ≤ 4 := by unfold headOf; split <;> (try split) <;> (try split) <;> simp
theorem headOf_two (b : Nat) : (headOf b).1 = 0 ∨ (2 ≤ (headOf b).1 ∧ (headOf b).1 ≤ 4) := by unfold headOf; split <;> (try split) <;> (try split) <;> simp
theorem headOf_snd (b : Nat) : (headOf b).2 < 32 := by unfold headOf; split <;> (try split) <;> (try split) <;> simp <;> omega
theorem firstR_le (l : List UInt8) (h : l ≠ []) : 1 ≤ (firstR l).2 ∧ (firstR l).2 ≤ 4 ∧ (firstR l).2 ≤ l.length := by
  cases l with
  | nil => exact absurd rfl h
  | cons b t =>
    have h4 := headOf_two b.toNat
    simp only [firstR]
    split
    · simp
    · split
      · simp
      · rename_i h1
        split
        · simp
        · split
          · simp
          · simp only [List.length_cons]; omega
theorem firstR_lt (l : List UInt8) : (firstR l).1 ≤ 1114111 := by
  cases l with
  | nil => simp [firstR]
  | cons b t =>
    simp only [firstR]
    split
    · have := b.toNat_lt; omega
    · split
      · simp
      · split
        · simp
        · split
          · simp
          · rename_i hr; omega
/-- The runes of a text. -/
def runesF : Nat → List UInt8 → List Nat
  | 0, _ => []
  | _ + 1, [] => []
  | k + 1, b :: t => (firstR (b :: t)).1 :: runesF k ((b :: t).drop (firstR (b :: t)).2)
def runesN (l : List UInt8) : List Nat := runesF l.length l
theorem runesF_more : ∀ (k m : Nat) (l : List UInt8), l.length ≤ k → l.length ≤ m → runesF k l = runesF m l := by
  intro k
  induction k with
  | zero => intro m l h1 _; obtain rfl : l = [] := List.length_eq_zero_iff.1 (by omega); cases m <;> rfl
  | succ k ih =>
    intro m l h1 h2
    cases l with
    | nil => cases m <;> rfl
    | cons b t =>
      cases m with
      | zero => simp at h2
      | succ m =>
        obtain ⟨a1, a2, a3⟩ := firstR_le (b :: t) (by simp)
        simp only [runesF]
        simp only [List.length_cons] at h1 h2 a3
        rw [ih m _ (by rw [List.length_drop, List.length_cons]; omega) (by rw [List.length_drop, List.length_cons]; omega)]
theorem runesN_cons (l : List UInt8) (h : l ≠ []) : runesN l = (firstR l).1 :: runesN (l.drop (firstR l).2) := by
  obtain ⟨a1, a2, a3⟩ := firstR_le l h
  cases l with
  | nil => exact absurd rfl h
  | cons b t =>
    unfold runesN
    rw [show (b :: t).length = t.length + 1 from rfl]
    simp only [runesF]
    rw [runesF_more t.length _ _ (by rw [List.length_drop, List.length_cons]; omega) (Nat.le_refl _)]
theorem runesF_len : ∀ (k : Nat) (l : List UInt8), (runesF k l).length ≤ k := by
  intro k
  induction k with
  | zero => intro l; simp [runesF]
  | succ k ih =>
    intro l
    cases l with
    | nil => simp [runesF]
    | cons b t => simp only [runesF, List.length_cons]; have := ih ((b :: t).drop (firstR (b :: t)).2); omega
theorem runesN_len (l : List UInt8) : (runesN l).length ≤ l.length := runesF_len _ _

theorem runesF_lt : ∀ (k : Nat) (l : List UInt8), ∀ x ∈ runesF k l, x ≤ 1114111 := by
  intro k
  induction k with
  | zero => intro l x h; simp [runesF] at h
  | succ k ih =>
    intro l x h
    cases l with
    | nil => simp [runesF] at h
    | cons b t =>
      simp only [runesF, List.mem_cons] at h
      rcases h with h | h
      · rw [h]; exact firstR_lt _
      · exact ih _ _ h
theorem runesN_lt (l : List UInt8) : ∀ x ∈ runesN l, x ≤ 1114111 := runesF_lt _ _

/-! ### counts -/
def fourN (r : Nat) : List Nat := [r / 16777216 % 256, r / 65536 % 256, r / 256 % 256, r % 256]
def hashF (h b : Nat) : Nat := (h ^^^ b) * 16777619 % 4294967296
def bucketN (l : List Nat) : Nat := l.foldl hashF 2166136261 % 32
theorem bucketN_lt (l : List Nat) : bucketN l < 32 := Nat.mod_lt _ (by decide)
theorem hashF_lt (h b : Nat) : hashF h b < 4294967296 := Nat.mod_lt _ (by decide)
/-- The buckets that the i-th rune adds to. -/
def featAt (l : List Nat) (i : Nat) : List Nat :=
  bucketN (fourN (l.getD i 0)) :: (if 0 < i then [bucketN (fourN (l.getD (i - 1) 0) ++ fourN (l.getD i 0))] else [])
/-- .. and those of the first k. -/
def featTo (l : List Nat) : Nat → List Nat
  | 0 => []
  | k + 1 => featTo l k ++ featAt l k
def rawN (l : List Nat) (k b : Nat) : Nat := (featTo l k).count b
def countsN (s : List UInt8) (b : Nat) : Nat := min 7 (rawN (runesN s) (runesN s).length b)
theorem countsN_le (s : List UInt8) (b : Nat) : countsN s b ≤ 7 := Nat.min_le_left _ _
theorem featTo_len (l : List Nat) (k : Nat) : (featTo l k).length ≤ 2 * k := by
  induction k with
  | zero => simp [featTo]
  | succ k ih => simp only [featTo, List.length_append, featAt, List.length_cons]; split <;> simp <;> omega
theorem rawN_le (l : List Nat) (k b : Nat) : rawN l k b ≤ 2 * k := Nat.le_trans List.count_le_length (featTo_len l k)
theorem rawN_succ (l : List Nat) (k b : Nat) : rawN l (k + 1) b = rawN l k b + (if bucketN (fourN (l.getD k 0)) = b then 1 else 0) + (if 0 < k ∧ bucketN (fourN (l.getD (k - 1) 0) ++ fourN (l.getD k 0)) = b then 1 else 0) := by
  unfold rawN
  rw [featTo, List.count_append, featAt, List.count_cons]
  by_cases hk : 0 < k
  · simp only [hk, if_true, true_and, List.count_cons, List.count_nil, beq_iff_eq]
    omega
  · simp only [hk, if_false, false_and, List.count_nil, beq_iff_eq]
    omega

/-! ### scores -/
def sumTo (f : Nat → Int) : Nat → Int
  | 0 => 0
  | k + 1 => sumTo f k + f k
theorem sumTo_le (f : Nat → Int) (m : Int) (n : Nat) (h : ∀ i, i < n → -m ≤ f i ∧ f i ≤ m) : ∀ k, k ≤ n → -(k * m) ≤ sumTo f k ∧ sumTo f k ≤ k * m := by
  intro k
  induction k with
  | zero => intro _; simp [sumTo]
  | succ k ih =>
    intro hk
    have a := ih (by omega)
    have b := h k (by omega)
    simp only [sumTo]
    rw [Int.natCast_add, Int.add_mul]
    simp only [Int.natCast_one, Int.one_mul]
    omega
theorem sumTo_congr {f g : Nat → Int} {k : Nat} (h : ∀ i, i < k → f i = g i) : sumTo f k = sumTo g k := by
  induction k with
  | zero => rfl
  | succ k ih => simp only [sumTo]; rw [ih (fun i hi => h i (by omega)), h k (by omega)]
theorem sumTo_add (f g : Nat → Int) (k : Nat) : sumTo (fun i => f i + g i) k = sumTo f k + sumTo g k := by
  induction k with
  | zero => rfl
  | succ k ih => simp only [sumTo]; rw [ih]; omega
/-- A table: a number for each class and bucket. -/
abbrev Tab := Nat → Nat → Int
def scoreN (n : Nat → Nat) (w : Tab) (c : Nat) : Int := sumTo (fun b => (n b : Int) * w c b) 32
/-- The class with the greatest score but for one: among the first k. -/
def bestF (s : Nat → Int) (but : Int) : Nat → Int
  | 0 => -1
  | k + 1 => if (k : Int) ≠ but ∧ (bestF s but k < 0 ∨ s (bestF s but k).toNat < s k) then (k : Int) else bestF s but k
def bestN (s : Nat → Int) (but : Int) : Nat := (bestF s but 4).toNat
theorem bestF_le (s : Nat → Int) (but : Int) (k : Nat) : -1 ≤ bestF s but k ∧ bestF s but k < k ∨ bestF s but k = -1 := by
  induction k with
  | zero => right; rfl
  | succ k ih => unfold bestF; split <;> omega
theorem bestF_some (s : Nat → Int) (but : Int) (k : Nat) (h : 2 ≤ k) : 0 ≤ bestF s but k := by
  induction k with
  | zero => omega
  | succ k ih =>
    by_cases hk : 2 ≤ k
    · have := ih hk
      unfold bestF; split <;> omega
    · obtain rfl : k = 1 := by omega
      unfold bestF
      by_cases hb : (1 : Int) ≠ but
      · split
        · simp
        · rename_i hn
          have h0 := bestF_le s but 1
          have : ¬ bestF s but 1 < 0 := fun hl => hn ⟨hb, .inl hl⟩
          omega
      · have hb1 : but = 1 := by omega
        subst hb1
        simp [bestF]
theorem bestN_lt (s : Nat → Int) (but : Int) : bestN s but < 4 := by
  have h1 := bestF_le s but 4
  have h2 := bestF_some s but 4 (by decide)
  unfold bestN; omega
theorem bestF_ne (s : Nat → Int) (but : Int) (hb : 0 ≤ but) (k : Nat) : bestF s but k ≠ but := by
  induction k with
  | zero => simp only [bestF]; omega
  | succ k ih => unfold bestF; split <;> omega
theorem bestN_ne (s : Nat → Int) (but : Nat) : bestN s but ≠ but := by
  have h2 := bestF_some s but 4 (by decide)
  have h3 := bestF_ne s but (by omega) 4
  unfold bestN; omega

/-! ### a step -/
structure Cf where
  seed : Nat
  batch : Nat
  rate : Nat
  mom : Nat
  decay : Nat
/-- Settings that a run may have. -/
structure Cf.Ok (c : Cf) : Prop where
  seed : c.seed < 18446744073709551616
  batch1 : 1 ≤ c.batch
  batch8 : c.batch ≤ 8
  rate : c.rate ≤ 65536
  mom : c.mom < 65536
  decay : c.decay ≤ 31
/-- How a run stands. -/
structure St where
  steps : Nat
  w : Tab
  v : Tab
structure St.Ok (s : St) : Prop where
  steps : s.steps ≤ 400
  w : ∀ c b, c < 4 → b < 32 → -16777216 ≤ s.w c b ∧ s.w c b ≤ 16777216
  v : ∀ c b, c < 4 → b < 32 → -1073741824 ≤ s.v c b ∧ s.v c b ≤ 1073741824
def St.zero : St := ⟨0, fun _ _ => 0, fun _ _ => 0⟩
theorem St.zero_ok : St.zero.Ok := ⟨by decide, fun _ _ _ _ => by simp [St.zero], fun _ _ _ _ => by simp [St.zero]⟩
/-- A labelled text. -/
abbrev Ex := Nat × List UInt8
/-- The draws. -/
def drawN (c : Cf) (n j : Nat) : Nat := place (mixN ((c.seed + j / n) % 18446744073709551616)) n (j % n)
theorem drawN_lt (c : Cf) {n : Nat} (j : Nat) (h1 : 1 ≤ n) (h2 : n ≤ 65536) : drawN c n j < n :=
  (place_perm _ h2).maps _ (Nat.mod_lt _ (by omega))
/-- The row of a draw. -/
def rowN (c : Cf) (X : List Ex) (j : Nat) : Ex := X.getD (drawN c X.length j) (0, [])
def rivalN (w : Tab) (x : Ex) : Nat := bestN (scoreN (countsN x.2) w) x.1
def missN (w : Tab) (x : Ex) : Bool := decide (scoreN (countsN x.2) w x.1 - scoreN (countsN x.2) w (rivalN w x) < 65536)
/-- What a row adds to G. -/
def addN (w : Tab) (x : Ex) (g : Tab) : Tab := fun c b =>
  g c b + (if missN w x then (if c = x.1 then (countsN x.2 b : Int) else 0) - (if c = rivalN w x then (countsN x.2 b : Int) else 0) else 0)
/-- G of the first k rows. -/
def gradN (c : Cf) (X : List Ex) (s : St) : Nat → Tab
  | 0 => fun _ _ => 0
  | k + 1 => addN s.w (rowN c X (s.steps * c.batch + k)) (gradN c X s k)
def clamp (m x : Int) : Int := if m < x then m else if x < -m then -m else x
theorem clamp_le (m x : Int) (h : 0 ≤ m) : -m ≤ clamp m x ∧ clamp m x ≤ m := by unfold clamp; split <;> (try split) <;> omega
theorem clamp_same {m x : Int} (h1 : -m ≤ x) (h2 : x ≤ m) : clamp m x = x := by unfold clamp; rw [if_neg (by omega), if_neg (by omega)]
def speedN (c : Cf) (v g : Int) : Int := clamp 1073741824 (v * c.mom / 65536 + g * c.rate)
def weightN (c : Cf) (w v' : Int) : Int := clamp 16777216 (w + v' / 64 - (if 0 < c.decay then w / 2 ^ c.decay else 0))
def stepN (c : Cf) (X : List Ex) (s : St) : St where
  steps := s.steps + 1
  v := fun a b => speedN c (s.v a b) (gradN c X s c.batch a b)
  w := fun a b => weightN c (s.w a b) (speedN c (s.v a b) (gradN c X s c.batch a b))
/-- How many of the rows from p to below q of a step miss. -/
def missedN (c : Cf) (X : List Ex) (s : St) (p : Nat) : Nat → Nat
  | 0 => 0
  | q + 1 => missedN c X s p q + (if p ≤ q ∧ missN s.w (rowN c X (s.steps * c.batch + q)) then 1 else 0)
/-- .. of worker k. -/
def workN (c : Cf) (X : List Ex) (s : St) (workers k : Nat) : Nat := missedN c X s (k * c.batch / workers) ((k + 1) * c.batch / workers)
theorem stepN_ok (c : Cf) (X : List Ex) (s : St) (hs : s.steps < 400) : (stepN c X s).Ok :=
  ⟨hs, fun _ _ _ _ => clamp_le _ _ (by decide), fun _ _ _ _ => clamp_le _ _ (by decide)⟩
theorem gradN_le (c : Cf) (X : List Ex) (s : St) (k : Nat) (a b : Nat) : -(7 * k : Int) ≤ gradN c X s k a b ∧ gradN c X s k a b ≤ 7 * k := by
  induction k with
  | zero => simp [gradN]
  | succ k ih =>
    have h7 := countsN_le (rowN c X (s.steps * c.batch + k)).2 b
    simp only [gradN, addN]
    generalize gradN c X s k a b = g at *
    split <;> (try split) <;> (try split) <;> omega
/-- Shifts of numbers with a sign, one after the other. -/
theorem down_two (x : Int) (k : Nat) : x / 2 ^ (k + 1) = (x / 2) / 2 ^ k := by
  rw [Int.pow_succ, Int.mul_comm, Int.ediv_ediv_of_nonneg (by decide)]
end Go.Proofs.YtfpodnleimhohabGreatDoor
