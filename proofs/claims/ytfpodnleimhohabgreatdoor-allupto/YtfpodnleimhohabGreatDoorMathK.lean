/-
  PLAIN MATHEMATICS: the program's counts: hashes that go on, counts that are cut as they grow.
-/
import Derived.Test.YtfpodnleimhohabGreatDoorMathR
namespace Go.Proofs.YtfpodnleimhohabGreatDoor

/-- A hash that goes on with the four bytes of a rune. -/
def hashFrom (h r : Nat) : Nat := (fourN r).foldl hashF h
theorem foldl_lt {f : Nat → Nat → Nat} {N : Nat} (hf : ∀ a b, f a b < N) : ∀ (l : List Nat) (h : Nat), h < N → l.foldl f h < N := by
  intro l
  induction l with
  | nil => intro h hh; exact hh
  | cons a l ih => intro h _; rw [List.foldl_cons]; exact ih _ (hf _ _)
theorem hashFrom_lt (h r : Nat) (hh : h < 4294967296) : hashFrom h r < 4294967296 := foldl_lt hashF_lt (fourN r) h hh
theorem hashFrom_one (r : Nat) : hashFrom 2166136261 r % 32 = bucketN (fourN r) := by unfold hashFrom bucketN; generalize (fourN r).foldl hashF 2166136261 = z; rfl
theorem hashFrom_two (p r : Nat) : hashFrom (hashFrom 2166136261 p) r % 32 = bucketN (fourN p ++ fourN r) := by
  unfold hashFrom bucketN
  rw [List.foldl_append]
/-- The rest of a rune behind k bytes. -/
def restAt (r : Nat) : Nat → Nat
  | 0 => r
  | k + 1 => restAt r k * 256 % 4294967296
theorem restAt_lt (r k : Nat) (hr : r < 4294967296) : restAt r k < 4294967296 := by
  cases k with
  | zero => exact hr
  | succ k => exact Nat.mod_lt _ (by decide)
theorem rest_byte (r k : Nat) (hr : r < 4294967296) (hk : k < 4) : restAt r k / 16777216 = (fourN r).getD k 0 := by
  have : k = 0 ∨ k = 1 ∨ k = 2 ∨ k = 3 := by omega
  rcases this with rfl | rfl | rfl | rfl <;> simp only [restAt, fourN, List.getD_cons_zero, List.getD_cons_succ] <;> omega
/-- The hash behind k bytes. -/
def hashTo (h r k : Nat) : Nat := ((fourN r).take k).foldl hashF h
theorem hashTo_zero (h r : Nat) : hashTo h r 0 = h := rfl
theorem hashTo_four (h r : Nat) : hashTo h r 4 = hashFrom h r := rfl
theorem hashTo_next (h r k : Nat) (hk : k < 4) : hashTo h r (k + 1) = hashF (hashTo h r k) ((fourN r).getD k 0) := by
  unfold hashTo
  have hl : k < (fourN r).length := hk
  rw [List.take_succ_eq_append_getElem hl, List.foldl_append, List.foldl_cons, List.foldl_nil, List.getD_eq_getElem?_getD, List.getElem?_eq_getElem hl]
  rfl
theorem hashTo_lt (h r k : Nat) (hh : h < 4294967296) (hk : k ≤ 4) : hashTo h r k < 4294967296 := by
  cases k with
  | zero => exact hh
  | succ k => rw [hashTo_next h r k (by omega)]; exact hashF_lt _ _
theorem four_byte (r k : Nat) (hk : k < 4) : (fourN r).getD k 0 < 256 := by
  have : k = 0 ∨ k = 1 ∨ k = 2 ∨ k = 3 := by omega
  rcases this with rfl | rfl | rfl | rfl <;> simp only [fourN, List.getD_cons_zero, List.getD_cons_succ] <;> omega

/-! ### counts that are cut as they grow -/
/-- One more, if it is below seven. -/
def bump (f : Nat → Int) (q : Nat) : Nat → Int := fun b => if b = q ∧ f q < 7 then f q + 1 else f b
def capN (N : Nat → Nat) : Nat → Int := fun b => ((min 7 (N b) : Nat) : Int)
theorem bump_cap (N : Nat → Nat) (q : Nat) : bump (capN N) q = capN (fun b => N b + (if q = b then 1 else 0)) := by
  funext b
  unfold bump
  by_cases h : b = q
  · subst h
    by_cases h7 : capN N b < 7
    · rw [if_pos ⟨rfl, h7⟩]
      unfold capN at *
      simp only [if_true]
      omega
    · rw [if_neg (fun e => h7 e.2)]
      unfold capN at *
      simp only [if_true]
      omega
  · rw [if_neg (fun e => h e.1)]
    have h' : ¬ q = b := fun e => h e.symm
    unfold capN
    simp only [h', if_false, Nat.add_zero]
theorem capN_lt (N : Nat → Nat) (b : Nat) : 0 ≤ capN N b ∧ capN N b ≤ 7 := by unfold capN; omega
/-- The counts behind k runes. -/
def capTo (X : List Nat) (k : Nat) : Nat → Int := capN (rawN X k)
theorem capTo_zero (X : List Nat) : capTo X 0 = fun _ => 0 := by funext b; simp [capTo, capN, rawN, featTo]
theorem capTo_first (X : List Nat) (x q : Nat) (hx : X.getD 0 0 = x) (hq : bucketN (fourN x) = q) : bump (capTo X 0) q = capTo X 1 := by
  unfold capTo
  rw [bump_cap]
  have : (fun b => rawN X 0 b + (if q = b then 1 else 0)) = rawN X 1 := by
    funext b
    rw [rawN_succ, hx, hq]
    simp only [Nat.lt_irrefl, false_and, if_false, Nat.add_zero]
  rw [this]
theorem capTo_next (X : List Nat) (k x y q q2 : Nat) (hk : 0 < k) (hx : X.getD k 0 = x) (hy : X.getD (k - 1) 0 = y) (hq : bucketN (fourN x) = q) (hq2 : bucketN (fourN y ++ fourN x) = q2) :
    bump (bump (capTo X k) q2) q = capTo X (k + 1) := by
  unfold capTo
  rw [bump_cap, bump_cap]
  have : (fun b => rawN X k b + (if q2 = b then 1 else 0) + (if q = b then 1 else 0)) = rawN X (k + 1) := by
    funext b
    rw [rawN_succ, hx, hy, hq, hq2]
    have e : (0 < k ∧ q2 = b) ↔ q2 = b := ⟨fun e => e.2, fun e => ⟨hk, e⟩⟩
    simp only [e]
    generalize (if q2 = b then 1 else 0) = z1
    generalize (if q = b then 1 else 0) = z2
    omega
  rw [this]
theorem capTo_all (s : List UInt8) : capTo (runesN s) (runesN s).length = fun b => ((countsN s b : Nat) : Int) := rfl
end Go.Proofs.YtfpodnleimhohabGreatDoor
