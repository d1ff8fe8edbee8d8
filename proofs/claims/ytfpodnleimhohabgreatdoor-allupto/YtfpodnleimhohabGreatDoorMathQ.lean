/-
  PLAIN MATHEMATICS: Mix, the side of an order, Place and Back of the document.
-/
import Derived.Test.YtfpodnleimhohabGreatDoorMathP
import Derived.Laws.BitsAllLaws
import Derived.Laws.Bits64
namespace Go.Proofs.YtfpodnleimhohabGreatDoor
open Go.RowKit

/-- Mix of a number of 64 bits. -/
def mixA (z : Nat) : Nat := (z ^^^ z / 1073741824) * 13787848793156543929 % 18446744073709551616
def mixB (z : Nat) : Nat := (z ^^^ z / 134217728) * 10723151780598845931 % 18446744073709551616
def mixN (z : Nat) : Nat := mixB (mixA z) ^^^ mixB (mixA z) / 2147483648
theorem mixA_lt (z : Nat) : mixA z < 18446744073709551616 := Nat.mod_lt _ (by decide)
theorem mixB_lt (z : Nat) : mixB z < 18446744073709551616 := Nat.mod_lt _ (by decide)
theorem xor_lt64 {a b : Nat} (ha : a < 18446744073709551616) (hb : b < 18446744073709551616) : a ^^^ b < 18446744073709551616 := by
  have := Nat.xor_lt_two_pow (n := 64) (x := a) (y := b) (by simpa using ha) (by simpa using hb)
  simpa using this
theorem mixN_lt (z : Nat) : mixN z < 18446744073709551616 := xor_lt64 (mixB_lt _) (Nat.lt_of_le_of_lt (Nat.div_le_self _ _) (mixB_lt _))
/-- What a turn mixes in. -/
def turnF (seed k r : Nat) : Nat := mixN ((seed + k * 11400714819323198485 + r) % 18446744073709551616)
/-- How many bits half a number of the order has. -/
def bitsOf (n : Nat) : Nat := if n ≤ 4 then 1 else if n ≤ 16 then 2 else if n ≤ 64 then 3 else if n ≤ 256 then 4 else if n ≤ 1024 then 5 else if n ≤ 4096 then 6 else if n ≤ 16384 then 7 else 8
theorem bitsOf_ok (n : Nat) (h : n ≤ 65536) : 1 ≤ bitsOf n ∧ bitsOf n ≤ 8 ∧ n ≤ 2 ^ bitsOf n * 2 ^ bitsOf n := by
  unfold bitsOf
  split <;> (try split) <;> (try split) <;> (try split) <;> (try split) <;> (try split) <;> (try split) <;> simp <;> omega
theorem bitsOf_more (n h : Nat) (h1 : 1 ≤ h) (h2 : h < bitsOf n) : 2 ^ h * 2 ^ h < n := by
  have h8 : bitsOf n ≤ 8 := by unfold bitsOf; split <;> (try split) <;> (try split) <;> (try split) <;> (try split) <;> (try split) <;> (try split) <;> omega
  have key : ∀ h, h < bitsOf n → 1 ≤ h → h ≤ 7 → 2 ^ h * 2 ^ h < n := by
    intro h a b c
    unfold bitsOf at a
    match h, b, c with
    | 1, _, _ => simp; split at a <;> omega
    | 2, _, _ => simp; split at a <;> (try split at a) <;> omega
    | 3, _, _ => simp; split at a <;> (try split at a) <;> (try split at a) <;> omega
    | 4, _, _ => simp; split at a <;> (try split at a) <;> (try split at a) <;> (try split at a) <;> omega
    | 5, _, _ => simp; split at a <;> (try split at a) <;> (try split at a) <;> (try split at a) <;> (try split at a) <;> omega
    | 6, _, _ => simp; split at a <;> (try split at a) <;> (try split at a) <;> (try split at a) <;> (try split at a) <;> (try split at a) <;> omega
    | 7, _, _ => simp; split at a <;> (try split at a) <;> (try split at a) <;> (try split at a) <;> (try split at a) <;> (try split at a) <;> (try split at a) <;> omega
  exact key h h2 h1 (by omega)
def sideOf (n : Nat) : Nat := 2 ^ bitsOf n
/-- A round of the order of n numbers by a seed; the place of a number; the number that has a place. -/
def roundOf (seed n : Nat) : Nat → Nat := roundN (turnF seed) (sideOf n)
theorem roundOf_perm (seed n : Nat) : PermOn (roundOf seed n) (sideOf n * sideOf n) := round_perm (turnF seed) (bitsOf n)
def place (seed n i : Nat) : Nat := placeOf (roundOf seed n) (sideOf n * sideOf n) n i
theorem place_ret (seed : Nat) {n i : Nat} (hn : n ≤ 65536) (hi : i < n) : ∃ k, k ≤ sideOf n * sideOf n ∧ Ret (roundOf seed n) n i k (place seed n i) :=
  placeOf_ret (roundOf_perm seed n) (bitsOf_ok n hn).2.2 hi
theorem place_perm (seed : Nat) {n : Nat} (hn : n ≤ 65536) : PermOn (place seed n) n := placeOf_perm (roundOf_perm seed n) (bitsOf_ok n hn).2.2
/-- Going on by Place from i till it comes round: the last one ahead of i. -/
theorem back_round (seed : Nat) {n i : Nat} (hn : n ≤ 65536) (hi : i < n) : ∃ k, 1 ≤ k ∧ k ≤ n ∧ iter (place seed n) k i = i ∧ ∀ j, 1 ≤ j → j < k → iter (place seed n) j i ≠ i := by
  obtain ⟨k, h1, h2, h3⟩ := (place_perm seed hn).round i hi
  obtain ⟨m, a, b, c, d⟩ := least (fun k => iter (place seed n) k i = i) k h1 h3
  exact ⟨m, a, by omega, c, d⟩
/-- The number that has a place, as the document goes: with fuel. -/
def backF (f : Nat → Nat) (i : Nat) : Nat → Nat → Nat
  | 0, x => x
  | k + 1, x => if f x = i then x else backF f i k (f x)
def back (seed n i : Nat) : Nat := backF (place seed n) i n i
theorem backF_round {f : Nat → Nat} {i : Nat} : ∀ (k x fuel : Nat), k < fuel → iter f (k + 1) x = i → (∀ j, 1 ≤ j → j ≤ k → iter f j x ≠ i) → backF f i fuel x = iter f k x := by
  intro k
  induction k with
  | zero =>
    intro x fuel hf he _
    cases fuel with
    | zero => omega
    | succ fuel => simp only [backF]; rw [if_pos (show f x = i from he)]; rfl
  | succ k ih =>
    intro x fuel hf he hne
    cases fuel with
    | zero => omega
    | succ fuel =>
      simp only [backF]
      have h1 : f x ≠ i := hne 1 (by omega) (by omega)
      rw [if_neg h1, ih (f x) fuel (by omega) (by rw [← iter_one]; exact he) (fun j a b => by rw [← iter_one]; exact hne (j + 1) (by omega) (by omega)), ← iter_one]
theorem back_ok (seed : Nat) {n i : Nat} (hn : n ≤ 65536) (hi : i < n) : back seed n i < n ∧ place seed n (back seed n i) = i := by
  obtain ⟨k, h1, h2, h3, h4⟩ := back_round seed hn hi
  have e : back seed n i = iter (place seed n) (k - 1) i := backF_round (k - 1) i n (by omega) (by rw [show k - 1 + 1 = k by omega]; exact h3) (fun j a b => h4 j a (by omega))
  rw [e]
  refine ⟨(place_perm seed hn).iter_lt _ i hi, ?_⟩
  have : place seed n (iter (place seed n) (k - 1) i) = iter (place seed n) (k - 1 + 1) i := rfl
  rw [this, show k - 1 + 1 = k by omega]; exact h3
theorem back_unique (seed : Nat) {n i b : Nat} (hn : n ≤ 65536) (hi : i < n) (hb : b < n) (he : place seed n b = i) : b = back seed n i := by
  obtain ⟨h1, h2⟩ := back_ok seed hn hi
  exact (place_perm seed hn).inj _ _ hb h1 (he.trans h2.symm)
theorem back_place (seed : Nat) {n i : Nat} (hn : n ≤ 65536) (hi : i < n) : back seed n (place seed n i) = i :=
  (back_unique seed hn ((place_perm seed hn).maps i hi) hi rfl).symm
/-- The one order that the document fixes. -/
theorem order_ten : (List.range 10).map (place 7 10) = [6, 4, 3, 8, 1, 7, 0, 9, 2, 5] := by decide +kernel
end Go.Proofs.YtfpodnleimhohabGreatDoor
