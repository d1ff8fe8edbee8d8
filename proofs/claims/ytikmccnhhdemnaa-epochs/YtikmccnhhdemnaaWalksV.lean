/-
  WALKS: the document's runes: first, runes.
-/
import Derived.Test.YtikmccnhhdemnaaWalksU
import Derived.Test.YtikmccnhhdemnaaMath
namespace Go.Proofs.Ytikmccnhhdemnaa
open Go.RowKit
set_option linter.unusedVariables false

/-- What the package variable holds. -/
def LowAt (w : World) : Prop := ∀ i, i < 5 → w.cell? ⟨0, i, none⟩ = some (.int .i64 (lowOf i : Nat))

theorem LowAt.pos {w : World} (h : LowAt w) : 0 < w.heap.size := World.block_lt_of_cell? w _ (h 0 (by decide))
theorem LowAt.later {w w' : World} (h : LowAt w) (hb : Below w.heap.size w w') : LowAt w' := fun i hi => (hb.cell (p := ⟨0, i, none⟩) h.pos).trans (h i hi)

/-- How a first byte is told. -/
theorem head_cases (b : Nat) (h : 128 ≤ b) : (headOf b = (2, b - 192) ∧ 192 ≤ b ∧ b < 224) ∨ (headOf b = (3, b - 224) ∧ 224 ≤ b ∧ b < 240) ∨ (headOf b = (4, b - 240) ∧ 240 ≤ b ∧ b < 248) ∨ (headOf b = (0, 0) ∧ (b < 192 ∨ 248 ≤ b)) := by
  unfold headOf
  split
  · left; exact ⟨rfl, by omega, by omega⟩
  · split
    · right; left; exact ⟨rfl, by omega, by omega⟩
    · split
      · right; right; left; exact ⟨rfl, by omega, by omega⟩
      · right; right; right; exact ⟨rfl, by omega⟩

theorem contF_bad {g : Nat} {d : UInt8} {t : List UInt8} {r : Nat} {l : List UInt8} {res : Option Nat} (h : contF (g + 1) l r = res) (hl : l = d :: t) (hd : d.toNat < 128 ∨ 192 ≤ d.toNat) : res = none := by
  rw [← h, hl]; simp only [contF]; rw [if_pos hd]
theorem contF_ok {g : Nat} {d : UInt8} {t : List UInt8} {r : Nat} {l : List UInt8} {res : Option Nat} (h : contF (g + 1) l r = res) (hl : l = d :: t) (hd : ¬ (d.toNat < 128 ∨ 192 ≤ d.toNat)) : contF g t (64 * r + d.toNat - 128) = res := by
  rw [← h, hl]; simp only [contF]; rw [if_neg hd]
/-- What comes out behind the bytes. -/
def firstE (n : Nat) : Option Nat → Nat × Nat
  | none => (65533, 1)
  | some r => if r < lowOf n ∨ 1114111 < r ∨ (55296 ≤ r ∧ r ≤ 57343) then (65533, 1) else (r, n)
theorem firstR_of {s : ByteArray} {c : UInt8} {n r0 : Nat} {res : Option Nat} (hD : ls s = c :: (ls s).drop 1) (h128 : ¬ c.toNat < 128) (h : headOf c.toNat = (n, r0)) (hn : 2 ≤ n) (hlen : ¬ s.size < n) (hres : contF (n - 1) ((ls s).drop 1) r0 = res) : firstR (ls s) = firstE n res := by
  have hz : ((ls s).drop 1).length + 1 = s.size := by
    have := congrArg List.length hD
    rw [List.length_cons, ls_length] at this; omega
  rw [hD]
  simp only [firstR]
  rw [if_neg h128, h, if_neg (by simp only; omega)]
  simp only
  rw [hres]
  cases res <;> rfl
theorem firstR_short {s : ByteArray} {c : UInt8} {n r0 : Nat} (hD : ls s = c :: (ls s).drop 1) (h128 : ¬ c.toNat < 128) (h : headOf c.toNat = (n, r0)) (hlen : s.size < n) : firstR (ls s) = (65533, 1) := by
  have hz : ((ls s).drop 1).length + 1 = s.size := by
    have := congrArg List.length hD
    rw [List.length_cons, ls_length] at this; omega
  rw [hD]
  simp only [firstR]
  rw [if_neg h128, h, if_pos (.inr (by simp only; omega))]

theorem drop_getElemV (R : ByteArray) (k : Nat) (h : k < R.size) : (ls R).drop k = R[k] :: (ls R).drop (k + 1) := by
  rw [List.drop_eq_getElem_cons (by rw [ls_length]; exact h)]; rfl

end Go.Proofs.Ytikmccnhhdemnaa
