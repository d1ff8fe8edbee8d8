/-
  PLAIN MATHEMATICS: the runes that a range over a string reads are those of the document.
-/
import Derived.Test.YtfpodnleimhohabGreatDoorMathL
import Derived.Test.YtfpodnleimhohabGreatDoorOwn
import Derived.Lib.OthersKept
namespace Go.Proofs.YtfpodnleimhohabGreatDoor

theorem valid_nat (c : Nat) : Utf8.valid (c : Int) = decide (c < 55296 ∨ (57344 ≤ c ∧ c ≤ 1114111)) := by
  unfold Utf8.valid
  rw [Bool.eq_iff_iff]
  simp only [Bool.or_eq_true, Bool.and_eq_true, decide_eq_true_eq]
  omega
/-- The model's reading of the bytes behind a place, of a list. -/
def decL (l : List UInt8) : Nat × Nat :=
  let at' (k : Nat) : Nat := (l.getD k 0).toNat
  let cont (k : Nat) : Bool := k < l.length && at' k / 64 == 2
  let b0 := at' 0
  if b0 < 0x80 then (b0, 1)
  else if b0 / 32 == 6 && cont 1 then
    let c := (b0 % 32) * 64 + at' 1 % 64
    if c ≥ 0x80 then (c, 2) else (65533, 1)
  else if b0 / 16 == 14 && cont 1 && cont 2 then
    let c := (b0 % 16) * 4096 + (at' 1 % 64) * 64 + at' 2 % 64
    if c ≥ 0x800 && Utf8.valid c then (c, 3) else (65533, 1)
  else if b0 / 8 == 30 && cont 1 && cont 2 && cont 3 then
    let c := (b0 % 8) * 262144 + (at' 1 % 64) * 4096 + (at' 2 % 64) * 64 + at' 3 % 64
    if c ≥ 0x10000 && Utf8.valid c then (c, 4) else (65533, 1)
  else (65533, 1)
theorem decode_list (s : ByteArray) (i : Nat) : Utf8.decode s i = decL ((ls s).drop i) := by
  have hget : ∀ k, s.get! (i + k) = ((ls s).drop i).getD k 0 := by
    intro k
    rw [List.getD_eq_getElem?_getD, List.getElem?_drop]
    unfold ls
    rw [Array.getElem?_toList]
    show s.data[i + k]! = _
    rw [getElem!_def]
    cases s.data[i + k]? <;> rfl
  have hlt : ∀ k, decide (i + k < s.size) = decide (k < ((ls s).drop i).length) := by
    intro k
    rw [List.length_drop]
    have := ls_length s
    rw [this]
    congr 1
    apply propext
    omega
  unfold Utf8.decode decL
  simp only [hget, hlt]
  rfl

theorem head2 {b : Nat} (h : 192 ≤ b ∧ b < 224) : headOf b = (2, b - 192) := if_pos h
theorem head3 {b : Nat} (h : 224 ≤ b ∧ b < 240) : headOf b = (3, b - 224) := by unfold headOf; rw [if_neg (by omega), if_pos h]
theorem head4 {b : Nat} (h : 240 ≤ b ∧ b < 248) : headOf b = (4, b - 240) := by unfold headOf; rw [if_neg (by omega), if_neg (by omega), if_pos h]
theorem head0 {b : Nat} (h : b < 192 ∨ 248 ≤ b) : headOf b = (0, 0) := by unfold headOf; rw [if_neg (by omega), if_neg (by omega), if_neg (by omega)]
/-- The four tests on the first byte. -/
theorem tests (x : Nat) (h : x < 256) : (x / 32 == 6) = decide (192 ≤ x ∧ x < 224) ∧ (x / 16 == 14) = decide (224 ≤ x ∧ x < 240) ∧ (x / 8 == 30) = decide (240 ≤ x ∧ x < 248) := by
  refine ⟨?_, ?_, ?_⟩ <;> (rw [Bool.eq_iff_iff]; simp only [beq_iff_eq, decide_eq_true_eq]; omega)
theorem cont_test (x : Nat) (h : x < 256) : (x / 64 == 2) = decide (128 ≤ x ∧ x < 192) := by
  rw [Bool.eq_iff_iff]; simp only [beq_iff_eq, decide_eq_true_eq]; omega
theorem decL_first (l : List UInt8) (hl : l ≠ []) : decL l = firstR l := by
  obtain _ | ⟨b, t⟩ := l
  · exact absurd rfl hl
  clear hl
  have hb : b.toNat < 256 := b.toNat_lt
  obtain ⟨t1, t2, t3⟩ := tests b.toNat hb
  unfold decL firstR
  simp only [valid_nat, List.getD_cons_zero, t1, t2, t3]
  clear t1 t2 t3
  by_cases h1 : b.toNat < 128
  · rw [if_pos h1, if_pos h1]
  rw [if_neg h1, if_neg h1]
  by_cases h0 : b.toNat < 192 ∨ 248 ≤ b.toNat
  · have a1 : decide (192 ≤ b.toNat ∧ b.toNat < 224) = false := by simp; omega
    have a2 : decide (224 ≤ b.toNat ∧ b.toNat < 240) = false := by simp; omega
    have a3 : decide (240 ≤ b.toNat ∧ b.toNat < 248) = false := by simp; omega
    simp only [head0 h0, a1, a2, a3, Bool.false_and, true_or, if_true, Bool.false_eq_true, if_false]
  by_cases h2 : b.toNat < 224
  · have a1 : decide (192 ≤ b.toNat ∧ b.toNat < 224) = true := by simp; omega
    have a2 : decide (224 ≤ b.toNat ∧ b.toNat < 240) = false := by simp; omega
    have a3 : decide (240 ≤ b.toNat ∧ b.toNat < 248) = false := by simp; omega
    simp only [head2 (show 192 ≤ b.toNat ∧ b.toNat < 224 by omega), a1, a2, a3, Bool.false_and, Bool.true_and, Bool.false_eq_true, if_false]
    obtain _ | ⟨c1, t⟩ := t
    · simp
    have hc1 : c1.toNat < 256 := c1.toNat_lt
    simp only [List.getD_cons_succ, List.getD_cons_zero, List.length_cons, contF, cont_test _ hc1, lowOf]
    rw [show decide (1 < t.length + 1 + 1) = true by simp, Bool.true_and, if_neg (show ¬ ((2 : Nat) = 0 ∨ t.length + 1 + 1 < 2) by omega)]
    simp only [decide_eq_true_eq]
    generalize c1.toNat = x1 at *
    generalize b.toNat = x0 at *
    by_cases q : x1 < 128 ∨ 192 ≤ x1
    · rw [if_pos q, if_neg (show ¬ (128 ≤ x1 ∧ x1 < 192) by omega)]
    · rw [if_neg q, if_pos (show 128 ≤ x1 ∧ x1 < 192 by omega), show x0 % 32 * 64 + x1 % 64 = 64 * (x0 - 192) + x1 - 128 by omega]
      have hr : 64 * (x0 - 192) + x1 - 128 < 2048 := by omega
      generalize 64 * (x0 - 192) + x1 - 128 = r at *
      dsimp only
      by_cases e : r < 128
      · rw [if_neg (show ¬ r ≥ 128 by omega), if_pos (show r < 128 ∨ 1114111 < r ∨ 55296 ≤ r ∧ r ≤ 57343 by omega)]
      · rw [if_pos (show r ≥ 128 by omega), if_neg (show ¬ (r < 128 ∨ 1114111 < r ∨ 55296 ≤ r ∧ r ≤ 57343) by omega)]
  by_cases h3 : b.toNat < 240
  · have a1 : decide (192 ≤ b.toNat ∧ b.toNat < 224) = false := by simp; omega
    have a2 : decide (224 ≤ b.toNat ∧ b.toNat < 240) = true := by simp; omega
    have a3 : decide (240 ≤ b.toNat ∧ b.toNat < 248) = false := by simp; omega
    simp only [head3 (show 224 ≤ b.toNat ∧ b.toNat < 240 by omega), a1, a2, a3, Bool.false_and, Bool.true_and, Bool.false_eq_true, if_false]
    obtain _ | ⟨c1, _ | ⟨c2, t⟩⟩ := t
    · simp
    · simp
    have hc1 : c1.toNat < 256 := c1.toNat_lt
    have hc2 : c2.toNat < 256 := c2.toNat_lt
    simp only [List.getD_cons_succ, List.getD_cons_zero, List.length_cons, contF, cont_test _ hc1, cont_test _ hc2, lowOf]
    rw [show decide (1 < t.length + 1 + 1 + 1) = true from decide_eq_true (by omega), show decide (2 < t.length + 1 + 1 + 1) = true by simp, Bool.true_and, Bool.true_and, if_neg (show ¬ ((3 : Nat) = 0 ∨ t.length + 1 + 1 + 1 < 3) by omega)]
    simp only [decide_eq_true_eq, Bool.and_eq_true]
    generalize c1.toNat = x1 at *
    generalize c2.toNat = x2 at *
    generalize b.toNat = x0 at *
    by_cases q : x1 < 128 ∨ 192 ≤ x1
    · rw [if_pos q, if_neg (show ¬ ((128 ≤ x1 ∧ x1 < 192) ∧ 128 ≤ x2 ∧ x2 < 192) by omega)]
    rw [if_neg q]
    by_cases q2 : x2 < 128 ∨ 192 ≤ x2
    · rw [if_pos q2, if_neg (show ¬ ((128 ≤ x1 ∧ x1 < 192) ∧ 128 ≤ x2 ∧ x2 < 192) by omega)]
    rw [if_neg q2, if_pos (show (128 ≤ x1 ∧ x1 < 192) ∧ 128 ≤ x2 ∧ x2 < 192 by omega), show x0 % 16 * 4096 + x1 % 64 * 64 + x2 % 64 = 64 * (64 * (x0 - 224) + x1 - 128) + x2 - 128 by omega]
    have hr : 64 * (64 * (x0 - 224) + x1 - 128) + x2 - 128 < 65536 := by omega
    generalize 64 * (64 * (x0 - 224) + x1 - 128) + x2 - 128 = r at *
    dsimp only
    by_cases e : r < 2048 ∨ 1114111 < r ∨ (55296 ≤ r ∧ r ≤ 57343)
    · rw [if_pos e, if_neg (show ¬ (r ≥ 2048 ∧ (r < 55296 ∨ 57344 ≤ r ∧ r ≤ 1114111)) by omega)]
    · rw [if_neg e, if_pos (show r ≥ 2048 ∧ (r < 55296 ∨ 57344 ≤ r ∧ r ≤ 1114111) by omega)]
  · have a1 : decide (192 ≤ b.toNat ∧ b.toNat < 224) = false := by simp; omega
    have a2 : decide (224 ≤ b.toNat ∧ b.toNat < 240) = false := by simp; omega
    have a3 : decide (240 ≤ b.toNat ∧ b.toNat < 248) = true := by simp; omega
    simp only [head4 (show 240 ≤ b.toNat ∧ b.toNat < 248 by omega), a1, a2, a3, Bool.false_and, Bool.true_and, Bool.false_eq_true, if_false]
    obtain _ | ⟨c1, _ | ⟨c2, _ | ⟨c3, t⟩⟩⟩ := t
    · simp
    · simp
    · simp
    have hc1 : c1.toNat < 256 := c1.toNat_lt
    have hc2 : c2.toNat < 256 := c2.toNat_lt
    have hc3 : c3.toNat < 256 := c3.toNat_lt
    simp only [List.getD_cons_succ, List.getD_cons_zero, List.length_cons, contF, cont_test _ hc1, cont_test _ hc2, cont_test _ hc3, lowOf]
    rw [show decide (1 < t.length + 1 + 1 + 1 + 1) = true from decide_eq_true (by omega), show decide (2 < t.length + 1 + 1 + 1 + 1) = true from decide_eq_true (by omega), show decide (3 < t.length + 1 + 1 + 1 + 1) = true by simp, Bool.true_and, Bool.true_and, Bool.true_and, if_neg (show ¬ ((4 : Nat) = 0 ∨ t.length + 1 + 1 + 1 + 1 < 4) by omega)]
    simp only [decide_eq_true_eq, Bool.and_eq_true]
    generalize c1.toNat = x1 at *
    generalize c2.toNat = x2 at *
    generalize c3.toNat = x3 at *
    generalize b.toNat = x0 at *
    by_cases q : x1 < 128 ∨ 192 ≤ x1
    · rw [if_pos q, if_neg (show ¬ (((128 ≤ x1 ∧ x1 < 192) ∧ 128 ≤ x2 ∧ x2 < 192) ∧ 128 ≤ x3 ∧ x3 < 192) by omega)]
    rw [if_neg q]
    by_cases q2 : x2 < 128 ∨ 192 ≤ x2
    · rw [if_pos q2, if_neg (show ¬ (((128 ≤ x1 ∧ x1 < 192) ∧ 128 ≤ x2 ∧ x2 < 192) ∧ 128 ≤ x3 ∧ x3 < 192) by omega)]
    rw [if_neg q2]
    by_cases q3 : x3 < 128 ∨ 192 ≤ x3
    · rw [if_pos q3, if_neg (show ¬ (((128 ≤ x1 ∧ x1 < 192) ∧ 128 ≤ x2 ∧ x2 < 192) ∧ 128 ≤ x3 ∧ x3 < 192) by omega)]
    rw [if_neg q3, if_pos (show ((128 ≤ x1 ∧ x1 < 192) ∧ 128 ≤ x2 ∧ x2 < 192) ∧ 128 ≤ x3 ∧ x3 < 192 by omega), show x0 % 8 * 262144 + x1 % 64 * 4096 + x2 % 64 * 64 + x3 % 64 = 64 * (64 * (64 * (x0 - 240) + x1 - 128) + x2 - 128) + x3 - 128 by omega]
    generalize 64 * (64 * (64 * (x0 - 240) + x1 - 128) + x2 - 128) + x3 - 128 = r
    dsimp only
    by_cases e : r < 65536 ∨ 1114111 < r ∨ (55296 ≤ r ∧ r ≤ 57343)
    · rw [if_pos e, if_neg (show ¬ (r ≥ 65536 ∧ (r < 55296 ∨ 57344 ≤ r ∧ r ≤ 1114111)) by omega)]
    · rw [if_neg e, if_pos (show r ≥ 65536 ∧ (r < 55296 ∨ 57344 ≤ r ∧ r ≤ 1114111) by omega)]
theorem decode_first (s : ByteArray) (i : Nat) (h : i < s.size) : Utf8.decode s i = firstR ((ls s).drop i) := by
  rw [decode_list, decL_first _ (fun e => by
    have := congrArg List.length e
    rw [List.length_drop, ls_length] at this
    simp at this
    omega)]
end Go.Proofs.YtfpodnleimhohabGreatDoor
