/-
  WALKS: the document's small functions of the learner: cut, down, four, bucket.
-/
import Derived.Test.YtikmccnhhdemnaaMathL
import Derived.Test.YtikmccnhhdemnaaOwn
import Derived.Deep.LoopGhost
namespace Go.Proofs.Ytikmccnhhdemnaa
open Go.RowKit
set_option linter.unusedVariables false

theorem ret_intU {k : IntKind} {a b : Int} (h : a = b) : Ending.returned (.int k a) = .returned (.int k b) := by rw [h]
theorem info_int : (Try.prog.info? 3).map (fun i => (i.zero, i.size, i.bytes)) = some (some (.int .i64 0), 1, 8) := by kernel_rfl

theorem tdiv_two (y : Int) : y.tdiv 2 = if 0 ≤ y ∨ y % 2 = 0 then y / 2 else y / 2 + 1 := by
  rw [Int.tdiv_eq_ediv]
  by_cases h : 0 ≤ y ∨ y % 2 = 0
  · rw [if_pos h, if_pos (h.imp id Int.dvd_of_emod_eq_zero)]; omega
  · rw [if_neg h, if_neg (fun e => h (e.imp id Int.emod_eq_zero_of_dvd))]; rfl
theorem tdiv_low (y : Int) (h : y < 0 ∧ y.tdiv 2 * 2 ≠ y) : y.tdiv 2 - 1 = y / 2 := by
  have e := tdiv_two y
  rw [e] at h ⊢
  split at h <;> split <;> omega
theorem tdiv_same (y : Int) (h : ¬ (y < 0 ∧ y.tdiv 2 * 2 ≠ y)) : y.tdiv 2 = y / 2 := by
  have e := tdiv_two y
  rw [e] at h ⊢
  split at h <;> split <;> omega
/-! ### four, bucket -/
theorem four_eq (r : Nat) : ([r / 16777216 % 256, r / 65536 % 256, r / 256 % 256, r % 256].map fun x : Nat => Value.int .i64 (x : Int)) = (fourN r).map fun x : Nat => Value.int .i64 (x : Int) := rfl
theorem hash_eq (H x : Nat) (hH : H < 4294967296) (hx : x < 256) : bits BinOp.xor IntKind.u32 (H : Int) (x : Int) * 16777619 % 4294967296 = ((hashF H x : Nat) : Int) := by
  rw [u32_xor_nat _ _ hH (by omega)]
  unfold hashF
  generalize H ^^^ x = y
  omega
end Go.Proofs.Ytikmccnhhdemnaa
