/-
  WALKS: what the statements without the document's answer are made of: the fixed frame, a text cut short.
-/
import Derived.Test.YtfpodnleimhohabWalks6
import Derived.Test.YtfpodnleimhohabMath3
namespace Go.Proofs.Ytfpodnleimhohab
open Go.RowKit
set_option linter.unusedVariables false

/-- The frame that the document fixes. -/
theorem first_frame : frame 1 [97, 98] = [213, 3, 1, 97, 98, 183, 233, 217, 33] := by decide +kernel

set_option maxHeartbeats 400000 in
theorem some_any (s : ByteArray) (n : Nat) (hs : s.size ≤ maxLen) (hn : n ≤ 1000) (w : World) :
    Calls Try.prog 23 #[.string s, .int .i64 n] w fun e w' => e = .returned (.string (bs ((ls s).take n))) ∧ w' = w := by
  unfold maxLen at hs
  by_cases h : n < s.size
  · have HE : Hid (s.extract 0 n = bs ((ls s).take n)) := ls_inj (by rw [ls_cut, ls_bs]; simp)
    go_enter Try.func23, Try.ntmps23
    go_wp2
    go_ret
    exact ⟨ret_str HE.out, rfl⟩
  · have HE : Hid (s = bs ((ls s).take n)) := by
      show s = _
      rw [List.take_of_length_le (by rw [ls_length]; omega), bs_ls]
    go_enter Try.func23, Try.ntmps23
    go_wp2
    go_ret
    exact ⟨ret_str HE.out, rfl⟩
end Go.Proofs.Ytfpodnleimhohab
