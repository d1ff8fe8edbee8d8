/-
  WALKS: what the statements without the document's answer are made of: the fixed frame, a text cut short.
-/
import Derived.Test.YtfpodnleimhohaaWalks6
import Derived.Test.YtfpodnleimhohaaMath3
namespace Go.Proofs.Ytfpodnleimhohaa
open Go.RowKit
set_option linter.unusedVariables false

/-- The frame that the document fixes. -/
theorem first_frame : frame 1 [97, 98] = [213, 3, 1, 97, 98, 183, 233, 217, 33] := by decide +kernel

set_option maxRecDepth 4000 in
set_option maxHeartbeats 400000 in
theorem first_any (w : World) : Calls Try.prog 16 #[] w fun e w' => e = .returned (.bool true) ∧ Below w.heap.size w w' := by
  have HA : Hid (frameAns 1 ⟨#[97, 98]⟩ = (⟨#[213, 3, 1, 97, 98, 183, 233, 217, 33]⟩, 0)) := by
    show frameAns 1 ⟨#[97, 98]⟩ = _
    rw [frameAns_ok _ _ (by omega) (by decide)]
    show (bs (frame 1 [97, 98]), (0 : Int)) = _
    rw [first_frame]; rfl
  go_enter Try.func16, Try.ntmps16
  go_wp2_with fail
  refine (drillFrame_any 1 ⟨#[97, 98]⟩ (by omega) (by omega) (by decide) _).mono ?_
  rintro e w1 ⟨rfl, hb1⟩
  rw [HA.out]
  go_wp2
  go_ret
  exact ⟨rfl, hb1⟩

set_option maxHeartbeats 400000 in
theorem some_any (s : ByteArray) (n : Nat) (hs : s.size ≤ maxLen) (hn : n ≤ 1000) (w : World) :
    Calls Try.prog 22 #[.string s, .int .i64 n] w fun e w' => e = .returned (.string (bs ((ls s).take n))) ∧ w' = w := by
  unfold maxLen at hs
  by_cases h : n < s.size
  · have HE : Hid (s.extract 0 n = bs ((ls s).take n)) := ls_inj (by rw [ls_cut, ls_bs]; simp)
    go_enter Try.func22, Try.ntmps22
    go_wp2
    go_ret
    exact ⟨ret_str HE.out, rfl⟩
  · have HE : Hid (s = bs ((ls s).take n)) := by
      show s = _
      rw [List.take_of_length_le (by rw [ls_length]; omega), bs_ls]
    go_enter Try.func22, Try.ntmps22
    go_wp2
    go_ret
    exact ⟨ret_str HE.out, rfl⟩
end Go.Proofs.Ytfpodnleimhohaa
