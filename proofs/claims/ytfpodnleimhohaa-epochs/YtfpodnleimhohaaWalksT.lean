/-
  WALKS: pick, turn.
-/
import Derived.Test.YtfpodnleimhohaaWalksS
namespace Go.Proofs.Ytfpodnleimhohaa
open Go.RowKit
set_option linter.unusedVariables false

/-- Which of n things a raw number speaks of. -/
def pickN (c : Int) (n : Nat) : Nat := (if c < 0 then -(c + 1) else c).toNat % n
theorem pickN_lt (c : Int) {n : Nat} (h : 1 ≤ n) : pickN c n < n := Nat.mod_lt _ (by omega)

set_option maxRecDepth 4000 in
set_option maxHeartbeats 400000 in
theorem pick_any (c : Int) (n : Nat) (h0 : -9223372036854775808 ≤ c) (h1 : c ≤ 9223372036854775807) (hn1 : 1 ≤ n) (hn : n ≤ 4294967296) (w : World) :
    Calls Try.prog 28 #[.int .i64 c, .int .i64 n] w fun e w' => e = .returned (.int .i64 (pickN c n : Nat)) ∧ w' = w := by
  have hn0 : ((n : Int) == 0) = false := by simp; omega
  by_cases hc : c < 0
  · have HP : Hid (-((c + 1).tmod (n : Int)) = ((pickN c n : Nat) : Int)) := by
      show _ = _
      unfold pickN
      rw [if_pos hc, ← Int.neg_tmod, Int.tmod_eq_emod_of_nonneg (by omega)]
      obtain ⟨m, hm⟩ := Int.eq_ofNat_of_zero_le (show 0 ≤ -(c + 1) by omega)
      rw [hm, ← Int.natCast_emod]; rfl
    go_enter Try.func28, Try.ntmps28
    go_wp2
    go_ret
    exact ⟨ret_intP HP.out, rfl⟩
  · have HP : Hid (c % (n : Int) = ((pickN c n : Nat) : Int)) := by
      show _ = _
      unfold pickN
      rw [if_neg hc]
      obtain ⟨m, hm⟩ := Int.eq_ofNat_of_zero_le (show 0 ≤ c by omega)
      rw [hm, ← Int.natCast_emod]; rfl
    go_enter Try.func28, Try.ntmps28
    go_wp2
    go_ret
    exact ⟨ret_intP HP.out, rfl⟩

set_option maxRecDepth 4000 in
set_option maxHeartbeats 400000 in
theorem turn_any (seed n i : Nat) (hs : Hid (seed < 18446744073709551616)) (hn : n ≤ 65536) (hi : i < n) (w : World) :
    Calls Try.prog 27 #[.int .u64 seed, .int .u32 n, .int .u32 i] w fun e w' => e = .returned (.tuple #[.int .u32 (place seed n i : Nat), .bool true]) ∧ ∃ k, w' = w.drewN k := by
  have hpl : place seed n i < n := (place_perm seed hn).maps i hi
  have HA : Hid (placeAns seed n i = (place seed n i, 0)) := if_pos ⟨hi, hn⟩
  have HB : Hid (backAns seed n (place seed n i) = (i, 0)) := by show _ = _; rw [← back_place seed hn hi]; rw [back_place seed hn hi]; exact (if_pos ⟨hpl, hn⟩).trans (by rw [back_place seed hn hi])
  generalize place seed n i = p at *
  go_enter Try.func27, Try.ntmps27
  go_wp2_with fail
  refine (drillPlace_any seed n i hs (by omega) (by omega) _).mono ?_
  rintro e w1 ⟨rfl, n1, rfl⟩
  rw [HA.out]
  go_wp2_with fail
  refine (drillBack_any seed n p hs (by omega) (by omega) _).mono ?_
  rintro e w1 ⟨rfl, n2, rfl⟩
  rw [HB.out]
  go_wp2
  go_ret2
  exact ⟨rfl, _, rfl⟩
end Go.Proofs.Ytfpodnleimhohaa
