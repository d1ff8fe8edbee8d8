/-
  WALKS: two lists held against each other.
-/
import Derived.Test.YtfpodnleimhohaaWalks9
namespace Go.Proofs.Ytfpodnleimhohaa
open Go.RowKit
set_option linter.unusedVariables false

set_option maxRecDepth 100000 in
set_option maxHeartbeats 2000000 in
theorem sameRecords_any (bA bB : Nat) (vA vB : Value) (R : List Rc) (w : World) (hA : w.ownsRow bA 52 4 vA R.length (recsCells R)) (hB : w.ownsRow bB 52 4 vB R.length (recsCells R)) (hR : R.length ≤ 100000) :
    Calls Try.prog 42 #[vA, vB] w fun e w' => e = .returned (.bool true) ∧ ∃ n, w' = w.drewN n := by
  obtain ⟨aA, cA, rfl, hA1, hA2, HAd⟩ := own_read hA
  obtain ⟨aB, cB, rfl, hB1, hB2, HBd⟩ := own_read hB
  unfold maxLen at hA2 hB2
  have HA : Hid _ := HAd
  have HB : Hid _ := HBd
  clear HAd HBd hA hB
  go_enter Try.func42, Try.ntmps42
  go_wp2
  go_loopw [5] (fun i wr => ∃ k nq : Nat, k ≤ R.length ∧ i = .int .i64 k ∧ wr = w.drewN nq) (fun i _ => R.length - (intOf i).toNat)
  case atStart => exact ⟨0, 0, by omega, rfl, rfl⟩
  case round =>
    obtain ⟨k, nq, hk, rfl, rfl⟩ := hrel
    by_cases hlt : k < R.length
    · obtain ⟨gA, rfl, _, _, hgA⟩ := HA.out (by omega)
      obtain ⟨gB, rfl, _, _, hgB⟩ := HB.out (by omega)
      obtain ⟨q0, q1, q2, q3⟩ := rec_get (List.getElem?_eq_getElem hlt)
      have a0 := (hgA (k * 4) (by omega)).trans q0
      have a1 := (hgA (k * 4 + 1) (by omega)).trans q1
      have a2 := (hgA (k * 4 + 2) (by omega)).trans q2
      have a3 := (hgA (k * 4 + 3) (by omega)).trans q3
      have b0 := (hgB (k * 4) (by omega)).trans q0
      have b1 := (hgB (k * 4 + 1) (by omega)).trans q1
      have b2 := (hgB (k * 4 + 2) (by omega)).trans q2
      have b3 := (hgB (k * 4 + 3) (by omega)).trans q3
      clear hgA hgB q0 q1 q2 q3
      generalize (R[k]'hlt).fr = x0 at *
      generalize (R[k]'hlt).to = x1 at *
      generalize (((R[k]'hlt).bd.headD 0).toNat : Int) = x2 at *
      generalize bs (R[k]'hlt).bd.tail = x3 at *
      have hki : (k : Int) < (R.length : Int) := by omega
      go_wp2
      go_quiet (fail)
      go_wp2
      go_roundw
      case rel => exact ⟨k + 1, _, by omega, by go_num, rfl⟩
      case measure => simp [intOf]; omega
    · go_wp2
      go_ret
      exact ⟨rfl, _, rfl⟩

set_option maxRecDepth 100000 in
set_option maxHeartbeats 2000000 in
theorem sameGaps_any (bA bB : Nat) (vA vB : Value) (G : List (Nat × Nat)) (w : World) (hA : w.ownsRow bA 50 2 vA G.length (gapsCells G)) (hB : w.ownsRow bB 50 2 vB G.length (gapsCells G)) (hG : G.length ≤ 100000) :
    Calls Try.prog 43 #[vA, vB] w fun e w' => e = .returned (.bool true) ∧ ∃ n, w' = w.drewN n := by
  obtain ⟨aA, cA, rfl, hA1, hA2, HAd⟩ := own_read hA
  obtain ⟨aB, cB, rfl, hB1, hB2, HBd⟩ := own_read hB
  unfold maxLen at hA2 hB2
  have HA : Hid _ := HAd
  have HB : Hid _ := HBd
  clear HAd HBd hA hB
  go_enter Try.func43, Try.ntmps43
  go_wp2
  go_loopw [5] (fun i wr => ∃ k nq : Nat, k ≤ G.length ∧ i = .int .i64 k ∧ wr = w.drewN nq) (fun i _ => G.length - (intOf i).toNat)
  case atStart => exact ⟨0, 0, by omega, rfl, rfl⟩
  case round =>
    obtain ⟨k, nq, hk, rfl, rfl⟩ := hrel
    by_cases hlt : k < G.length
    · obtain ⟨gA, rfl, _, _, hgA⟩ := HA.out (by omega)
      obtain ⟨gB, rfl, _, _, hgB⟩ := HB.out (by omega)
      obtain ⟨q0, q1⟩ := gap_get (List.getElem?_eq_getElem hlt)
      have a0 := (hgA (k * 2) (by omega)).trans q0
      have a1 := (hgA (k * 2 + 1) (by omega)).trans q1
      have b0 := (hgB (k * 2) (by omega)).trans q0
      have b1 := (hgB (k * 2 + 1) (by omega)).trans q1
      clear hgA hgB q0 q1
      generalize (G[k]'hlt).1 = x0 at *
      generalize (G[k]'hlt).2 = x1 at *
      have hki : (k : Int) < (G.length : Int) := by omega
      go_wp2
      go_quiet (fail)
      go_wp2
      go_roundw
      case rel => exact ⟨k + 1, _, by omega, by go_num, rfl⟩
      case measure => simp [intOf]; omega
    · go_wp2
      go_ret
      exact ⟨rfl, _, rfl⟩
end Go.Proofs.Ytfpodnleimhohaa
