/-
  WALKS: two lists of numbers, of weights held against each other.
-/
import Derived.Test.YtfpodnleimhohaaGen
namespace Go.Proofs.Ytfpodnleimhohaa
open Go.RowKit
set_option linter.unusedVariables false

theorem wCells_get {n i : Nat} (f : Nat → Int) (h : i < n) : (wCells f n)[i]? = some (.int .i32 (f i)) := by
  unfold wCells
  rw [List.getElem?_map, List.getElem?_range h]; rfl
theorem intCells_tab (l : List Nat) : intCells l = tab l.length (fun i => ((l.getD i 0 : Nat) : Int)) := by
  apply List.ext_getElem?
  intro i
  by_cases h : i < l.length
  · rw [tab_get _ h, intCells_get (List.getElem?_eq_getElem h), List.getD_eq_getElem?_getD, List.getElem?_eq_getElem h]; rfl
  · rw [List.getElem?_eq_none (by simp [intCells]; omega), List.getElem?_eq_none (by rw [tab_length]; omega)]
set_option maxRecDepth 100000 in
set_option maxHeartbeats 2000000 in
theorem keepInts_same (bA bB : Nat) (vA vB : Value) (f : Nat → Int) (n : Nat) (w : World) (hA : w.ownsRow bA 3 1 vA n (tab n f)) (hB : w.ownsRow bB 3 1 vB n (tab n f)) (hn : n ≤ 100000) :
    Calls Try.prog 33 #[vA, vB] w fun e w' => e = .returned (.bool true) ∧ ∃ n, w' = w.drewN n := by
  obtain ⟨aA, cA, rfl, hA1, hA2, HAd⟩ := own_read hA
  obtain ⟨aB, cB, rfl, hB1, hB2, HBd⟩ := own_read hB
  unfold maxLen at hA2 hB2
  have HA : Hid _ := HAd
  have HB : Hid _ := HBd
  clear HAd HBd hA hB
  go_enter Try.func33, Try.ntmps33
  go_wp2
  go_loopw [5] (fun i wr => ∃ k nq : Nat, k ≤ n ∧ i = .int .i64 k ∧ wr = w.drewN nq) (fun i _ => n - (intOf i).toNat)
  case atStart => exact ⟨0, 0, by omega, rfl, rfl⟩
  case round =>
    obtain ⟨k, nq, hk, rfl, rfl⟩ := hrel
    by_cases hlt : k < n
    · obtain ⟨gA, rfl, _, _, hgA⟩ := HA.out (by omega)
      obtain ⟨gB, rfl, _, _, hgB⟩ := HB.out (by omega)
      have q0 : (tab n f)[k]? = some (.int .i64 (f k)) := tab_get f hlt
      have a0 := (hgA k (by omega)).trans q0
      have b0 := (hgB k (by omega)).trans q0
      clear hgA hgB q0
      generalize f k = x0 at *
      have hki : (k : Int) < (n : Int) := by omega
      go_wp2
      go_quiet (fail)
      go_wp2
      go_roundw
      case rel => exact ⟨k + 1, _, by omega, by go_num, rfl⟩
      case measure => simp [intOf]; omega
    · go_wp2
      go_ret
      exact ⟨rfl, _, rfl⟩
set_option maxRecDepth 100000 in
set_option maxHeartbeats 2000000 in
theorem keepWeights_same (bA bB : Nat) (vA vB : Value) (f : Nat → Int) (n : Nat) (w : World) (hA : w.ownsRow bA 21 1 vA n (wCells f n)) (hB : w.ownsRow bB 21 1 vB n (wCells f n)) (hn : n ≤ 100000) :
    Calls Try.prog 57 #[vA, vB] w fun e w' => e = .returned (.bool true) ∧ ∃ n, w' = w.drewN n := by
  obtain ⟨aA, cA, rfl, hA1, hA2, HAd⟩ := own_read hA
  obtain ⟨aB, cB, rfl, hB1, hB2, HBd⟩ := own_read hB
  unfold maxLen at hA2 hB2
  have HA : Hid _ := HAd
  have HB : Hid _ := HBd
  clear HAd HBd hA hB
  go_enter Try.func57, Try.ntmps57
  go_wp2
  go_loopw [5] (fun i wr => ∃ k nq : Nat, k ≤ n ∧ i = .int .i64 k ∧ wr = w.drewN nq) (fun i _ => n - (intOf i).toNat)
  case atStart => exact ⟨0, 0, by omega, rfl, rfl⟩
  case round =>
    obtain ⟨k, nq, hk, rfl, rfl⟩ := hrel
    by_cases hlt : k < n
    · obtain ⟨gA, rfl, _, _, hgA⟩ := HA.out (by omega)
      obtain ⟨gB, rfl, _, _, hgB⟩ := HB.out (by omega)
      have q0 : (wCells f n)[k]? = some (.int .i32 (f k)) := wCells_get f hlt
      have a0 := (hgA k (by omega)).trans q0
      have b0 := (hgB k (by omega)).trans q0
      clear hgA hgB q0
      generalize f k = x0 at *
      have hki : (k : Int) < (n : Int) := by omega
      go_wp2
      go_quiet (fail)
      go_wp2
      go_roundw
      case rel => exact ⟨k + 1, _, by omega, by go_num, rfl⟩
      case measure => simp [intOf]; omega
    · go_wp2
      go_ret
      exact ⟨rfl, _, rfl⟩
end Go.Proofs.Ytfpodnleimhohaa
