/-
  WALKS: the document's best, scores.
-/
import Derived.Test.YtfpodnleimhohabGreatDoorGen
import Derived.Test.YtfpodnleimhohabGreatDoorWalksX
namespace Go.Proofs.YtfpodnleimhohabGreatDoor
open Go.RowKit
set_option linter.unusedVariables false

set_option maxRecDepth 100000 in
set_option maxHeartbeats 1000000 in
theorem best_any (s : Nat → Int) (but : Int) (hb : -1 ≤ but ∧ but < 4) (w : World) :
    Calls Tryz.prog 39 #[.agg (tab 4 s).toArray, .int .i64 but] w fun e w' => e = .returned (.int .i64 (bestN s but : Nat)) ∧ Below w.heap.size w w' := by
  have HE : Hid (((bestN s but : Nat) : Int) = bestF s but 4) := by
    show _ = _
    have := bestF_some s but 4 (by decide)
    unfold bestN; omega
  rw [HE.out]
  obtain ⟨hb1, hb2⟩ := hb
  obtain ⟨cs, Hcs⟩ : ∃ cs, Hid (tab 4 s = cs) := ⟨_, (rfl : _ = _)⟩
  rw [Hcs.out]
  go_enter Tryz.func39, Tryz.ntmps39
  go_wp2_with fail
  obtain ⟨w1, Hw1⟩ : ∃ w1, Hid (w.alloc (.cells cs.toArray 119) = w1) := ⟨_, (rfl : _ = _)⟩
  rw [Hw1.out]
  have HC : Hid (∀ k, k < 4 → w1.cell? ⟨w.heap.size, k, none⟩ = some (.int .i64 (s k))) := fun k hk => by
    have h : CellsAt w1 w.heap.size 119 cs := by rw [← Hw1.out]; exact CellsAt.new w _ _ _ rfl rfl
    rw [h.cell, ← Hcs.out]; exact tab_get s hk
  have HB : Hid (Below w.heap.size w w1) := by rw [← Hw1.out]; exact (Below.refl _ _).alloc (Nat.le_refl _) _
  clear Hw1
  go_loopw [5, 6] (fun ov cv wr => ∃ (k nq : Nat) (o : Int), k ≤ 4 ∧ cv = .int .i64 k ∧ ov = .int .i64 o ∧ -1 ≤ o ∧ o < k ∧ Hid (bestF s but k = o) ∧ wr = w1.drewN nq) (fun _ c _ => 4 - (intOf c).toNat)
  case atStart => exact ⟨0, 0, -1, by omega, rfl, rfl, by omega, by omega, (rfl : _ = _), rfl⟩
  case round =>
    obtain ⟨k, nq, o, hk, rfl, rfl, ho1, ho2, HO, rfl⟩ := hrel
    by_cases hlt : k < 4
    · by_cases hA : (k : Int) = but
      · have HN : Hid _ := bestF_next_no HO.out (fun h => h.1 hA)
        have hA' : ((k : Int) == but) = true := by simp [hA]
        subst hA
        go_wp2
        go_quiet (fail)
        go_wp2
        go_roundw
        case rel => exact ⟨k + 1, _, o, by omega, by go_num, rfl, ho1, by omega, HN, rfl⟩
        case measure => simp [intOf]; omega
      · have hA' : ((k : Int) != but) = true := by simp [hA]
        by_cases hB : o < 0
        · have HN : Hid _ := bestF_next_yes HO.out hA (.inl hB)
          obtain rfl : o = -1 := by omega
          go_wp2
          go_quiet (fail)
          go_wp2
          go_roundw
          case rel => exact ⟨k + 1, _, k, by omega, by go_num, rfl, by omega, by omega, HN, rfl⟩
          case measure => simp [intOf]; omega
        · obtain ⟨m, rfl⟩ := Int.eq_ofNat_of_zero_le (show 0 ≤ o by omega)
          have hm4 : m < 4 := by omega
          have hm0 : decide ((m : Int) < 0) = false := by simp
          have c1 := HC.out k hlt
          have c2 := HC.out m (by omega)
          by_cases hD : s m < s k
          · have HN : Hid _ := bestF_next_yes HO.out hA (.inr hD)
            have hd : decide (s m < s k) = true := by simp [hD]
            generalize s k = sk at *
            generalize s m = sm at *
            go_wp2
            go_quiet (fail)
            go_wp2
            go_roundw
            case rel => exact ⟨k + 1, _, k, by omega, by go_num, rfl, by omega, by omega, HN, rfl⟩
            case measure => simp [intOf]; omega
          · have HN : Hid _ := bestF_next_no HO.out (fun h => h.2.elim (fun e => hB e) (fun e => hD e))
            have hd : decide (s m < s k) = false := by simp [hD]
            generalize s k = sk at *
            generalize s m = sm at *
            go_wp2
            go_quiet (fail)
            go_wp2
            go_roundw
            case rel => exact ⟨k + 1, _, m, by omega, by go_num, rfl, by omega, by omega, HN, rfl⟩
            case measure => simp [intOf]; omega
    · obtain rfl : k = 4 := by omega
      go_wp2
      rw [HO.out]
      go_ret
      exact ⟨rfl, below_drewN HB.out _⟩
end Go.Proofs.YtfpodnleimhohabGreatDoor
