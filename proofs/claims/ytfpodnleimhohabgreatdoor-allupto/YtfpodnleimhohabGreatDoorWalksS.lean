/-
  WALKS: the program's Place and Back.
-/
import Derived.Test.YtfpodnleimhohabGreatDoorWalksR
namespace Go.Proofs.YtfpodnleimhohabGreatDoor
open Go.RowKit
set_option linter.unusedVariables false

/-- The round undone, of the order of n numbers. -/
def undoOf (seed n : Nat) : Nat → Nat := unroundN (turnF seed) (sideOf n)
theorem back_ret (seed : Nat) {n i : Nat} (hn : n ≤ 65536) (hi : i < n) : ∃ k, Ret (undoOf seed n) n i k (back seed n i) := by
  obtain ⟨h1, h2⟩ := back_ok seed hn hi
  obtain ⟨k, _, hr⟩ := place_ret seed hn h1
  have := placeOf_back (roundOf_perm seed n) (g := undoOf seed n) (fun x hx => unround_round (turnF seed) (bitsOf n) x hx) (bitsOf_ok n hn).2.2 h1 hr
  refine ⟨k, ?_⟩
  have e : placeOf (roundOf seed n) (sideOf n * sideOf n) n (back seed n i) = i := h2
  rw [e] at this
  exact this
theorem undo_lt (seed n x : Nat) (hx : x < sideOf n * sideOf n) : undoOf seed n x < sideOf n * sideOf n := unround_lt (turnF seed) (bitsOf n) x hx

set_option maxRecDepth 4000 in
set_option maxHeartbeats 1000000 in
theorem ordPlace_any (seed n i : Nat) (hs : Hid (seed < 18446744073709551616)) (hn : n < 4294967296) (hi : i < 4294967296) (w : World) :
    Calls Tryz.prog 81 #[.int .u64 seed, .int .u32 n, .int .u32 i] w fun e w' => e = .returned (.tuple #[.int .u32 ((placeAns seed n i).1 : Nat), .int .i64 ((placeAns seed n i).2 : Nat)]) ∧ ∃ k, w' = w.drewN k := by
  by_cases hok : i < n ∧ n ≤ 65536
  · have HD : Hid (decide (i < n ∧ n ≤ 65536) = true) := by show _ = _; simp [hok]
    obtain ⟨hin, hn6⟩ := hok
    have HA : Hid (placeAns seed n i = (place seed n i, 0)) := if_pos ⟨hin, hn6⟩
    obtain ⟨kk, hkk, HRet0⟩ := place_ret seed hn6 hin
    have HRet : Hid _ := HRet0
    clear HRet0 hkk
    rw [HA.out]
    obtain ⟨p, Hp⟩ : ∃ p, Hid (place seed n i = p) := ⟨_, (rfl : _ = _)⟩
    rw [Hp.out] at HRet ⊢
    have HB : Hid _ := bitsOf_ok n hn6
    have HPm : Hid _ := roundOf_perm seed n
    obtain ⟨sN, HSide⟩ : ∃ sN, Hid (sideOf n = sN) := ⟨_, (rfl : _ = _)⟩
    have HRo : Hid (roundOf seed n = roundN (turnF seed) sN) := by show _ = _; unfold roundOf; rw [HSide.out]
    rw [HSide.out] at HPm
    obtain ⟨b, Hb⟩ : ∃ b, Hid (bitsOf n = b) := ⟨_, (rfl : _ = _)⟩
    have HsN : Hid (sN = 2 ^ b) := by show _ = _; rw [← HSide.out, ← Hb.out]; rfl
    rw [Hb.out] at HB
    have hb1 : 1 ≤ b ∧ b ≤ 8 := ⟨HB.out.1, HB.out.2.1⟩
    have hs2 : 2 ≤ sN := by rw [HsN.out]; exact side_ge hb1.1
    have hs256 : sN ≤ 256 := by rw [HsN.out]; exact side_le hb1.2
    obtain ⟨M, HMM⟩ : ∃ M, Hid (sN * sN = M) := ⟨_, (rfl : _ = _)⟩
    have hMn : n ≤ M := by rw [← HMM.out, HsN.out]; exact HB.out.2.2
    have hM6 : M ≤ 65536 := by rw [← HMM.out]; exact Nat.le_trans (Nat.mul_le_mul hs256 hs256) (by decide)
    rw [HMM.out] at HPm
    have hkp : 1 ≤ kk := HRet.out.pos
    obtain ⟨X0, HX0⟩ : ∃ X, Hid (roundN (turnF seed) sN i = X) := ⟨_, (rfl : _ = _)⟩
    have hXM0 : X0 < M := by have := HPm.out.maps i (by omega); rw [HRo.out, HX0.out] at this; exact this
    go_enter Tryz.func81, Tryz.ntmps81
    go_wp2_with fail
    refine (inRange_any n i hn hi _).mono ?_
    rintro e w1 ⟨rfl, hw⟩
    have hw' := hw.symm
    clear hw
    subst hw'
    rw [HD.out]
    go_wp2_with fail
    refine (halfBits_any n hn6 _).mono ?_
    rintro e w1 ⟨rfl, hw⟩
    have hw' := hw.symm
    clear hw
    subst hw'
    rw [Hb.out]
    go_wp2_with fail
    refine (ordRound_any seed i b hs hb1.1 hb1.2 sN HsN ⟨hs2, hs256⟩ (by rw [HMM.out]; omega) _).mono ?_
    rintro e w1 ⟨rfl, nq, rfl⟩
    rw [HX0.out]
    go_wp2_with fail
    go_loopg [9] (kk - 1) (fun g xv wq => ∃ (j X nq : Nat), 1 ≤ j ∧ j + g = kk ∧ xv = .int .u32 X ∧ X < M ∧ Hid (iter (roundOf seed n) j i = X) ∧ wq = w.drewN nq)
    case atStart => exact ⟨1, X0, nq, by omega, by omega, rfl, hXM0, (by show roundOf seed n i = X0; rw [HRo.out]; exact HX0.out), rfl⟩
    case round =>
      obtain ⟨j, X, nq, hj1, hjk, rfl, hXM, HX, rfl⟩ := hrel
      rcases HRet.out.next hj1 (by omega) with ⟨a1, a2⟩ | ⟨a1, a2⟩
      · rw [HX.out] at a1
        have HXN : Hid (iter (roundOf seed n) (j + 1) i = roundN (turnF seed) sN X) := by show roundOf seed n (iter (roundOf seed n) j i) = _; rw [HX.out, HRo.out]
        have hXN : roundN (turnF seed) sN X < M := by have := HPm.out.maps X hXM; rw [HRo.out] at this; exact this
        go_wp2_with fail
        refine (ordRound_any seed X b hs hb1.1 hb1.2 sN HsN ⟨hs2, hs256⟩ (by rw [HMM.out]; omega) _).mono ?_
        rintro e w1 ⟨rfl, nq', rfl⟩
        generalize roundN (turnF seed) sN X = Y at *
        go_wp2
        go_roundg (gk - 1)
        case measure => omega
        case rel => exact ⟨j + 1, Y, _, by omega, by omega, rfl, hXN, HXN, rfl⟩
      · rw [HX.out] at a1 a2
        subst a2
        go_wp2
        go_ret2
        exact ⟨rfl, _, rfl⟩
  · have HA : Hid (placeAns seed n i = (0, 3)) := if_neg hok
    have HD : Hid (decide (i < n ∧ n ≤ 65536) = false) := by show _ = _; simp only [decide_eq_false_iff_not]; exact hok
    rw [HA.out]
    go_enter Tryz.func81, Tryz.ntmps81
    go_wp2_with fail
    refine (inRange_any n i hn hi _).mono ?_
    rintro e w1 ⟨rfl, hw⟩
    have hw' := hw.symm
    clear hw
    subst hw'
    rw [HD.out]
    go_wp2
    go_ret2
    exact ⟨rfl, 0, rfl⟩

end Go.Proofs.YtfpodnleimhohabGreatDoor
