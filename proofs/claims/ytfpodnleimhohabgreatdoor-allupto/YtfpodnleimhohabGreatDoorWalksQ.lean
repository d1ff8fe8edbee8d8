/-
  WALKS: the document's Place and Back.
-/
import Derived.Test.YtfpodnleimhohabGreatDoorWalksP
namespace Go.Proofs.YtfpodnleimhohabGreatDoor
open Go.RowKit
set_option linter.unusedVariables false

/-- The answers of Place and Back. -/
def placeAns (seed n i : Nat) : Nat × Nat := if i < n ∧ n ≤ 65536 then (place seed n i, 0) else (0, 3)
def backAns (seed n i : Nat) : Nat × Nat := if i < n ∧ n ≤ 65536 then (back seed n i, 0) else (0, 3)

theorem side_le {h : Nat} (h8 : h ≤ 8) : 2 ^ h ≤ 256 := Nat.pow_le_pow_right (n := 2) (by decide) h8
theorem side_ge {h : Nat} (h1 : 1 ≤ h) : 2 ≤ 2 ^ h := by
  have := Nat.pow_le_pow_right (n := 2) (by decide) h1
  simpa using this
theorem mul_wrap (s : Nat) (hs : s ≤ 256) : IntKind.u64.wrap ((s : Int) * (s : Int)) = ((s * s : Nat) : Int) := by
  have h1 : s * s ≤ 256 * 256 := Nat.mul_le_mul hs hs
  rw [← Int.natCast_mul, wrap64_nat _ (by omega)]
/-- One round more of the way to the first return. -/
theorem Ret.next {f : Nat → Nat} {n x k y j : Nat} (h : Ret f n x k y) (h1 : 1 ≤ j) (hj : j ≤ k) : (n ≤ iter f j x ∧ j < k) ∨ (iter f j x < n ∧ iter f j x = y) := by
  by_cases e : j = k
  · subst e; exact .inr ⟨by rw [h.val]; exact h.low, h.val⟩
  · exact .inl ⟨h.high j h1 (by omega), by omega⟩

set_option maxRecDepth 4000 in
set_option maxHeartbeats 1000000 in
theorem refPlace_any (seed n i : Nat) (hs : Hid (seed < 18446744073709551616)) (hn : n < 4294967296) (hi : i < 4294967296) (w : World) :
    Calls Tryz.prog 69 #[.int .u64 seed, .int .u32 n, .int .u32 i] w fun e w' => e = .returned (.tuple #[.int .u32 ((placeAns seed n i).1 : Nat), .int .i64 ((placeAns seed n i).2 : Nat)]) ∧ ∃ k, w' = w.drewN k := by
  by_cases hok : i < n ∧ n ≤ 65536
  · obtain ⟨hin, hn6⟩ := hok
    have HA : Hid (placeAns seed n i = (place seed n i, 0)) := if_pos ⟨hin, hn6⟩
    obtain ⟨kk, hkk, HRet0⟩ := place_ret seed hn6 hin
    have HRet : Hid _ := HRet0
    clear HRet0 hkk
    rw [HA.out]
    obtain ⟨p, Hp⟩ : ∃ p, Hid (place seed n i = p) := ⟨_, (rfl : _ = _)⟩
    rw [Hp.out] at HRet ⊢
    have HB : Hid _ := bitsOf_ok n hn6
    have HM : Hid (∀ h, 1 ≤ h → h < bitsOf n → 2 ^ h * 2 ^ h < n) := bitsOf_more n
    have hn0 : ((n : Int) == 0) = false := by simp; omega
    obtain ⟨b, Hb⟩ : ∃ b, Hid (bitsOf n = b) := ⟨_, (rfl : _ = _)⟩
    have hb1 : 1 ≤ b ∧ b ≤ 8 := by rw [← Hb.out]; exact ⟨HB.out.1, HB.out.2.1⟩
    rw [Hb.out] at HB HM
    go_enter Tryz.func69, Tryz.ntmps69
    go_wp2_with fail
    go_loopg [8] 8 (fun k sd wr => ∃ (h sN : Nat), 1 ≤ h ∧ h ≤ b ∧ h + k = 9 ∧ sd = .int .u64 sN ∧ 2 ≤ sN ∧ sN ≤ 256 ∧ Hid (sN = 2 ^ h) ∧ wr = w)
    case atStart => exact ⟨1, 2, by omega, by omega, by omega, rfl, by omega, by omega, (rfl : _ = _), rfl⟩
    case round =>
      obtain ⟨h, sN, hh1, hhb, hhk, rfl, hs2, hs256, HsN, rfl⟩ := hrel
      obtain ⟨M, HMM⟩ : ∃ M, Hid (sN * sN = M) := ⟨_, (rfl : _ = _)⟩
      have hw1 : IntKind.u64.wrap ((sN : Int) * (sN : Int)) = (M : Int) := by rw [← HMM.out]; exact mul_wrap sN hs256
      by_cases hlt : h < b
      · have hMn : M < n := by rw [← HMM.out, HsN.out]; exact HM.out h hh1 hlt
        have HN : Hid (2 * sN = 2 ^ (h + 1)) := by show _ = _; rw [HsN.out, Nat.pow_succ, Nat.mul_comm]
        have hb2 : 2 * sN ≤ 256 := by rw [HN.out]; exact side_le (by omega)
        go_wp2
        go_roundg (gk - 1)
        case measure => omega
        case rel => exact ⟨h + 1, 2 * sN, by omega, by omega, by omega, by go_num, by omega, by omega, HN, rfl⟩
      · obtain rfl : h = b := by omega
        have hMn : n ≤ M := by rw [← HMM.out, HsN.out]; exact HB.out.2.2
        clear HM
        go_wp2_with fail
        have HSide : Hid (sideOf n = sN) := by show _ = _; rw [HsN.out, ← Hb.out]; rfl
        refine (round_any seed i h hs hh1 hb1.2 sN HsN ⟨hs2, hs256⟩ (by rw [HMM.out]; omega) _).mono ?_
        rintro e w1 ⟨rfl, nq, rfl⟩
        have HRo : Hid (roundOf seed n = roundN (turnF seed) sN) := by show _ = _; unfold roundOf; rw [HSide.out]
        have HPm : Hid (PermOn (roundOf seed n) M) := by have := roundOf_perm seed n; rw [HSide.out, HMM.out] at this; exact this
        obtain ⟨X, HX⟩ : ∃ X, Hid (roundN (turnF seed) sN i = X) := ⟨_, (rfl : _ = _)⟩
        have hXM : X < M := by have := HPm.out.maps i (by omega); rw [HRo.out, HX.out] at this; exact this
        rw [HX.out]
        have hM6 : M ≤ 65536 := by rw [← HMM.out]; exact Nat.le_trans (Nat.mul_le_mul hs256 hs256) (by decide)
        have hkp : 1 ≤ kk := HRet.out.pos
        go_wp2_with fail
        go_loopg [9] (kk - 1) (fun g xv wq => ∃ (j X nq : Nat), 1 ≤ j ∧ j + g = kk ∧ xv = .int .u64 X ∧ X < M ∧ Hid (iter (roundOf seed n) j i = X) ∧ wq = wr.drewN nq)
        case atStart => exact ⟨1, X, nq, by omega, by omega, rfl, hXM, (by show roundOf seed n i = X; rw [HRo.out]; exact HX.out), rfl⟩
        case round =>
          obtain ⟨j, X, nq, hj1, hjk, rfl, hXM, HX, rfl⟩ := hrel
          rcases HRet.out.next hj1 (by omega) with ⟨a1, a2⟩ | ⟨a1, a2⟩
          · rw [HX.out] at a1
            have HXN : Hid (iter (roundOf seed n) (j + 1) i = roundN (turnF seed) sN X) := by show roundOf seed n (iter (roundOf seed n) j i) = _; rw [HX.out, HRo.out]
            have hXN : roundN (turnF seed) sN X < M := by have := HPm.out.maps X hXM; rw [HRo.out] at this; exact this
            go_wp2_with fail
            refine (round_any seed X h hs hh1 hb1.2 sN HsN ⟨hs2, hs256⟩ (by rw [HMM.out]; omega) _).mono ?_
            rintro e w1 ⟨rfl, nq', rfl⟩
            generalize roundN (turnF seed) sN X = Y at *
            go_wp2
            go_roundg (gk - 1)
            case measure => omega
            case rel => exact ⟨j + 1, Y, _, by omega, by omega, rfl, hXN, HXN, rfl⟩
          · rw [HX.out] at a1 a2
            subst a2
            go_wp2
            go_ret2
            exact ⟨rfl, _, rfl⟩
  · have HA : Hid (placeAns seed n i = (0, 3)) := if_neg hok
    rw [HA.out]
    go_enter Tryz.func69, Tryz.ntmps69
    go_wp2
    all_goals go_ret2
    all_goals exact ⟨rfl, 0, rfl⟩

end Go.Proofs.YtfpodnleimhohabGreatDoor
