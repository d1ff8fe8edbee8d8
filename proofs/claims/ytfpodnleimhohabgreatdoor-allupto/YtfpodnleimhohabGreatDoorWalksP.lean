/-
  WALKS: the document's Mix, round, Place, Back.
-/
import Derived.Test.YtfpodnleimhohabGreatDoorMathQ
import Derived.Test.YtfpodnleimhohabGreatDoorRows
import Derived.WalkKit
import Derived.WalkSpells
import Derived.WalkLawsBesides
import Derived.Handy
import Derived.Deep.QuietTactic
import Derived.BigQuiet
import Derived.Deep.LoopGhost
namespace Go.Proofs.YtfpodnleimhohabGreatDoor
open Go.RowKit
set_option linter.unusedVariables false

theorem ret_intP {k : IntKind} {a b : Int} (h : a = b) : Ending.returned (.int k a) = .returned (.int k b) := by rw [h]
theorem wrap64_nat (x : Nat) (h : x < 18446744073709551616) : IntKind.u64.wrap (x : Int) = (x : Int) := by rw [IntKind.wrap_u64]; omega
theorem wrap64_mul (x c : Nat) : IntKind.u64.wrap ((x : Int) * (c : Int)) = ((x * c % 18446744073709551616 : Nat) : Int) := by
  rw [IntKind.wrap_u64, ← Int.natCast_mul]
  generalize x * c = y
  omega
theorem mix_div (x c : Nat) (h : x < 18446744073709551616) : bits BinOp.xor IntKind.u64 (x : Int) (IntKind.u64.wrap ((x : Int) / (c : Int))) = ((x ^^^ x / c : Nat) : Int) := by
  rw [← Int.natCast_ediv, wrap64_nat _ (Nat.lt_of_le_of_lt (Nat.div_le_self _ _) h), u64_xor_nat _ _ h (Nat.lt_of_le_of_lt (Nat.div_le_self _ _) h)]
theorem mix_tdiv (x c : Nat) (h : x < 18446744073709551616) : bits BinOp.xor IntKind.u64 (x : Int) (IntKind.u64.wrap ((x : Int).tdiv (c : Int))) = ((x ^^^ x / c : Nat) : Int) := by
  rw [Int.tdiv_eq_ediv_of_nonneg (by omega)]
  exact mix_div x c h
theorem mix_eq (z : Nat) (hz : z < 18446744073709551616) :
    bits BinOp.xor IntKind.u64
      (IntKind.u64.wrap (bits BinOp.xor IntKind.u64 (IntKind.u64.wrap (bits BinOp.xor IntKind.u64 (z : Int) (IntKind.u64.wrap ((z : Int) / 1073741824)) * 13787848793156543929)) (IntKind.u64.wrap ((IntKind.u64.wrap (bits BinOp.xor IntKind.u64 (z : Int) (IntKind.u64.wrap ((z : Int) / 1073741824)) * 13787848793156543929)).tdiv 134217728)) * 10723151780598845931))
      (IntKind.u64.wrap ((IntKind.u64.wrap (bits BinOp.xor IntKind.u64 (IntKind.u64.wrap (bits BinOp.xor IntKind.u64 (z : Int) (IntKind.u64.wrap ((z : Int) / 1073741824)) * 13787848793156543929)) (IntKind.u64.wrap ((IntKind.u64.wrap (bits BinOp.xor IntKind.u64 (z : Int) (IntKind.u64.wrap ((z : Int) / 1073741824)) * 13787848793156543929)).tdiv 134217728)) * 10723151780598845931)).tdiv 2147483648)) = ((mixN z : Nat) : Int) := by
  have e1 : IntKind.u64.wrap (bits BinOp.xor IntKind.u64 (z : Int) (IntKind.u64.wrap ((z : Int) / 1073741824)) * 13787848793156543929) = ((mixA z : Nat) : Int) := by
    have a := mix_div z 1073741824 hz
    rw [show ((1073741824 : Nat) : Int) = 1073741824 from rfl] at a
    rw [a]
    exact wrap64_mul (z ^^^ z / 1073741824) 13787848793156543929
  rw [e1]
  have e2 : IntKind.u64.wrap (bits BinOp.xor IntKind.u64 ((mixA z : Nat) : Int) (IntKind.u64.wrap (((mixA z : Nat) : Int).tdiv 134217728)) * 10723151780598845931) = ((mixB (mixA z) : Nat) : Int) := by
    have a := mix_tdiv (mixA z) 134217728 (mixA_lt z)
    rw [show ((134217728 : Nat) : Int) = 134217728 from rfl] at a
    rw [a]
    exact wrap64_mul (mixA z ^^^ mixA z / 134217728) 10723151780598845931
  rw [e2]
  have a := mix_tdiv (mixB (mixA z)) 2147483648 (mixB_lt (mixA z))
  rw [show ((2147483648 : Nat) : Int) = 2147483648 from rfl] at a
  rw [a]
  rfl

set_option maxRecDepth 4000 in
set_option maxHeartbeats 400000 in
theorem Mix_any (z : Nat) (hz : Hid (z < 18446744073709551616)) (w : World) :
    Calls Tryz.prog 68 #[.int .u64 z] w fun e w' => e = .returned (.int .u64 (mixN z : Nat)) ∧ w' = w := by
  have H : Hid _ := mix_eq z hz
  go_enter Tryz.func68, Tryz.ntmps68
  go_wp2
  go_ret
  exact ⟨ret_intP H.out, rfl⟩

theorem turn_arg (a b r : Nat) : IntKind.u64.wrap (IntKind.u64.wrap ((a : Int) + IntKind.u64.wrap (((b : Int) + 1) * 11400714819323198485)) + (r : Int)) = (((a + (b + 1) * 11400714819323198485 + r) % 18446744073709551616 : Nat) : Int) := by
  rw [IntKind.wrap_u64, IntKind.wrap_u64, IntKind.wrap_u64]; omega
theorem turn_xor (l m side : Nat) (hl : l < side) (hs : side ≤ 256) : bits BinOp.xor IntKind.u64 (l : Int) ((m : Int) % (side : Int)) = ((l ^^^ m % side : Nat) : Int) := by
  have hm : m % side < side := Nat.mod_lt _ (by omega)
  rw [← Int.natCast_emod, u64_xor_nat _ _ (by omega) (by omega)]
/-- The pair after so many turns. -/
def turnsTo (seed side x : Nat) : Nat → Nat × Nat
  | 0 => split2 side x
  | k + 1 => fs (turnF seed (k + 1)) side (turnsTo seed side x k)
theorem turnsTo_lt (seed h x : Nat) (hx : x < 2 ^ h * 2 ^ h) : ∀ k, (turnsTo seed (2 ^ h) x k).1 < 2 ^ h ∧ (turnsTo seed (2 ^ h) x k).2 < 2 ^ h
  | 0 => split_lt (Nat.two_pow_pos h) hx
  | k + 1 => fs_lt _ h (turnsTo_lt seed h x hx k).1 (turnsTo_lt seed h x hx k).2

theorem round_end (L R side : Nat) (hL : L < side) (hR : R < side) (hs : side ≤ 256) : IntKind.u64.wrap (IntKind.u64.wrap ((L : Int) * (side : Int)) + (R : Int)) = ((join2 side (L, R) : Nat) : Int) := by
  have h1 : L * side ≤ 256 * 256 := Nat.mul_le_mul (by omega) hs
  rw [← Int.natCast_mul, wrap64_nat _ (by omega), ← Int.natCast_add, wrap64_nat _ (by omega)]; rfl

set_option maxRecDepth 4000 in
set_option maxHeartbeats 1000000 in
theorem round_any (seed x h : Nat) (hs : Hid (seed < 18446744073709551616)) (h1 : 1 ≤ h) (h8 : h ≤ 8) (side : Nat) (hside : Hid (side = 2 ^ h)) (hsb : 2 ≤ side ∧ side ≤ 256) (hx : x < side * side) (w : World) :
    Calls Tryz.prog 86 #[.int .u64 seed, .int .u64 x, .int .u64 side] w fun e w' => e = .returned (.int .u64 ((roundN (turnF seed) side x : Nat) : Int)) ∧ ∃ n, w' = w.drewN n := by
  obtain ⟨hs2, hs256⟩ := hsb
  have hxb : x < 65536 := Nat.lt_of_lt_of_le hx (Nat.le_trans (Nat.mul_le_mul hs256 hs256) (by decide))
  have hw1 : IntKind.u64.wrap ((x : Int) / (side : Int)) = ((x / side : Nat) : Int) := by rw [← Int.natCast_ediv]; exact wrap64_nat _ (by have := Nat.div_le_self x side; omega)
  have hw2 : (x : Int) % (side : Int) = ((x % side : Nat) : Int) := by omega
  have hs0 : ((side : Int) == 0) = false := by simp; omega
  have HT : Hid (∀ k, (turnsTo seed side x k).1 < side ∧ (turnsTo seed side x k).2 < side) := by
    show ∀ k, _
    rw [hside.out] at hx ⊢
    exact turnsTo_lt seed h x hx
  have HR : Hid (roundN (turnF seed) side x = join2 side (turnsTo seed side x 4)) := rfl
  go_enter Tryz.func86, Tryz.ntmps86
  go_wp2
  go_loopw [7, 8, 9] (fun l r i wr => ∃ (k L R nq : Nat), k ≤ 4 ∧ l = .int .u64 L ∧ r = .int .u64 R ∧ i = .int .u64 (k + 1 : Nat) ∧ L < side ∧ R < side ∧ Hid (turnsTo seed side x k = (L, R)) ∧ wr = w.drewN nq) (fun _ _ i _ => 5 - (intOf i).toNat)
  case atStart => exact ⟨0, x / side, x % side, 0, by omega, rfl, rfl, rfl, (HT.out 0).1, (HT.out 0).2, (rfl : _ = _), rfl⟩
  case round =>
    obtain ⟨k, L, R, nq, hk, rfl, rfl, rfl, hL, hR, HK, rfl⟩ := hrel
    clear hw1 hw2
    by_cases hk4 : k < 4
    · have HA : Hid _ := turn_arg seed k R
      go_wp2_with fail
      rw [HA.out]
      refine (Mix_any _ (Nat.mod_lt _ (by decide)) _).mono ?_
      rintro e w1 ⟨rfl, hw⟩
      have hw' := hw.symm
      clear hw
      subst hw'
      obtain ⟨m, Hm⟩ : ∃ m, Hid (mixN ((seed + (k + 1) * 11400714819323198485 + R) % 18446744073709551616) = m) := ⟨_, (rfl : _ = _)⟩
      rw [Hm.out]
      have HX : Hid _ := turn_xor L m side hL hs256
      have hx1 := HX.out
      have HN : Hid (turnsTo seed side x (k + 1) = (R, L ^^^ m % side)) := by
        show fs (turnF seed (k + 1)) side (turnsTo seed side x k) = _
        rw [HK.out]
        show (R, L ^^^ (turnF seed (k + 1) R % side)) = _
        rw [show turnF seed (k + 1) R = m from Hm.out]
      have hlt := HT.out (k + 1)
      rw [HN.out] at hlt
      have hmn : (0 : Int) ≤ (m : Int) := by omega
      go_wp2
      go_quiet (fail)
      go_wp2
      go_roundw
      case rel => exact ⟨k + 1, R, L ^^^ m % side, _, by omega, rfl, rfl, by go_num, hlt.1, hlt.2, HN, rfl⟩
      case measure => simp [intOf]; omega
    · obtain rfl : k = 4 := by omega
      have HE : Hid _ := round_end L R side hL hR hs256
      have HRR : Hid (roundN (turnF seed) side x = join2 side (L, R)) := HR.out.trans (by rw [HK.out])
      go_wp2
      rw [HRR.out]
      go_ret
      exact ⟨ret_intP HE.out, _, rfl⟩
end Go.Proofs.YtfpodnleimhohabGreatDoor
