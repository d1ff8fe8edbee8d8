/-
  WALKS: the program's Mix, rounds, Place, Back.
-/
import Derived.Test.YtfpodnleimhohabGreatDoorWalksQ
namespace Go.Proofs.YtfpodnleimhohabGreatDoor
open Go.RowKit
set_option linter.unusedVariables false

theorem ret_boolP {a b : Bool} (h : a = b) : Ending.returned (.bool a) = .returned (.bool b) := by rw [h]
theorem mix_shr (x c : Nat) (h : x < 18446744073709551616) : bits BinOp.xor IntKind.u64 (x : Int) ((x : Int) / (c : Int)) = ((x ^^^ x / c : Nat) : Int) := by
  rw [← Int.natCast_ediv, u64_xor_nat _ _ h (Nat.lt_of_le_of_lt (Nat.div_le_self _ _) h)]
theorem mix2_eq (z : Nat) (hz : z < 18446744073709551616) :
    bits BinOp.xor IntKind.u64
      (IntKind.u64.wrap (bits BinOp.xor IntKind.u64 (IntKind.u64.wrap (bits BinOp.xor IntKind.u64 (z : Int) ((z : Int) / 1073741824) * 13787848793156543929)) (IntKind.u64.wrap (bits BinOp.xor IntKind.u64 (z : Int) ((z : Int) / 1073741824) * 13787848793156543929) / 134217728) * 10723151780598845931))
      (IntKind.u64.wrap (bits BinOp.xor IntKind.u64 (IntKind.u64.wrap (bits BinOp.xor IntKind.u64 (z : Int) ((z : Int) / 1073741824) * 13787848793156543929)) (IntKind.u64.wrap (bits BinOp.xor IntKind.u64 (z : Int) ((z : Int) / 1073741824) * 13787848793156543929) / 134217728) * 10723151780598845931) / 2147483648) = ((mixN z : Nat) : Int) := by
  have e1 : IntKind.u64.wrap (bits BinOp.xor IntKind.u64 (z : Int) ((z : Int) / 1073741824) * 13787848793156543929) = ((mixA z : Nat) : Int) := by
    have a := mix_shr z 1073741824 hz
    rw [show ((1073741824 : Nat) : Int) = 1073741824 from rfl] at a
    rw [a]
    exact wrap64_mul (z ^^^ z / 1073741824) 13787848793156543929
  rw [e1]
  have e2 : IntKind.u64.wrap (bits BinOp.xor IntKind.u64 ((mixA z : Nat) : Int) (((mixA z : Nat) : Int) / 134217728) * 10723151780598845931) = ((mixB (mixA z) : Nat) : Int) := by
    have a := mix_shr (mixA z) 134217728 (mixA_lt z)
    rw [show ((134217728 : Nat) : Int) = 134217728 from rfl] at a
    rw [a]
    exact wrap64_mul (mixA z ^^^ mixA z / 134217728) 10723151780598845931
  rw [e2]
  have a := mix_shr (mixB (mixA z)) 2147483648 (mixB_lt (mixA z))
  rw [show ((2147483648 : Nat) : Int) = 2147483648 from rfl] at a
  rw [a]
  rfl
theorem half_wrap (h : Nat) (h1 : 1 ≤ h) (h8 : h ≤ 8) : IntKind.u64.wrap ((2 : Int) ^ (2 * h)) = ((2 ^ h * 2 ^ h : Nat) : Int) := by
  have : h = 1 ∨ h = 2 ∨ h = 3 ∨ h = 4 ∨ h = 5 ∨ h = 6 ∨ h = 7 ∨ h = 8 := by omega
  rcases this with rfl | rfl | rfl | rfl | rfl | rfl | rfl | rfl <;> rfl
theorem low_eq (h : Nat) (h1 : 1 ≤ h) (h8 : h ≤ 8) : (((2 : Int) ^ h % 4294967296 - 1) % 4294967296) = ((2 ^ h - 1 : Nat) : Int) := by
  have : h = 1 ∨ h = 2 ∨ h = 3 ∨ h = 4 ∨ h = 5 ∨ h = 6 ∨ h = 7 ∨ h = 8 := by omega
  rcases this with rfl | rfl | rfl | rfl | rfl | rfl | rfl | rfl <;> rfl

set_option maxRecDepth 4000 in
set_option maxHeartbeats 400000 in
theorem ordMix_any (z : Nat) (hz : Hid (z < 18446744073709551616)) (w : World) :
    Calls Tryz.prog 80 #[.int .u64 z] w fun e w' => e = .returned (.int .u64 (mixN z : Nat)) ∧ w' = w := by
  have H : Hid _ := mix2_eq z hz
  go_enter Tryz.func80, Tryz.ntmps80
  go_wp2
  go_ret
  exact ⟨ret_intP H.out, rfl⟩
set_option maxRecDepth 4000 in
set_option maxHeartbeats 400000 in
theorem lowBits_any (h : Nat) (h1 : 1 ≤ h) (h8 : h ≤ 8) (w : World) :
    Calls Tryz.prog 102 #[.int .u64 h] w fun e w' => e = .returned (.int .u32 ((2 ^ h - 1 : Nat) : Int)) ∧ w' = w := by
  have H : Hid _ := low_eq h h1 h8
  go_enter Tryz.func102, Tryz.ntmps102
  go_wp2
  go_ret
  exact ⟨ret_intP H.out, rfl⟩
set_option maxRecDepth 4000 in
set_option maxHeartbeats 400000 in
theorem inRange_any (n i : Nat) (hn : n < 4294967296) (hi : i < 4294967296) (w : World) :
    Calls Tryz.prog 95 #[.int .u32 n, .int .u32 i] w fun e w' => e = .returned (.bool (decide (i < n ∧ n ≤ 65536))) ∧ w' = w := by
  go_enter Tryz.func95, Tryz.ntmps95
  by_cases h6 : n ≤ 65536
  · have HD : Hid (decide (i < n) = decide (i < n ∧ n ≤ 65536)) := by show _ = _; simp [h6]
    go_wp2
    go_ret
    exact ⟨ret_boolP HD.out, rfl⟩
  · have HD : Hid (decide (i < n ∧ n ≤ 65536) = false) := by show _ = _; simp [h6]
    rw [HD.out]
    go_wp2
    go_ret
    exact ⟨rfl, rfl⟩
set_option maxRecDepth 4000 in
set_option maxHeartbeats 400000 in
theorem halfBits_any (n : Nat) (hn6 : n ≤ 65536) (w : World) :
    Calls Tryz.prog 96 #[.int .u32 n] w fun e w' => e = .returned (.int .u64 (bitsOf n : Nat)) ∧ w' = w := by
  have HB : Hid _ := bitsOf_ok n hn6
  have HM : Hid (∀ h, 1 ≤ h → h < bitsOf n → 2 ^ h * 2 ^ h < n) := bitsOf_more n
  obtain ⟨b, Hb⟩ : ∃ b, Hid (bitsOf n = b) := ⟨_, (rfl : _ = _)⟩
  have hb1 : 1 ≤ b ∧ b ≤ 8 := by rw [← Hb.out]; exact ⟨HB.out.1, HB.out.2.1⟩
  rw [Hb.out] at HB HM ⊢
  go_enter Tryz.func96, Tryz.ntmps96
  go_wp2_with fail
  go_loopg [3] 8 (fun k sd wr => ∃ (h : Nat), 1 ≤ h ∧ h ≤ b ∧ h + k = 9 ∧ sd = .int .u64 h ∧ wr = w)
  case atStart => exact ⟨1, by omega, by omega, by omega, rfl, rfl⟩
  case round =>
    obtain ⟨h, hh1, hhb, hhk, rfl, rfl⟩ := hrel
    obtain ⟨M, HMM⟩ : ∃ M, Hid (2 ^ h * 2 ^ h = M) := ⟨2 ^ h * 2 ^ h, (rfl : 2 ^ h * 2 ^ h = 2 ^ h * 2 ^ h)⟩
    have hw1 : IntKind.u64.wrap ((2 : Int) ^ (2 * h)) = (M : Int) := by rw [← HMM.out]; exact half_wrap h hh1 (by omega)
    by_cases hlt : h < b
    · have hMn := HM.out h hh1 hlt
      rw [HMM.out] at hMn
      go_wp2
      go_roundg (gk - 1)
      case measure => omega
      case rel => exact ⟨h + 1, by omega, by omega, by omega, by go_num, rfl⟩
    · obtain rfl : h = b := by omega
      have hMn := HB.out.2.2
      rw [HMM.out] at hMn
      go_wp2
      go_ret
      exact ⟨rfl, rfl⟩
theorem turn_arg2 (a k r : Nat) : IntKind.u64.wrap (IntKind.u64.wrap ((a : Int) + IntKind.u64.wrap ((k : Int) * 11400714819323198485)) + (r : Int)) = (((a + k * 11400714819323198485 + r) % 18446744073709551616 : Nat) : Int) := by
  rw [IntKind.wrap_u64, IntKind.wrap_u64, IntKind.wrap_u64]; omega
theorem key_and (m h : Nat) (h8 : h ≤ 8) : bits BinOp.and IntKind.u32 ((m : Int) % 4294967296) ((2 ^ h - 1 : Nat) : Int) = ((m % 2 ^ h : Nat) : Int) := by
  have h2 := side_le h8
  rw [show ((m : Int) % 4294967296) = ((m % 4294967296 : Nat) : Int) by omega, u32_and_nat _ _ (Nat.mod_lt _ (by decide)) (by omega), Nat.and_two_pow_sub_one_eq_mod]
  rw [show 4294967296 = 2 ^ 32 by rfl, Nat.mod_mod_of_dvd _ (Nat.pow_dvd_pow 2 (by omega))]
set_option maxRecDepth 4000 in
set_option maxHeartbeats 400000 in
theorem turnKey_any (seed h k r : Nat) (hs : Hid (seed < 18446744073709551616)) (h1 : 1 ≤ h) (h8 : h ≤ 8) (hk : k ≤ 4) (hr : r < 256) (w : World) :
    Calls Tryz.prog 103 #[.int .u64 seed, .int .u64 h, .int .u64 k, .int .u32 r] w fun e w' => e = .returned (.int .u32 ((turnF seed k r % 2 ^ h : Nat) : Int)) ∧ ∃ nq, w' = w.drewN nq := by
  have HA : Hid _ := turn_arg2 seed k r
  obtain ⟨m, Hm⟩ : ∃ m, Hid (mixN ((seed + k * 11400714819323198485 + r) % 18446744073709551616) = m) := ⟨_, (rfl : _ = _)⟩
  have HT : Hid (turnF seed k r = m) := Hm
  obtain ⟨lb, Hlb⟩ : ∃ lb, Hid (2 ^ h - 1 = lb) := ⟨2 ^ h - 1, (rfl : 2 ^ h - 1 = 2 ^ h - 1)⟩
  have HAnd : Hid _ := key_and m h h8
  rw [Hlb.out] at HAnd
  have hm0 : (0 : Int) ≤ (m : Int) := by omega
  rw [HT.out]
  go_enter Tryz.func103, Tryz.ntmps103
  go_wp2_with fail
  rw [HA.out]
  refine (ordMix_any _ (Nat.mod_lt _ (by decide)) _).mono ?_
  rintro e w1 ⟨rfl, hw⟩
  have hw' := hw.symm
  clear hw
  subst hw'
  rw [Hm.out]
  go_wp2_with fail
  refine (lowBits_any h h1 h8 _).mono ?_
  rintro e w2 ⟨rfl, hw⟩
  have hw' := hw.symm
  clear hw
  subst hw'
  rw [Hlb.out]
  go_wp2
  go_ret
  exact ⟨ret_intP HAnd.out, 0, rfl⟩

/-- What a half is, by shifts and by the bits below. -/
theorem half_shr (x h : Nat) : (x : Int) / 2 ^ h = ((x / 2 ^ h : Nat) : Int) := by
  rw [Int.natCast_ediv]; norm_cast
theorem half_and (x h : Nat) (hx : x < 65536) (h8 : h ≤ 8) : bits BinOp.and IntKind.u32 (x : Int) ((2 ^ h - 1 : Nat) : Int) = ((x % 2 ^ h : Nat) : Int) := by
  have h2 := side_le h8
  rw [u32_and_nat _ _ (by omega) (by omega), Nat.and_two_pow_sub_one_eq_mod]
theorem turn_xor32 (l m : Nat) (hl : l < 256) (hm : m < 256) : bits BinOp.xor IntKind.u32 (l : Int) (m : Int) = ((l ^^^ m : Nat) : Int) := u32_xor_nat _ _ (by omega) (by omega)

theorem round_end32 (L R h side : Nat) (hs : side = 2 ^ h) (hL : L < side) (hR : R < side) (hs256 : side ≤ 256) : ((L : Int) * 2 ^ h % 4294967296 + (R : Int)) % 4294967296 = ((join2 side (L, R) : Nat) : Int) := by
  have h1 : L * side ≤ 256 * 256 := Nat.mul_le_mul (by omega) hs256
  have h2 : (L : Int) * 2 ^ h = ((L * side : Nat) : Int) := by rw [hs]; push_cast; rfl
  rw [h2]
  show _ = ((L * side + R : Nat) : Int)
  generalize L * side = q at *
  omega

set_option maxRecDepth 4000 in
set_option maxHeartbeats 1000000 in
theorem ordRound_any (seed x h : Nat) (hs : Hid (seed < 18446744073709551616)) (h1 : 1 ≤ h) (h8 : h ≤ 8) (side : Nat) (hside : Hid (side = 2 ^ h)) (hsb : 2 ≤ side ∧ side ≤ 256) (hx : x < side * side) (w : World) :
    Calls Tryz.prog 97 #[.int .u64 seed, .int .u64 h, .int .u32 x] w fun e w' => e = .returned (.int .u32 ((roundN (turnF seed) side x : Nat) : Int)) ∧ ∃ n, w' = w.drewN n := by
  obtain ⟨hs2, hs256⟩ := hsb
  have hxb : x < 65536 := Nat.lt_of_lt_of_le hx (Nat.le_trans (Nat.mul_le_mul hs256 hs256) (by decide))
  have HT : Hid (∀ k, (turnsTo seed side x k).1 < side ∧ (turnsTo seed side x k).2 < side) := by
    show ∀ k, _
    rw [hside.out] at hx ⊢
    exact turnsTo_lt seed h x hx
  have HR : Hid (roundN (turnF seed) side x = join2 side (turnsTo seed side x 4)) := rfl
  have hw1 : (x : Int) / 2 ^ h = ((x / side : Nat) : Int) := by rw [hside.out]; exact half_shr x h
  have hw2 : bits BinOp.and IntKind.u32 (x : Int) ((2 ^ h - 1 : Nat) : Int) = ((x % side : Nat) : Int) := by rw [hside.out]; exact half_and x h hxb h8
  go_enter Tryz.func97, Tryz.ntmps97
  go_wp2_with fail
  refine (lowBits_any h h1 h8 _).mono ?_
  rintro e w2 ⟨rfl, hw⟩
  have hw' := hw.symm
  clear hw
  subst hw'
  generalize 2 ^ h - 1 = lb at *
  go_wp2_with fail
  go_loopw [7, 8, 9] (fun l r i wr => ∃ (k L R nq : Nat), k ≤ 4 ∧ l = .int .u32 L ∧ r = .int .u32 R ∧ i = .int .u64 (k + 1 : Nat) ∧ L < side ∧ R < side ∧ Hid (turnsTo seed side x k = (L, R)) ∧ wr = w.drewN nq) (fun _ _ i _ => 5 - (intOf i).toNat)
  case atStart => exact ⟨0, x / side, x % side, 0, by omega, rfl, rfl, rfl, (HT.out 0).1, (HT.out 0).2, (rfl : _ = _), rfl⟩
  case round =>
    obtain ⟨k, L, R, nq, hk, rfl, rfl, rfl, hL, hR, HK, rfl⟩ := hrel
    clear hw1 hw2
    by_cases hk4 : k < 4
    · go_wp2_with fail
      refine (turnKey_any seed h (k + 1) R hs h1 h8 (by omega) (by omega) _).mono ?_
      rintro e w1 ⟨rfl, nq', rfl⟩
      have hmlt : turnF seed (k + 1) R % 2 ^ h < 2 ^ h := Nat.mod_lt _ (Nat.two_pow_pos h)
      rw [← hside.out] at hmlt ⊢
      obtain ⟨m, Hm⟩ : ∃ m, Hid (turnF seed (k + 1) R % side = m) := ⟨_, (rfl : _ = _)⟩
      rw [Hm.out] at hmlt ⊢
      have hx1 := turn_xor32 L m (by omega) (by omega)
      have HN : Hid (turnsTo seed side x (k + 1) = (R, L ^^^ m)) := by
        show fs (turnF seed (k + 1)) side (turnsTo seed side x k) = _
        rw [HK.out]
        show (R, L ^^^ (turnF seed (k + 1) R % side)) = _
        rw [Hm.out]
      have hlt := HT.out (k + 1)
      rw [HN.out] at hlt
      go_wp2
      go_roundw
      case rel => exact ⟨k + 1, R, L ^^^ m, _, by omega, rfl, rfl, by go_num, hlt.1, hlt.2, HN, rfl⟩
      case measure => simp [intOf]; omega
    · obtain rfl : k = 4 := by omega
      have HRR : Hid (roundN (turnF seed) side x = join2 side (L, R)) := HR.out.trans (by rw [HK.out])
      go_wp2
      rw [HRR.out]
      go_ret
      exact ⟨ret_intP (round_end32 L R h side hside.out hL hR hs256), _, rfl⟩

/-- The pair after so many turns taken back. -/
def undoTo (seed side x : Nat) : Nat → Nat × Nat
  | 0 => split2 side x
  | k + 1 => fsBack (turnF seed (4 - k)) side (undoTo seed side x k)
theorem undoTo_lt (seed h x : Nat) (hx : x < 2 ^ h * 2 ^ h) : ∀ k, (undoTo seed (2 ^ h) x k).1 < 2 ^ h ∧ (undoTo seed (2 ^ h) x k).2 < 2 ^ h
  | 0 => split_lt (Nat.two_pow_pos h) hx
  | k + 1 => fsBack_lt _ h (undoTo_lt seed h x hx k).1 (undoTo_lt seed h x hx k).2

end Go.Proofs.YtfpodnleimhohabGreatDoor
