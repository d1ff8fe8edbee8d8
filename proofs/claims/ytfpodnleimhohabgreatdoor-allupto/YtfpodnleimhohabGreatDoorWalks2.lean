/-
  WALKS: the document's sum and varint, the program's varint.
-/
import Derived.Test.YtfpodnleimhohabGreatDoorWalks1
namespace Go.Proofs.YtfpodnleimhohabGreatDoor
open Go.RowKit

set_option maxHeartbeats 400000 in
theorem refSum_any (s : ByteArray) (hs : s.size ≤ maxLen) (w : World) :
    Calls Tryz.prog 47 #[.string s] w fun e w' => e = .returned (.int .u32 (crc (ls s))) ∧ w' = w := by
  unfold maxLen at hs
  go_enter Tryz.func47, Tryz.ntmps47
  go_wp2
  go_loop [3, 4] (fun x i => ∃ k : Nat, k ≤ s.size ∧ i = .int .i64 k ∧ x = .int .u32 (crcRaw ((ls s).take k))) (fun _ i => s.size - (intOf i).toNat)
  case atStart => exact ⟨0, Nat.zero_le _, rfl, rfl⟩
  case round =>
    obtain ⟨k, hk, rfl, rfl⟩ := hrel
    have hb := crcRaw_bd ((ls s).take k)
    by_cases hlt : k < s.size
    · have hts := take_snoc s k hlt
      have HS : Hid (crcRaw ((ls s).take (k + 1)) = crcByte (crcRaw ((ls s).take k)) s[k]) := by rw [hts]; exact crcRaw_snoc _ _
      have hc8 : (s[k].toNat : Int) < 256 := by have := s[k].toNat_lt; omega
      clear hts
      go_wp2
      obtain ⟨A, hA, hA0, hA1⟩ : ∃ A : Int, Hid (A = bits BinOp.xor IntKind.u32 (crcRaw ((ls s).take k)) (s[k].toNat : Int)) ∧ 0 ≤ A ∧ A ≤ 4294967295 := ⟨bits BinOp.xor IntKind.u32 (crcRaw ((ls s).take k)) (s[k].toNat : Int), (rfl : _ = _), (bits_bd _ _ _).1, (bits_bd _ _ _).2⟩
      rw [← hA.out]
      have HS2 : Hid (crcRaw ((ls s).take (k + 1)) = bitsUp A 8) := by rw [HS.out, hA.out]; rfl
      clear HS hA hc8 hb
      go_loop [3, 5] (fun x i => ∃ n : Nat, n ≤ 8 ∧ i = .int .i64 n ∧ x = .int .u32 (bitsUp A n)) (fun _ i => 8 - (intOf i).toNat)
      case atStart => exact ⟨0, by omega, rfl, rfl⟩
      case round =>
        obtain ⟨n, hn, rfl, rfl⟩ := hrel
        have hb := bitsUp_bd A hA0 hA1 n
        have HO : Hid ((bitsUp A n % 2 == 1) = true → bitsUp A (n + 1) = bits BinOp.xor IntKind.u32 (bitsUp A n / 2) 3988292384) := bitsUp_odd A n
        have HE : Hid ((bitsUp A n % 2 == 1) = false → bitsUp A (n + 1) = bitsUp A n / 2) := bitsUp_even A n
        by_cases hl8 : n < 8
        · go_wp2
          · go_round
            case rel => exact ⟨n + 1, by omega, by go_num, int_eq (HO.out ‹_›).symm⟩
            case measure => simp [intOf]; omega
          · go_round
            case rel => exact ⟨n + 1, by omega, by go_num, int_eq (HE.out ‹_›).symm⟩
            case measure => simp [intOf]; omega
        · obtain rfl : n = 8 := by omega
          go_wp2
          go_round
          case rel => exact ⟨k + 1, by omega, by go_num, int_eq HS2.out.symm⟩
          case measure => simp [intOf]; omega
    · obtain rfl : k = s.size := by omega
      have HT := take_all s
      rw [HT] at *
      go_wp2
      go_ret
      exact ⟨rfl, rfl⟩

/-- The document's varint, by so much fuel. -/
theorem varint_fuel (f : Nat) : f ≤ 9 → ∀ (n : Int), 0 ≤ n → n ≤ 18446744073709551615 → n < 128 ^ (f + 1) → ∀ w : World,
    Calls Tryz.prog 45 #[.int .u64 n] w fun e w' => e = .returned (.string (bs (varF f n))) ∧ Below w.heap.size w w' := by
  induction f with
  | zero =>
    intro _ n h0 h1 h2 w
    have hs : n < 128 := by simpa using h2
    clear h2
    have hE : Hid (le n 1 = varF 0 n) := by
      show [by8 (n % 256)] = [by8 n]
      rw [Int.emod_eq_of_lt (by omega) (by omega)]
    go_enter Tryz.func45, Tryz.ntmps45
    go_wp2_with (go_at_call 44; refine (little_any _ 1 (by omega) (by omega) (by omega) _).mono ?_; rintro e w' ⟨rfl, hbel⟩)
    go_ret
    exact ⟨ret_str (by rw [hE.out]), ‹_›⟩
  | succ f ih =>
    intro hf n h0 h1 h2 w
    by_cases hs : n < 128
    · have hE : Hid (le n 1 = varF (f + 1) n) := by
        rw [varF_short _ _ hs]
        show [by8 (n % 256)] = [by8 n]
        rw [Int.emod_eq_of_lt (by omega) (by omega)]
      clear h2 ih
      go_enter Tryz.func45, Tryz.ntmps45
      go_wp2_with (go_at_call 44; refine (little_any _ 1 (by omega) (by omega) (by omega) _).mono ?_; rintro e w' ⟨rfl, hbel⟩)
      go_ret
      exact ⟨ret_str (by rw [hE.out]), ‹_›⟩
    · have hp : (128 : Int) ^ (f + 1 + 1) = 128 ^ (f + 1) * 128 := Int.pow_succ ..
      have I : Hid (∀ w : World, Calls Tryz.prog 45 #[.int .u64 (n / 128)] w fun e w' => e = .returned (.string (bs (varF f (n / 128)))) ∧ Below w.heap.size w w') :=
        fun w => ih (by omega) (n / 128) (by omega) (by omega) (by rw [hp] at h2; omega) w
      have hE : Hid (le (n % 128 + 128) 1 ++ varF f (n / 128) = varF (f + 1) n) := by
        rw [varF_long _ _ hs]
        show [by8 ((n % 128 + 128) % 256)] ++ _ = _
        rw [Int.emod_eq_of_lt (a := n % 128 + 128) (by omega) (by omega)]; rfl
      have z1 : (bs (le (n % 128 + 128) 1)).size = 1 := by rw [bs_size, le_length]
      have z2 : (bs (varF f (n / 128))).size ≤ 10 := by rw [bs_size]; have := varF_length f (n / 128); omega
      clear h2 hp ih
      go_enter Tryz.func45, Tryz.ntmps45
      go_wp2_with fail
      refine (little_any _ 1 (by omega) (by omega) (by omega) _).mono ?_
      rintro e w1 ⟨rfl, hb1⟩
      go_wp2_with fail
      refine (I.out _).mono ?_
      rintro e w2 ⟨rfl, hb2⟩
      go_wp2_with fail
      go_ret
      exact ⟨ret_str (by rw [bs_append, hE.out]), hb1.trans (hb2.mono hb1.size)⟩
theorem varint_any (n : Int) (h0 : 0 ≤ n) (h1 : n ≤ 18446744073709551615) (w : World) :
    Calls Tryz.prog 45 #[.int .u64 n] w fun e w' => e = .returned (.string (bs (var n))) ∧ Below w.heap.size w w' :=
  varint_fuel 9 (by omega) n h0 h1 (by have : (128 : Int) ^ (9 + 1) = 1180591620717411303424 := by decide
                                       omega) w
end Go.Proofs.YtfpodnleimhohabGreatDoor
