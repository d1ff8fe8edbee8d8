/-
  WALKS: the leaves: sums, numbers as bytes, varints.
-/
import Derived.Test.YtfpodnleimhohabGreatDoorMath
import Derived.Test.YtfpodnleimhohabGreatDoorRows
import Derived.WalkKit
import Derived.WalkSpells
import Derived.WalkLawsBesides
import Derived.Handy
import Derived.Deep.RegionWith
import Derived.Deep.QuietTactic
import Derived.BigQuiet
import Derived.Deep.DeepCutAuto
import Derived.Deep.RegionHeldLaw
import Derived.Deep.RegionLawGrows
import Derived.Laws.BytesArg
namespace Go.Proofs.YtfpodnleimhohabGreatDoor
open Go.RowKit

theorem ret_int {k : IntKind} {a b : Int} (h : a = b) : Ending.returned (.int k a) = .returned (.int k b) := by rw [h]
theorem ret_str {a b : ByteArray} (h : a = b) : Ending.returned (.string a) = .returned (.string b) := by rw [h]
theorem int_eq {k : IntKind} {a b : Int} (h : a = b) : Value.int k a = .int k b := by rw [h]
theorem str_eq {a b : ByteArray} (h : a = b) : Value.string a = .string b := by rw [h]

set_option maxHeartbeats 400000 in
theorem sumBits_any (a : Int) (h0 : 0 ≤ a) (h1 : a ≤ 4294967295) (w : World) :
    Calls Tryz.prog 79 #[.int .u32 a] w fun e w' => e = .returned (.int .u32 (bitsUp a 8)) ∧ w' = w := by
  go_enter Tryz.func79, Tryz.ntmps79
  go_wp2
  go_loop [0, 3] (fun x k => ∃ n : Nat, n ≤ 8 ∧ k = .int .i64 n ∧ x = .int .u32 (bitsUp a n)) (fun _ k => 8 - (intOf k).toNat)
  case atStart => exact ⟨0, by omega, rfl, rfl⟩
  case round =>
    obtain ⟨n, hn, rfl, rfl⟩ := hrel
    have hb := bitsUp_bd a h0 h1 n
    have HO : Hid ((bitsUp a n % 2 == 1) = true → bitsUp a (n + 1) = bits BinOp.xor IntKind.u32 (bitsUp a n / 2) 3988292384) := bitsUp_odd a n
    have HE : Hid ((bitsUp a n % 2 == 1) = false → bitsUp a (n + 1) = bitsUp a n / 2) := bitsUp_even a n
    by_cases hlt : n < 8
    · go_wp2
      · go_round
        case rel => exact ⟨n + 1, by omega, by go_num, int_eq (HO.out ‹_›).symm⟩
        case measure => simp [intOf]; omega
      · go_round
        case rel => exact ⟨n + 1, by omega, by go_num, int_eq (HE.out ‹_›).symm⟩
        case measure => simp [intOf]; omega
    · obtain rfl : n = 8 := by omega
      go_wp2
      go_ret
      exact ⟨rfl, rfl⟩

set_option maxHeartbeats 400000 in
theorem wireSum_any (s : ByteArray) (hs : s.size ≤ maxLen) (w : World) :
    Calls Tryz.prog 61 #[.string s] w fun e w' => e = .returned (.int .u32 (crc (ls s))) ∧ w' = w := by
  unfold maxLen at hs
  go_enter Tryz.func61, Tryz.ntmps61
  go_wp2
  go_loop [3, 4] (fun x i => ∃ k : Nat, k ≤ s.size ∧ i = .int .i64 k ∧ x = .int .u32 (crcRaw ((ls s).take k))) (fun _ i => s.size - (intOf i).toNat)
  case atStart => exact ⟨0, Nat.zero_le _, rfl, rfl⟩
  case round =>
    obtain ⟨k, hk, rfl, rfl⟩ := hrel
    have hb := crcRaw_bd ((ls s).take k)
    by_cases hlt : k < s.size
    · have hts := take_snoc s k hlt
      have HS : Hid (crcRaw ((ls s).take (k + 1)) = crcByte (crcRaw ((ls s).take k)) s[k]) := by rw [hts]; exact crcRaw_snoc _ _
      have hbx := bits_bd BinOp.xor (crcRaw ((ls s).take k)) (s[k].toNat : Int)
      have hc8 : (s[k].toNat : Int) < 256 := by have := s[k].toNat_lt; omega
      clear hts
      go_wp2_with (go_at_call 79; refine (sumBits_any _ (by omega) (by omega) _).mono ?_; rintro e w' ⟨rfl, rfl⟩)
      go_round
      case rel => exact ⟨k + 1, by omega, by go_num, int_eq HS.out.symm⟩
      case measure => simp [intOf]; omega
    · obtain rfl : k = s.size := by omega
      have HT := take_all s
      rw [HT] at *
      go_wp2
      go_ret
      exact ⟨rfl, rfl⟩

/-- A block of one byte, just laid, as a string. -/
theorem conv1 (w : World) (g : Nat) (hg : g = w.heap.size) (a : Int) :
    (convert 107 9 (.slice (some ⟨g, 0, none⟩) 1 1)).run Tryz.prog (w.alloc (.cells #[.int .u8 a] 5)) = .ok (.string (bs [by8 a])) (w.alloc (.cells #[.int .u8 a] 5)) := by
  subst hg
  refine (run_convert_bytes_arg (P := Tryz.prog) (w.alloc (.cells #[.int .u8 a] 5)) 107 5 Tryz.underlying107 Tryz.underlying5 w.heap.size 0 1 1 [a] rfl ?_ 9 Tryz.underlying9)
  intro i hi
  obtain rfl : i = 0 := by omega
  simp [go_sem]
theorem conv4 (w : World) (g : Nat) (hg : g = w.heap.size) (a b c d : Int) :
    (convert 107 9 (.slice (some ⟨g, 0, none⟩) 4 4)).run Tryz.prog (w.alloc (.cells #[.int .u8 a, .int .u8 b, .int .u8 c, .int .u8 d] 5)) = .ok (.string (bs [by8 a, by8 b, by8 c, by8 d])) (w.alloc (.cells #[.int .u8 a, .int .u8 b, .int .u8 c, .int .u8 d] 5)) := by
  subst hg
  refine (run_convert_bytes_arg (P := Tryz.prog) (w.alloc (.cells #[.int .u8 a, .int .u8 b, .int .u8 c, .int .u8 d] 5)) 107 5 Tryz.underlying107 Tryz.underlying5 w.heap.size 0 4 4 [a, b, c, d] rfl ?_ 9 Tryz.underlying9)
  intro i hi
  match i, hi with
  | 0, _ => simp [go_sem]
  | 1, _ => simp [go_sem]
  | 2, _ => simp [go_sem]
  | 3, _ => simp [go_sem]

set_option maxHeartbeats 400000 in
theorem lowFirst_any (a : Int) (h0 : 0 ≤ a) (h1 : a ≤ 4294967295) (w : World) :
    Calls Tryz.prog 31 #[.int .u32 a] w fun e w' => e = .returned (.string (bs (le a 4))) ∧ Below w.heap.size w w' := by
  have kc := conv4
  have H4 : Hid (le a 4 = _) := le4 a h0 h1
  go_enter Tryz.func31, Tryz.ntmps31
  go_wp2
  go_ret
  exact ⟨ret_str (by rw [H4.out]), (Below.refl _ _).alloc (Nat.le_refl _) _⟩

set_option maxHeartbeats 400000 in
theorem sumBytes_any (s : ByteArray) (hs : s.size ≤ maxLen) (w : World) :
    Calls Tryz.prog 32 #[.string s] w fun e w' => e = .returned (.string (bs (le (crc (ls s)) 4))) ∧ Below w.heap.size w w' := by
  have hb := crc_bd (ls s)
  go_enter Tryz.func32, Tryz.ntmps32
  go_wp2_with (first | (go_at_call 61; refine (wireSum_any _ hs _).mono ?_; rintro e w' ⟨rfl, rfl⟩) | (go_at_call 31; refine (lowFirst_any _ (by omega) (by omega) _).mono ?_; rintro e w' ⟨rfl, hbel⟩))
  go_ret
  exact ⟨rfl, ‹_›⟩

set_option maxHeartbeats 400000 in
theorem little_any (a : Int) (m : Nat) (h0 : 0 ≤ a) (h1 : a ≤ 18446744073709551615) (hm : m ≤ 1000) (w : World) :
    Calls Tryz.prog 44 #[.int .u64 a, .int .i64 m] w fun e w' => e = .returned (.string (bs (le a m))) ∧ Below w.heap.size w w' := by
  have kc := conv1
  have kz : ∀ x, (bs [x]).size = 1 := fun x => bs_size _
  go_enter Tryz.func44, Tryz.ntmps44
  go_wp2
  go_loopw [0, 5, 6] (fun n s i wr => ∃ (k : Nat) (q : Int) (S : ByteArray), k ≤ m ∧ i = .int .i64 k ∧ n = .int .u64 q ∧ 0 ≤ q ∧ q ≤ 18446744073709551615 ∧ s = .string S ∧ S.size = k ∧ Hid (q = a / 256 ^ k ∧ S = bs (le a k)) ∧ Below w.heap.size w wr) (fun _ _ i _ => m - (intOf i).toNat)
  case atStart => exact ⟨0, a, bs [], Nat.zero_le _, rfl, rfl, h0, h1, rfl, rfl, ⟨by simp, rfl⟩, Below.refl _ _⟩
  case round =>
    obtain ⟨k, q, S, hk, rfl, rfl, hq0, hq1, rfl, hS, HH, hbel⟩ := hrel
    by_cases hlt : k < m
    · go_wp2
      go_roundw
      case rel =>
        obtain ⟨hq, hSS⟩ := HH.out
        refine ⟨k + 1, _, _, by omega, by go_num, rfl, by omega, by omega, rfl, ?_, ⟨?_, ?_⟩, hbel.alloc hbel.size _⟩
        · rw [ByteArray.size_append, hS, kz]
        · rw [hq, Int.ediv_ediv_of_nonneg (by exact Int.pow_nonneg (by omega)), Int.pow_succ]
        · rw [hSS, bs_append, le_snoc, hq]
      case measure => simp [intOf]; omega
    · obtain rfl : k = m := by omega
      go_wp2
      go_ret
      exact ⟨ret_str HH.out.2, hbel⟩
end Go.Proofs.YtfpodnleimhohabGreatDoor
