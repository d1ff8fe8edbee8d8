/-
  WALKS: a varint read back; the record at a place.
-/
import Derived.Test.YtfpodnleimhohabGreatDoorWalks3
import Derived.Test.YtfpodnleimhohabGreatDoorMath2
namespace Go.Proofs.YtfpodnleimhohabGreatDoor
open Go.RowKit
set_option linter.unusedVariables false

def rvAns (l : List UInt8) (p : Nat) : Int × Int × Bool :=
  match rv l with
  | some (v, k) => (v, (p : Int) + k, true)
  | none => (0, 0, false)
theorem rvAns_none {l : List UInt8} (p : Nat) (h : rv l = none) : rvAns l p = (0, 0, false) := by simp [rvAns, h]
theorem rvAns_some {l : List UInt8} (p : Nat) {v : Int} {k : Nat} (h : rv l = some (v, k)) : rvAns l p = (v, (p : Int) + k, true) := by simp [rvAns, h]
theorem rvAns_some' {l : List UInt8} (p : Nat) {v a b : Int} {k : Nat} (h : rv l = some (v, k)) (ha : a = v) (hb : b = (p : Int) + k) : rvAns l p = (a, b, true) := by rw [rvAns_some p h, ha, hb]
theorem ret_rv {l : List UInt8} {p : Nat} {a b : Int} {c : Bool} (h : rvAns l p = (a, b, c)) :
    Ending.returned (.tuple #[.int .u64 a, .int .i64 b, .bool c]) = .returned (.tuple #[.int .u64 (rvAns l p).1, .int .i64 (rvAns l p).2.1, .bool (rvAns l p).2.2]) := by rw [h]
theorem ls_extract (s : ByteArray) (p : Nat) : ls (s.extract p s.size) = (ls s).drop p := by
  show (s.extract p s.size).data.toList = s.data.toList.drop p
  rw [ByteArray.data_extract, Array.toList_extract, List.extract_eq_take_drop]
  refine List.take_of_length_le ?_
  rw [List.length_drop, Array.length_toList]; exact Nat.le_refl _
theorem drop_getElem (R : ByteArray) (k : Nat) (h : k < R.size) : (ls R).drop k = R[k] :: (ls R).drop (k + 1) := by
  rw [List.drop_eq_getElem_cons (by rw [ls_length]; exact h)]; rfl

theorem pow_bd (k : Nat) (h : k ≤ 8) : (1 : Int) ≤ 128 ^ k ∧ (128 : Int) ^ k ≤ 72057594037927936 := by
  match k, h with
  | 0, _ => decide
  | 1, _ => decide
  | 2, _ => decide
  | 3, _ => decide
  | 4, _ => decide
  | 5, _ => decide
  | 6, _ => decide
  | 7, _ => decide
  | 8, _ => decide

section
variable {L : List UInt8} {k : Nat} {N U : Int} {c : UInt8} {r : List UInt8}
theorem rd_bad (HF : rv L = rvF (9 - k) N U k (L.drop k)) (HD : L.drop k = c :: r) (hk : k < 9) (h : (c.toNat : Int) < 128) (h2 : (c.toNat : Int) % 128 = 0) (h3 : 0 < k) : rv L = none := by
  rw [HF, HD, show 9 - k = (8 - k) + 1 by omega]
  exact rvF_bad (by omega) ⟨by omega, h3⟩
theorem rd_last (HF : rv L = rvF (9 - k) N U k (L.drop k)) (HD : L.drop k = c :: r) (hk : k < 9) (h : (c.toNat : Int) < 128) (h2 : ¬ ((c.toNat : Int) % 128 = 0 ∧ 0 < k)) : rv L = some (N + (c.toNat : Int) % 128 * U, k + 1) := by
  rw [HF, HD, show 9 - k = (8 - k) + 1 by omega]
  exact rvF_last (by omega) (by omega)
theorem rd_more (HF : rv L = rvF (9 - k) N U k (L.drop k)) (HD : L.drop k = c :: r) (hr : r = L.drop (k + 1)) (hk : k < 9) (h : 128 ≤ (c.toNat : Int)) : rv L = rvF (9 - (k + 1)) (N + (c.toNat : Int) % 128 * U) (U * 128) (k + 1) (L.drop (k + 1)) := by
  rw [HF, HD, show 9 - k = (9 - (k + 1)) + 1 by omega, rvF_more (by omega), hr]
theorem rd_end (HF : rv L = rvF (9 - k) N U k (L.drop k)) (h : 9 ≤ k ∨ L.length ≤ k) : rv L = none := by
  rw [HF]
  rcases h with h | h
  · rw [show 9 - k = 0 by omega]; rfl
  · rw [List.drop_eq_nil_of_le h, rvF_nil]
end

set_option maxRecDepth 4000 in
set_option maxHeartbeats 1000000 in
theorem readVarint_any (s : ByteArray) (p : Nat) (hs : s.size ≤ maxLen) (hp : p ≤ maxLen) (w : World) :
    Calls Tryz.prog 60 #[.string s, .int .i64 p] w fun e w' => e = .returned (.tuple #[.int .u64 (rvAns ((ls s).drop p) p).1, .int .i64 (rvAns ((ls s).drop p) p).2.1, .bool (rvAns ((ls s).drop p) p).2.2]) ∧ w' = w := by
  unfold maxLen at hs hp
  by_cases hlt : p < s.size
  · have hp0 : ¬ ((p : Int) < 0) := by omega
    obtain ⟨R, HR, hz⟩ : ∃ R : ByteArray, Hid (R = s.extract p s.size ∧ ls R = (ls s).drop p) ∧ R.size = s.size - p := ⟨s.extract p s.size, ⟨rfl, ls_extract s p⟩, by rw [ByteArray.size_extract]; omega⟩
    rw [← HR.out.2]
    go_enter Tryz.func60, Tryz.ntmps60
    go_wp2
    rw [← HR.out.1]
    go_loop [8, 9, 10] (fun n u i => ∃ (k : Nat) (N U : Int), k ≤ 9 ∧ k ≤ R.size ∧ i = .int .i64 k ∧ n = .int .u64 N ∧ u = .int .u64 U ∧ 0 ≤ N ∧ N < U ∧ Hid (U = 128 ^ k) ∧ Hid (rv (ls R) = rvF (9 - k) N U k ((ls R).drop k))) (fun _ _ i => R.size - (intOf i).toNat)
    case atStart => exact ⟨0, 0, 1, by omega, by omega, rfl, rfl, rfl, by omega, by omega, (rfl : _ = _), (rfl : _ = _)⟩
    case round =>
      obtain ⟨k, N, U, hk9, hkR, rfl, rfl, rfl, hN0, hNU, HU, HF⟩ := hrel
      by_cases hkl : k < R.size
      · by_cases hk : k < 9
        · have hU := pow_bd k (by omega)
          rw [← HU.out] at hU
          obtain ⟨hU1, hU2⟩ := hU
          obtain ⟨c, hcR, HD⟩ : ∃ c, R[k] = c ∧ Hid ((ls R).drop k = c :: (ls R).drop (k + 1)) := ⟨R[k], rfl, drop_getElem R k hkl⟩
          have hc8 : (c.toNat : Int) < 256 := by have := c.toNat_lt; omega
          have hm0 : 0 ≤ (c.toNat : Int) % 128 * U := Int.mul_nonneg (by omega) (by omega)
          have hm1 : (c.toNat : Int) % 128 * U ≤ 127 * U := Int.mul_le_mul_of_nonneg_right (by omega) (by omega)
          go_wp2
          · go_ret3
            exact ⟨ret_rv (rvAns_none p (rd_bad HF.out HD.out hk ‹_› ‹_› ‹_›)), rfl⟩
          · have hz : (c.toNat : Int) % 128 = 0 := by assumption
            go_ret3
            exact ⟨ret_rv (rvAns_some' p (rd_last HF.out HD.out hk ‹_› (by omega)) (by rw [hz, Int.zero_mul, Int.add_zero]) (by omega)), rfl⟩
          · go_ret3
            exact ⟨ret_rv (rvAns_some' p (rd_last HF.out HD.out hk ‹_› (by omega)) rfl (by omega)), rfl⟩
          · go_round
            case rel => exact ⟨k + 1, _, _, by omega, by omega, by go_num, rfl, rfl, by omega, by omega, (by show U * 128 = 128 ^ (k + 1); rw [HU.out, Int.pow_succ]), rd_more HF.out HD.out rfl hk ‹_›⟩
            case measure => simp [intOf]; omega
        · go_wp2
          go_ret3
          exact ⟨ret_rv (rvAns_none p (rd_end HF.out (.inl (by omega)))), rfl⟩
      · go_wp2
        go_ret3
        exact ⟨ret_rv (rvAns_none p (rd_end HF.out (.inr (by rw [ls_length]; omega)))), rfl⟩
  · have hp0 : ¬ ((p : Int) < 0) := by omega
    have hE : Hid (rvAns ((ls s).drop p) p = (0, 0, false)) := rvAns_none p (by rw [List.drop_eq_nil_of_le (by rw [ls_length]; omega)]; rfl)
    go_enter Tryz.func60, Tryz.ntmps60
    go_wp2
    go_ret3
    exact ⟨ret_rv hE.out, rfl⟩
end Go.Proofs.YtfpodnleimhohabGreatDoor
