/-
  WALKS: the document's small functions of the learner: cut, down, four, bucket.
-/
import Derived.Test.YtfpodnleimhohabGreatDoorGen
import Derived.Test.YtfpodnleimhohabGreatDoorMathL
import Derived.Test.YtfpodnleimhohabGreatDoorOwn
import Derived.Deep.LoopGhost
namespace Go.Proofs.YtfpodnleimhohabGreatDoor
open Go.RowKit
set_option linter.unusedVariables false

set_option maxRecDepth 4000 in
theorem cut_any (x m : Int) (hm0 : 0 ≤ m) (hm1 : m ≤ 1099511627776) (w : World) :
    Calls Tryz.prog 41 #[.int .i64 x, .int .i64 m] w fun e w' => e = .returned (.int .i64 (clamp m x)) ∧ w' = w := by
  by_cases h1 : m < x
  · have HC : Hid (m = clamp m x) := by show _ = _; unfold clamp; rw [if_pos h1]
    go_enter Tryz.func41, Tryz.ntmps41
    go_wp2
    go_ret
    exact ⟨ret_intU HC.out, rfl⟩
  · by_cases h2 : x < -m
    · have HC : Hid (-m = clamp m x) := by show _ = _; unfold clamp; rw [if_neg h1, if_pos h2]
      go_enter Tryz.func41, Tryz.ntmps41
      go_wp2
      go_ret
      exact ⟨ret_intU HC.out, rfl⟩
    · have HC : Hid (x = clamp m x) := by show _ = _; unfold clamp; rw [if_neg h1, if_neg h2]
      go_enter Tryz.func41, Tryz.ntmps41
      go_wp2
      go_ret
      exact ⟨ret_intU HC.out, rfl⟩

set_option maxRecDepth 4000 in
theorem down_any (x : Int) (k : Nat) (h0 : -4611686018427387904 ≤ x) (h1 : x ≤ 4611686018427387904) (hk : k ≤ 31) (w : World) :
    Calls Tryz.prog 40 #[.int .i64 x, .int .u8 k] w fun e w' => e = .returned (.int .i64 (x / 2 ^ k)) ∧ w' = w := by
  obtain ⟨q, Hq⟩ : ∃ q, Hid (x / 2 ^ k = q) := ⟨x / 2 ^ k, (rfl : x / 2 ^ k = x / 2 ^ k)⟩
  rw [Hq.out]
  go_enter Tryz.func40, Tryz.ntmps40
  go_wp2_with fail
  go_loopg [0, 1] k (fun g xv kv wr => ∃ y : Int, xv = .int .i64 y ∧ kv = .int .u8 g ∧ g ≤ 31 ∧ -4611686018427387904 ≤ y ∧ y ≤ 4611686018427387904 ∧ Hid (y / 2 ^ g = q) ∧ wr = w)
  case atStart => exact ⟨x, rfl, rfl, hk, h0, h1, Hq, rfl⟩
  case round =>
    obtain ⟨y, rfl, rfl, hg, hy0, hy1, HY, rfl⟩ := hrel
    by_cases hg0 : 0 < gk
    · have HN : Hid ((y / 2) / 2 ^ (gk - 1) = q) := by
        show _ = _
        rw [← HY.out, ← down_two, show gk - 1 + 1 = gk by omega]
      by_cases hneg : y < 0 ∧ y.tdiv 2 * 2 ≠ y
      · have hd := tdiv_low y hneg
        obtain ⟨hn1, hn2⟩ := hneg
        have hbe : (y.tdiv 2 * 2 == y) = false := by simpa using hn2
        have hb1 : -2305843009213693952 ≤ y.tdiv 2 ∧ y.tdiv 2 ≤ 2305843009213693952 := by omega
        go_wp2
        go_roundg (gk - 1)
        case measure => omega
        case rel => exact ⟨y / 2, rfl, by go_num, by omega, by omega, by omega, HN, rfl⟩
      · have hd := tdiv_same y hneg
        rw [← hd] at HN
        have hb1 : -2305843009213693952 ≤ y.tdiv 2 ∧ y.tdiv 2 ≤ 2305843009213693952 := by omega
        clear hd
        by_cases hn1 : y < 0
        · have hbe : (y.tdiv 2 * 2 == y) = true := by simp only [beq_iff_eq]; exact Decidable.byContradiction fun h => hneg ⟨hn1, h⟩
          clear hneg
          go_wp2
          go_roundg (gk - 1)
          case measure => omega
          case rel => exact ⟨y.tdiv 2, rfl, by go_num, by omega, by omega, by omega, HN, rfl⟩
        · clear hneg
          go_wp2
          go_roundg (gk - 1)
          case measure => omega
          case rel => exact ⟨y.tdiv 2, rfl, by go_num, by omega, by omega, by omega, HN, rfl⟩
    · obtain rfl : gk = 0 := by omega
      have hy : y = q := by rw [← HY.out]; simp
      subst hy
      go_wp2
      go_ret
      exact ⟨rfl, rfl⟩

/-! ### four, bucket -/
set_option maxRecDepth 4000 in
theorem four_any (r : Nat) (hr : r ≤ 1114111) (w : World) :
    Calls Tryz.prog 71 #[.int .i64 r] w fun e w' => e = .returned (.slice (some ⟨w.heap.size, 0, none⟩) 4 4) ∧ w' = w.alloc (.cells ((fourN r).map fun x : Nat => Value.int .i64 (x : Int)).toArray 3) := by
  go_enter Tryz.func71, Tryz.ntmps71
  go_wp2
  go_ret
  exact ⟨rfl, rfl⟩
set_option maxRecDepth 4000 in
theorem bucket_any (a : Option Addr) (cap : Nat) (l : List Nat) (w : World) (hl : l.length ≤ 16) (h256 : ∀ x ∈ l, x < 256) (hc : l.length ≤ cap) (hm : cap ≤ maxLen) (hrd : l ≠ [] → ∃ g o, a = some ⟨g, o, none⟩ ∧ ∀ i x, l[i]? = some x → w.cell? ⟨g, o + i, none⟩ = some (.int .i64 (x : Nat))) :
    Calls Tryz.prog 72 #[.slice a l.length cap] w fun e w' => e = .returned (.int .i64 (bucketN l : Nat)) ∧ w' = w := by
  unfold maxLen at hm
  have HR : Hid _ := hrd
  have H2 : Hid _ := h256
  clear hrd h256
  obtain ⟨H0, HB0, hlt0, HZ⟩ : ∃ H0 : Nat, Hid (bucketN l = l.foldl hashF H0 % 32) ∧ H0 < 4294967296 ∧ Hid (Value.int .u32 2166136261 = .int .u32 (H0 : Int)) := ⟨2166136261, rfl, by omega, congrArg (Value.int .u32) (by omega)⟩
  go_enter Tryz.func72, Tryz.ntmps72
  go_wp2
  go_loopw [3, 4] (fun h i wr => ∃ (H k : Nat), H < 4294967296 ∧ k ≤ l.length ∧ h = .int .u32 H ∧ i = .int .i64 k ∧ Hid ((l.take k).foldl hashF H0 = H) ∧ wr = w) (fun _ i _ => l.length - (intOf i).toNat)
  case atStart => exact ⟨H0, 0, hlt0, by omega, HZ.out, rfl, (by show (l.take 0).foldl hashF H0 = H0; rw [List.take_zero]; rfl), rfl⟩
  case round =>
    obtain ⟨H, k, hH, hk, rfl, rfl, HH, rfl⟩ := hrel
    by_cases hlt : k < l.length
    · obtain ⟨g, o, rfl, hcell⟩ := HR.out (by intro e; rw [e] at hlt; simp at hlt)
      have hx := hcell k _ (List.getElem?_eq_getElem hlt)
      have hx2 := H2.out _ (List.getElem_mem hlt)
      have HT : Hid (l.take (k + 1) = l.take k ++ [l[k]]) := List.take_succ_eq_append_getElem hlt
      generalize l[k] = x at *
      clear hcell
      have HE : Hid _ := hash_eq H x hH hx2
      have HN : Hid ((l.take (k + 1)).foldl hashF H0 = hashF H x) := by
        show _ = _
        rw [HT.out, List.foldl_append, HH.out, List.foldl_cons, List.foldl_nil]
      go_wp2
      go_roundw
      case rel => exact ⟨hashF H x, k + 1, hashF_lt H x, by omega, by rw [HE.out], by go_num, HN, trivial⟩
      case measure => simp [intOf]; omega
    · obtain rfl : k = l.length := by omega
      rw [List.take_length] at HH
      have HB : Hid (H % 32 = bucketN l) := by show _ = _; rw [HB0.out, HH.out]
      go_wp2
      rw [← HB.out]
      go_ret
      exact ⟨ret_intU (by omega), rfl⟩
end Go.Proofs.YtfpodnleimhohabGreatDoor
