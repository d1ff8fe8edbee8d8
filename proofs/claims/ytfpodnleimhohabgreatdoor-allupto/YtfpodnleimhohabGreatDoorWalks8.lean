/-
  WALKS: noise; examples and frames out of raw ones; a shard laid of them.
-/
import Derived.Test.YtfpodnleimhohabGreatDoorWalks7
namespace Go.Proofs.YtfpodnleimhohabGreatDoor
open Go.RowKit
set_option linter.unusedVariables false

/-- Noise in which no frame begins. -/
def quietL (l : List UInt8) : List UInt8 := (l.take 12).filter fun c => c != 213
theorem quietL_le (l : List UInt8) : (quietL l).length ≤ 12 := by
  unfold quietL
  have := List.length_filter_le (fun c : UInt8 => c != 213) (l.take 12)
  rw [List.length_take] at this
  omega
theorem quietL_213 (l : List UInt8) : ∀ c ∈ quietL l, c ≠ 213 := by
  intro c hc
  unfold quietL at hc
  have := (List.mem_filter.1 hc).2
  simpa using this
theorem ext_one (s : ByteArray) (k : Nat) (h : k < s.size) : s.extract k (k + 1) = bs [s[k]] := by
  apply ls_inj
  rw [ls_cut, ls_bs, drop_getElem s k h, show k + 1 - k = 1 by omega]
  rfl
theorem filt_yes (l : List UInt8) (c : UInt8) (h : c ≠ 213) : (l ++ [c]).filter (fun c => c != 213) = l.filter (fun c => c != 213) ++ [c] := by
  simp [List.filter_append, h]
theorem filt_no (l : List UInt8) : (l ++ [213]).filter (fun c => c != 213) = l.filter (fun c => c != 213) := by
  simp [List.filter_append]

/-- The k-th piece of noise. -/
def noiseL (T : Nat → ByteArray) (len k : Nat) : List UInt8 := if k < len then quietL (ls (T k)) else []
theorem noiseL_le (T : Nat → ByteArray) (len k : Nat) : (noiseL T len k).length ≤ 12 := by
  unfold noiseL; split
  · exact quietL_le _
  · simp
theorem noiseL_213 (T : Nat → ByteArray) (len k : Nat) : ∀ c ∈ noiseL T len k, c ≠ 213 := by
  unfold noiseL; split
  · exact quietL_213 _
  · simp

end Go.Proofs.YtfpodnleimhohabGreatDoor
