/-
  ARGUMENTS OPENED: lists of examples, lists of strings.
-/
import Derived.Test.YtfpodnleimhohaaWalks3
import Derived.ProofKit
import Derived.ShutString
import Derived.ChangeOld
import Derived.Below
import Derived.Deep.SlicePairs
namespace Go.Proofs.Ytfpodnleimhohaa
open Go.ChangeShapes Go.WideShapes Go.ChangeAt Go.RowKit
open Go.ChangeMaps (open_string shut_string)
set_option linter.unusedVariables false

theorem own : ownKnob Try.prog.godebug = none := by kernel_rfl
theorem laidOut : laidOutB Try.prog = true := by kernel_rfl

/-- An argument of the type []api.Example, opened. -/
theorem open_exs {H : Type} {enc : TypeId × Value → H} {W : World} {base : Nat} {spare : Nat → Bool} {held : Bool} {fuel : Nat} {a : Option Addr} {len cap : Nat} {x : DataW H × List MemPlace}
    (h : DataW.trod enc Try.prog W base spare held fuel 22 [.slice a len cap] = some x) : ∃ L T, IsExs W a len cap L T := by
  rcases Go.Deep.open_slice_pairs (P := Try.prog) Try.underlying22 Try.underlying27 (by kernel_rfl) rfl rfl (by kernel_rfl) (by kernel_rfl) h with ⟨hcs, _⟩ | ⟨x, l, c, m, n, V0, V1, D0, D1, P0, P1, hcs, hb, hl, hm, hmm, _, hc⟩
  · simp at hcs
    obtain ⟨rfl, rfl, rfl⟩ := hcs
    exact ⟨fun _ => 0, fun _ => ByteArray.empty, .inl rfl⟩
  · simp at hcs
    obtain ⟨rfl, rfl, rfl⟩ := hcs
    by_cases h0 : len = 0
    · exact ⟨fun _ => 0, fun _ => ByteArray.empty, .inl h0⟩
    have hlm : len ≤ m := by rw [hmm]; split <;> omega
    obtain ⟨b, off, spot⟩ := x
    have c0 := (hc 0 (by omega)).1
    have hspot : spot = none := by simpa [Addr.add] using World.cell?_spot c0
    subst hspot
    have hlt : b < W.heap.size := by simpa [Addr.add] using World.block_lt_of_cell? W _ c0
    have each : ∀ i, i < m → ∃ q : Int × ByteArray, W.cell? ⟨b, off + i * 2, none⟩ = some (.int .u8 q.1) ∧ W.cell? ⟨b, off + i * 2 + 1, none⟩ = some (.string q.2) ∧ 0 ≤ q.1 ∧ q.1 ≤ 255 ∧ q.2.size ≤ maxLen := by
      intro i hi
      obtain ⟨e0, e1, t0, t1⟩ := hc i hi
      rw [add_plain] at e0 e1
      obtain ⟨z, hz, _, wz⟩ := DataW.trod_int Try.underlying5 t0
      obtain ⟨s, hs, _, ws⟩ := DataW.trod_string Try.underlying9 t1
      simp at hz hs
      have bz := bounds_u8 wz
      exact ⟨(z, s), by simpa [hz] using e0, by simpa [hs, Nat.add_assoc] using e1, bz.1, bz.2, ws⟩
    obtain ⟨q, hq⟩ := Go.Deep.choose_lt each
    exact ⟨fun i => (q i).1, fun i => (q i).2, .inr ⟨b, off, rfl, hl, hm, hlt, fun i hi => hq i (by omega)⟩⟩

/-- An argument of the type []string, opened. -/
theorem open_strs_arg {H : Type} {enc : TypeId × Value → H} {W : World} {base : Nat} {spare : Nat → Bool} {held : Bool} {fuel : Nat} {a : Option Addr} {len cap : Nat} {x : DataW H × List MemPlace}
    (h : DataW.trod enc Try.prog W base spare held fuel 29 [.slice a len cap] = some x) : ∃ T, IsStrs W a len cap T := by
  rcases Go.Deep.open_slice1 (P := Try.prog) Try.underlying29 (by kernel_rfl) h with ⟨hcs, _⟩ | ⟨x, l, c, m, n, V, D, Pl, hcs, hb, hl, hm, hmm, _, hc⟩
  · simp at hcs
    obtain ⟨rfl, rfl, rfl⟩ := hcs
    exact ⟨fun _ => ByteArray.empty, .inl rfl⟩
  · simp at hcs
    obtain ⟨rfl, rfl, rfl⟩ := hcs
    by_cases h0 : len = 0
    · exact ⟨fun _ => ByteArray.empty, .inl h0⟩
    have hlm : len ≤ m := by rw [hmm]; split <;> omega
    obtain ⟨b, off, spot⟩ := x
    have c0 := (hc 0 (by omega)).1
    have hspot : spot = none := by simpa [Addr.add] using World.cell?_spot c0
    subst hspot
    have hlt : b < W.heap.size := by simpa [Addr.add] using World.block_lt_of_cell? W _ c0
    have each : ∀ i, i < m → ∃ q : ByteArray, W.cell? ⟨b, off + i, none⟩ = some (.string q) ∧ q.size ≤ maxLen := by
      intro i hi
      obtain ⟨e0, t0⟩ := hc i hi
      rw [add_plain] at e0
      obtain ⟨s, hs, _, ws⟩ := DataW.trod_string Try.underlying9 t0
      simp at hs
      exact ⟨s, by simpa [hs] using e0, ws⟩
    obtain ⟨q, hq⟩ := Go.Deep.choose_lt each
    exact ⟨q, .inr ⟨b, off, rfl, hl, hm, hlt, fun i hi => hq i (by omega)⟩⟩
theorem IsExs.len {w : World} {a : Option Addr} {len cap : Nat} {L : Nat → Int} {T : Nat → ByteArray} (h : IsExs w a len cap L T) : len ≤ maxLen := by
  rcases h with h | ⟨_, _, _, h1, h2, _⟩
  · rw [h]; exact Nat.zero_le _
  · exact Nat.le_trans h1 h2
theorem IsStrs.len {w : World} {a : Option Addr} {len cap : Nat} {T : Nat → ByteArray} (h : IsStrs w a len cap T) : len ≤ maxLen := by
  rcases h with h | ⟨_, _, _, h1, h2, _⟩
  · rw [h]; exact Nat.zero_le _
  · exact Nat.le_trans h1 h2

end Go.Proofs.Ytfpodnleimhohaa
