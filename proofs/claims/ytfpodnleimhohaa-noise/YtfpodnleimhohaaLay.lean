/-
  FRAMES LAID ONE BEHIND THE OTHER: what is read of them.
-/
import Derived.Test.YtfpodnleimhohaaMath4
namespace Go.Proofs.Ytfpodnleimhohaa
open Go.RowKit
set_option linter.unusedVariables false

/-- The bodies of examples. -/
def bodies (X : List (Int × List UInt8)) : List (List UInt8) := X.map fun x => body x.1 x.2
theorem bodies_ok {X : List (Int × List UInt8)} (h : ∀ x ∈ X, ExOk x) : ∀ b ∈ bodies X, bodyOk b = true := by
  intro b hb
  obtain ⟨x, hx, rfl⟩ := List.mem_map.1 hb
  obtain ⟨h0, h1, h2⟩ := h x hx
  have t := by8_toNat x.1 h0 (by omega)
  simp [body, bodyOk]
  omega
theorem frames_bodies (X : List (Int × List UInt8)) : framesL X = (bodies X).map frameB := by
  simp [framesL, bodies, frame]
theorem layFrom_len (N : Nat → List UInt8) (hN : ∀ i, (N i).length ≤ 12) : ∀ (F : List (List UInt8)) (i : Nat), (∀ f ∈ F, f.length ≤ 47) → (layFrom N i F).length ≤ 12 + 59 * F.length := by
  intro F
  induction F with
  | nil => intro i _; simp [layFrom]; exact hN i
  | cons f F ih =>
    intro i hF
    have h1 := ih (i + 1) (fun g hg => hF g (List.mem_cons_of_mem _ hg))
    have h2 := hF f List.mem_cons_self
    have h3 := hN i
    simp [layFrom]
    omega
theorem framesL_le {X : List (Int × List UInt8)} (h : ∀ x ∈ X, ExOk x) : ∀ f ∈ framesL X, f.length ≤ 47 := by
  intro f hf
  obtain ⟨x, hx, rfl⟩ := List.mem_map.1 hf
  have := (h x hx).2.2
  rw [frame_len x.1 x.2 this]; omega

theorem IsExs.later {w w' : World} {a : Option Addr} {len cap : Nat} {L : Nat → Int} {T : Nat → ByteArray} (h : IsExs w a len cap L T) (hb : Below w.heap.size w w') : IsExs w' a len cap L T := by
  rcases h with h | ⟨b, off, e1, e2, e3, e4, e5⟩
  · exact .inl h
  · exact .inr ⟨b, off, e1, e2, e3, Nat.lt_of_lt_of_le e4 hb.size, fun i hi => ⟨(hb.cell (p := ⟨b, off + i * 2, none⟩) e4).trans (e5 i hi).1, (hb.cell (p := ⟨b, off + i * 2 + 1, none⟩) e4).trans (e5 i hi).2.1, (e5 i hi).2.2⟩⟩
end Go.Proofs.Ytfpodnleimhohaa
