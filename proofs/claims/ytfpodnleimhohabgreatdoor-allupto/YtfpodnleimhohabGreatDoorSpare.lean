/-
  WHAT IS SPARED: of the old blocks some alone may have turned.
-/
import Derived.Test.YtfpodnleimhohabGreatDoorOwn
namespace Go.Proofs.YtfpodnleimhohabGreatDoor
open Go.RowKit
set_option linter.unusedVariables false

/-- Of the old blocks those of S alone may have turned. -/
structure Spared (w w' : World) (S : Nat → Prop) : Prop where
  os : w'.os = w.os
  tape : w'.tape = w.tape
  output : w'.output = w.output
  size : w.heap.size ≤ w'.heap.size
  block : ∀ k, k < w.heap.size → ¬ S k → w'.heap[k]? = w.heap[k]?
theorem Spared.refl (w : World) (S : Nat → Prop) : Spared w w S := ⟨rfl, rfl, rfl, Nat.le_refl _, fun _ _ _ => rfl⟩
theorem Spared.trans {a b c : World} {S T : Nat → Prop} (h : Spared a b S) (k : Spared b c T) (hT : ∀ i, i < a.heap.size → T i → S i) : Spared a c S :=
  ⟨k.os.trans h.os, k.tape.trans h.tape, k.output.trans h.output, Nat.le_trans h.size k.size, fun i hi hs => (k.block i (Nat.lt_of_lt_of_le hi h.size) (fun t => hs (hT i hi t))).trans (h.block i hi hs)⟩
theorem Spared.of_below {w w' : World} (h : Below w.heap.size w w') (S : Nat → Prop) : Spared w w' S := ⟨h.os, h.tape, h.output, h.size, fun k hk _ => h.block k hk⟩
theorem Spared.of_grown {w w' : World} {row : Option Nat} (h : w.grownBy w' row) : Spared w w' (fun k => some k = row) := ⟨h.os, h.tape, h.output, h.size, fun k hk hs => h.block k hk hs⟩
theorem Spared.of_set (w : World) (g j : Nat) (u : Value) : Spared w (w.setCell ⟨g, j, none⟩ u) (fun k => k = g) :=
  ⟨rfl, rfl, rfl, by simp, fun k _ hs => heap_setCell_other w _ k u hs⟩
theorem Spared.mono {w w' : World} {S T : Nat → Prop} (h : Spared w w' S) (hST : ∀ k, S k → T k) : Spared w w' T := ⟨h.os, h.tape, h.output, h.size, fun k hk ht => h.block k hk (fun s => ht (hST k s))⟩
theorem Spared.below {w w' : World} {S : Nat → Prop} {B : Nat} (h : Spared w w' S) (hS : ∀ k, S k → B ≤ k) (hB : B ≤ w.heap.size) : Below B w w' :=
  ⟨h.os, h.tape, h.output, h.size, fun k hk => h.block k (by omega) (fun s => by have := hS k s; omega)⟩
/-- A row whose block is spared. -/
theorem ownsRow_spared {w w' : World} {S : Nat → Prop} {base : Nat} {e : TypeId} {size : Nat} {v : Value} {n : Nat} {xs : List Value} (h : w.ownsRow base e size v n xs) (hs : Spared w w' S) (hv : ∀ k, v.ownBlock = some k → ¬ S k) : w'.ownsRow base e size v n xs := by
  refine ⟨h.1, ?_⟩
  rcases h.2 with hn | ⟨g, cap, cur, rfl, hb, hh, r⟩
  · exact .inl hn
  · exact .inr ⟨g, cap, cur, rfl, hb, (hs.block g (lt_of_block hh) (hv g rfl)).trans hh, r⟩
/-- A row of another element type is another block. -/
theorem own_ne {w : World} {base e size n g e' : Nat} {v : Value} {xs : List Value} {cs : Array Value} {f : Nat × Nat} (h : w.ownsRow base e size v n xs) (hb : w.heap[g]? = some (.cells cs e' f)) (hne : e ≠ e') : v.ownBlock ≠ some g := by
  rcases h.2 with ⟨rfl, _⟩ | ⟨g', cap, cur, rfl, _, hh, _⟩
  · simp [Value.ownBlock]
  · intro hg
    simp [Value.ownBlock] at hg
    subst hg
    rw [hh] at hb
    simp at hb
    exact hne hb.2.1

theorem own_tag {w : World} {base e size n j : Nat} {v : Value} {xs : List Value} (h : w.ownsRow base e size v n xs) (hj : v.ownBlock = some j) : ∃ cs, w.heap[j]? = some (.cells cs e (0, 0)) := by
  rcases h.2 with ⟨rfl, _⟩ | ⟨g, c, u, rfl, _, hh, _⟩
  · simp [Value.ownBlock] at hj
  · simp [Value.ownBlock] at hj
    subst hj
    exact ⟨u, hh⟩
end Go.Proofs.YtfpodnleimhohabGreatDoor
