/-
  WALKS: a list is kept.
-/
import Derived.Test.YtfpodnleimhohaaWalksD
import Derived.Test.YtfpodnleimhohaaSpare
namespace Go.Proofs.Ytfpodnleimhohaa
open Go.RowKit
set_option linter.unusedVariables false

/-- On the way: the mark's block, the new entry's block, the list full. -/
structure KSt (w W : World) (base r0 x0 : Nat) (mk : List Value) (e te : Nat) (vL : Value) (n : Nat) (xs : Array Value) : Prop where
  rb : W.heap[r0]? = some (.cells mk.toArray e (0, 0))
  xb : W.heap[x0]? = some (.cells xs te (0, 0))
  full : Full W base e mk vL n
  sp : Spared w W (fun b => some b = vL.ownBlock)
  rw' : w.heap.size ≤ r0
  xw : w.heap.size ≤ x0
  vl : ∀ k, vL.ownBlock = some k → k < r0 ∧ k < x0
theorem KSt.step {w W w2 : World} {base r0 x0 : Nat} {mk : List Value} {e te : Nat} {vL : Value} {n : Nat} {xs : Array Value} {T : Obj} {k : Nat} {v : Value} (s : KSt w W base r0 x0 mk e te vL n xs) (hne : e ≠ te) (i : Nat)
    (hg : (W.alloc T).grownBy w2 vL.ownBlock) (hst : ∀ o p, p ≤ n + k → Full (W.alloc T) base e mk o p → Full w2 base e mk o p) (hv : Full w2 base e mk v (n + k)) :
    KSt w (w2.setCell ⟨x0, i, none⟩ v) base r0 x0 mk e te vL n (xs.setIfInBounds i v) ∧ Full (w2.setCell ⟨x0, i, none⟩ v) base e mk v (n + k) ∧ (∀ o p, p ≤ n + k → Full W base e mk o p → Full (w2.setCell ⟨x0, i, none⟩ v) base e mk o p) := by
  have lx := lt_of_block s.xb
  have lr := lt_of_block s.rb
  have ax : (W.alloc T).heap[x0]? = some (.cells xs te (0, 0)) := (Below.heap_alloc W T x0 lx).trans s.xb
  have ar : (W.alloc T).heap[r0]? = some (.cells mk.toArray e (0, 0)) := (Below.heap_alloc W T r0 lr).trans s.rb
  have x2 : w2.heap[x0]? = some (.cells xs te (0, 0)) := (hg.block x0 (by simp; omega) (fun h => by have := (s.vl x0 h.symm).2; omega)).trans ax
  have r2 : w2.heap[r0]? = some (.cells mk.toArray e (0, 0)) := (hg.block r0 (by simp; omega) (fun h => by have := (s.vl r0 h.symm).1; omega)).trans ar
  have hrx : r0 ≠ x0 := by
    intro h; rw [h, x2] at r2; simp at r2; exact hne r2.2.symm
  have keep : ∀ o p, Full w2 base e mk o p → Full (w2.setCell ⟨x0, i, none⟩ v) base e mk o p := fun o p h =>
    ownsRow_setCell_other h (own_ne h x2 hne) v
  have all : ∀ o p, p ≤ n + k → Full W base e mk o p → Full (w2.setCell ⟨x0, i, none⟩ v) base e mk o p := fun o p hp h => keep o p (hst o p hp (World.ownsRow.alloc h T))
  refine ⟨⟨?_, heap_setCell_same w2 x0 i xs te v x2, all vL n (by omega) s.full, ?_, s.rw', s.xw, s.vl⟩, keep v _ hv, all⟩
  · rw [heap_setCell_other w2 _ r0 v hrx]; exact r2
  · refine ((s.sp.trans (Spared.of_grown (World.grownBy_alloc W T vL.ownBlock)) (fun _ _ h => h)).trans (Spared.of_grown hg) (fun _ _ h => h)).trans (Spared.of_set w2 x0 i v) ?_
    intro j hj h
    have := s.xw
    omega
theorem KSt.after {w W w2 : World} {base r0 x0 : Nat} {mk : List Value} {e te : Nat} {vL : Value} {n : Nat} {xs : Array Value} {T : Obj} (s : KSt w W base r0 x0 mk e te vL n xs) (hg : (W.alloc T).grownBy w2 vL.ownBlock) :
    w2.heap[x0]? = some (.cells xs te (0, 0)) := by
  have lx := lt_of_block s.xb
  exact (hg.block x0 (by simp; omega) (fun h => by have := (s.vl x0 h.symm).2; omega)).trans ((Below.heap_alloc W T x0 lx).trans s.xb)
theorem KSt.rc {w W : World} {base r0 x0 : Nat} {mk : List Value} {e te : Nat} {vL : Value} {n : Nat} {xs : Array Value} (s : KSt w W base r0 x0 mk e te vL n xs) (j : Nat) : W.cell? ⟨r0, j, none⟩ = mk[j]? := by
  simp [World.cell?, s.rb]
theorem KSt.xc {w W : World} {base r0 x0 : Nat} {mk : List Value} {e te : Nat} {vL : Value} {n : Nat} {xs : Array Value} (s : KSt w W base r0 x0 mk e te vL n xs) (j : Nat) : W.cell? ⟨x0, j, none⟩ = xs[j]? ∧ W.frozen? ⟨x0, j, none⟩ = false := by
  constructor
  · simp [World.cell?, s.xb]
  · simp [World.frozen?, s.xb]

/-- A full slice behind an append to a row of another type and a store below the base. -/
theorem full_end {wc w3 : World} {base e te size n : Nat} {mk : List Value} {v row u : Value} {p : Nat} {rc : List Value} {T : Obj} {g j : Nat} (h : Full wc base e mk v p) (hr : wc.ownsRow base te size row n rc) (hne : e ≠ te)
    (hg : (wc.alloc T).drew.grownBy w3 row.ownBlock) (hgb : g < base) : Full (w3.setCell ⟨g, j, none⟩ u) base e mk v p := by
  refine ownsRow_setCell_below ?_ hgb u
  refine World.ownsRow.kept (World.ownsRow.drew (World.ownsRow.alloc h T)) hg ?_
  cases hv : v.ownBlock with
  | none => exact .inl rfl
  | some b =>
    right
    intro hb
    obtain ⟨cs, hh⟩ := own_tag hr hb.symm
    exact own_ne h hh hne hv
/-- What was spared, to the end of it. -/
theorem spared_end {w w1 wc w3 : World} {vL row u : Value} {T : Obj} {g j : Nat} (hb : Below w.heap.size w w1) (hs : w1.heap.size = w.heap.size) (h : Spared w1 wc (fun b => some b = vL.ownBlock)) (hg : (wc.alloc T).drew.grownBy w3 row.ownBlock) :
    Spared w (w3.setCell ⟨g, j, none⟩ u) (fun k => k = g ∨ some k = vL.ownBlock ∨ some k = row.ownBlock) := by
  have a : Spared w wc (fun k => k = g ∨ some k = vL.ownBlock ∨ some k = row.ownBlock) :=
    (Spared.of_below hb _).trans h (fun i _ hi => .inr (.inl hi))
  have b : Spared wc (wc.alloc T).drew (fun _ => False) := Spared.of_below (((Below.refl _ _).alloc (Nat.le_refl _) T).drew) _
  exact ((a.trans b (fun _ _ hi => hi.elim)).trans (Spared.of_grown hg) (fun i _ hi => .inr (.inr hi))).trans (Spared.of_set w3 g j u) (fun i _ hi => .inl hi)

/-- One more mark is written into the list. -/
theorem fill_set4 (a b c d : Value) (k : Nat) (xs : List Value) (h : k * 4 + 4 ≤ xs.length) :
    ((((fills [a, b, c, d] k ++ xs.drop (k * 4)).set (k * 4) a).set (k * 4 + 1) b).set (k * 4 + 2) c).set (k * 4 + 3) d = fills [a, b, c, d] (k + 1) ++ xs.drop ((k + 1) * 4) := by
  have hl : (fills [a, b, c, d] k).length = k * 4 := by rw [fills_length]; rfl
  obtain ⟨y0, y1, y2, y3, ys, hy⟩ : ∃ y0 y1 y2 y3 ys, xs.drop (k * 4) = y0 :: y1 :: y2 :: y3 :: ys := by
    have hd : 4 ≤ (xs.drop (k * 4)).length := by rw [List.length_drop]; omega
    match hq : xs.drop (k * 4), hd with
    | y0 :: y1 :: y2 :: y3 :: ys, _ => exact ⟨y0, y1, y2, y3, ys, rfl⟩
  have hy2 : xs.drop ((k + 1) * 4) = ys := by
    rw [show (k + 1) * 4 = k * 4 + 4 by omega, ← List.drop_drop, hy]; rfl
  rw [hy2, fills_add, hy, ← hl]
  simp [List.set_append_right, fills]
theorem fill_set2 (a b : Value) (k : Nat) (xs : List Value) (h : k * 2 + 2 ≤ xs.length) :
    ((fills [a, b] k ++ xs.drop (k * 2)).set (k * 2) a).set (k * 2 + 1) b = fills [a, b] (k + 1) ++ xs.drop ((k + 1) * 2) := by
  have hl : (fills [a, b] k).length = k * 2 := by rw [fills_length]; rfl
  obtain ⟨y0, y1, ys, hy⟩ : ∃ y0 y1 ys, xs.drop (k * 2) = y0 :: y1 :: ys := by
    have hd : 2 ≤ (xs.drop (k * 2)).length := by rw [List.length_drop]; omega
    match hq : xs.drop (k * 2), hd with
    | y0 :: y1 :: ys, _ => exact ⟨y0, y1, ys, rfl⟩
  have hy2 : xs.drop ((k + 1) * 2) = ys := by
    rw [show (k + 1) * 2 = k * 2 + 2 by omega, ← List.drop_drop, hy]; rfl
  rw [hy2, fills_add, hy, ← hl]
  simp [List.set_append_right, fills]
end Go.Proofs.Ytfpodnleimhohaa
