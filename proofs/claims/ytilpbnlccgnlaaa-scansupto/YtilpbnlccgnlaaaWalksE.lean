/-
  WALKS: a list is kept.
-/
import Derived.Test.YtilpbnlccgnlaaaWalksD
namespace Go.Proofs.Ytilpbnlccgnlaaa
open Go.RowKit
set_option linter.unusedVariables false

/-- Of the old blocks those of S alone may have turned. -/
structure Spared (w w' : World) (S : Nat → Prop) : Prop where
  os : w'.os = w.os
  tape : w'.tape = w.tape
  output : w'.output = w.output
  size : w.heap.size ≤ w'.heap.size
  block : ∀ k, k < w.heap.size → ¬ S k → w'.heap[k]? = w.heap[k]?
theorem Spared.refl (w : World) (S : Nat → Prop) : Spared w w S := ⟨rfl, rfl, rfl, Nat.le_refl _, fun _ _ _ => rfl⟩
theorem Spared.trans {a b c : World} {S T : Nat → Prop} (h : Spared a b S) (k : Spared b c T) (hT : ∀ i, i < a.heap.size → T i → S i) : Spared a c S :=
  ⟨k.os.trans h.os, k.tape.trans h.tape, k.output.trans h.output, Nat.le_trans h.size k.size, fun i hi hs => (k.block i (Nat.lt_of_lt_of_le hi h.size) (fun t => hs (hT i hi t))).trans (h.block i hi hs)⟩
theorem Spared.of_below {w w' : World} (h : Below w.heap.size w w') (S : Nat → Prop) : Spared w w' S := ⟨h.os, h.tape, h.output, h.size, fun k hk _ => h.block k hk⟩
theorem Spared.of_grown {w w' : World} {row : Option Nat} (h : w.grownBy w' row) : Spared w w' (fun k => some k = row) := ⟨h.os, h.tape, h.output, h.size, fun k hk hs => h.block k hk hs⟩
theorem Spared.of_set (w : World) (g j : Nat) (u : Value) : Spared w (w.setCell ⟨g, j, none⟩ u) (fun k => k = g) :=
  ⟨rfl, rfl, rfl, by simp, fun k _ hs => heap_setCell_other w _ k u hs⟩
theorem Spared.mono {w w' : World} {S T : Nat → Prop} (h : Spared w w' S) (hST : ∀ k, S k → T k) : Spared w w' T := ⟨h.os, h.tape, h.output, h.size, fun k hk ht => h.block k hk (fun s => ht (hST k s))⟩
theorem Spared.below {w w' : World} {S : Nat → Prop} {B : Nat} (h : Spared w w' S) (hS : ∀ k, S k → B ≤ k) (hB : B ≤ w.heap.size) : Below B w w' :=
  ⟨h.os, h.tape, h.output, h.size, fun k hk => h.block k (by omega) (fun s => by have := hS k s; omega)⟩
/-- A row whose block is spared. -/
theorem ownsRow_spared {w w' : World} {S : Nat → Prop} {base : Nat} {e : TypeId} {size : Nat} {v : Value} {n : Nat} {xs : List Value} (h : w.ownsRow base e size v n xs) (hs : Spared w w' S) (hv : ∀ k, v.ownBlock = some k → ¬ S k) : w'.ownsRow base e size v n xs := by
  refine ⟨h.1, ?_⟩
  rcases h.2 with hn | ⟨g, cap, cur, rfl, hb, hh, r⟩
  · exact .inl hn
  · exact .inr ⟨g, cap, cur, rfl, hb, (hs.block g (lt_of_block hh) (hv g rfl)).trans hh, r⟩
/-- A row of another element type is another block. -/
theorem own_ne {w : World} {base e size n g e' : Nat} {v : Value} {xs : List Value} {cs : Array Value} {f : Nat × Nat} (h : w.ownsRow base e size v n xs) (hb : w.heap[g]? = some (.cells cs e' f)) (hne : e ≠ e') : v.ownBlock ≠ some g := by
  rcases h.2 with ⟨rfl, _⟩ | ⟨g', cap, cur, rfl, _, hh, _⟩
  · simp [Value.ownBlock]
  · intro hg
    simp [Value.ownBlock] at hg
    subst hg
    rw [hh] at hb
    simp at hb
    exact hne hb.2.1

theorem own_tag {w : World} {base e size n j : Nat} {v : Value} {xs : List Value} (h : w.ownsRow base e size v n xs) (hj : v.ownBlock = some j) : ∃ cs, w.heap[j]? = some (.cells cs e (0, 0)) := by
  rcases h.2 with ⟨rfl, _⟩ | ⟨g, c, u, rfl, _, hh, _⟩
  · simp [Value.ownBlock] at hj
  · simp [Value.ownBlock] at hj
    subst hj
    exact ⟨u, hh⟩
/-- On the way: the mark's block, the new entry's block, the list full. -/
structure KSt (w W : World) (base r0 x0 : Nat) (mk : List Value) (e te : Nat) (vL : Value) (n : Nat) (xs : Array Value) : Prop where
  rb : W.heap[r0]? = some (.cells mk.toArray e (0, 0))
  xb : W.heap[x0]? = some (.cells xs te (0, 0))
  full : Full W base e mk vL n
  sp : Spared w W (fun b => some b = vL.ownBlock)
  rw' : w.heap.size ≤ r0
  xw : w.heap.size ≤ x0
  vl : ∀ k, vL.ownBlock = some k → k < r0 ∧ k < x0
theorem KSt.step {w W w2 : World} {base r0 x0 : Nat} {mk : List Value} {e te : Nat} {vL : Value} {n : Nat} {xs : Array Value} {T : Obj} {k : Nat} {v : Value} (s : KSt w W base r0 x0 mk e te vL n xs) (hne : e ≠ te) (i : Nat)
    (hg : (W.alloc T).grownBy w2 vL.ownBlock) (hst : ∀ o p, p ≤ n + k → Full (W.alloc T) base e mk o p → Full w2 base e mk o p) (hv : Full w2 base e mk v (n + k)) :
    KSt w (w2.setCell ⟨x0, i, none⟩ v) base r0 x0 mk e te vL n (xs.setIfInBounds i v) ∧ Full (w2.setCell ⟨x0, i, none⟩ v) base e mk v (n + k) ∧ (∀ o p, p ≤ n + k → Full W base e mk o p → Full (w2.setCell ⟨x0, i, none⟩ v) base e mk o p) := by
  have lx := lt_of_block s.xb
  have lr := lt_of_block s.rb
  have ax : (W.alloc T).heap[x0]? = some (.cells xs te (0, 0)) := (Below.heap_alloc W T x0 lx).trans s.xb
  have ar : (W.alloc T).heap[r0]? = some (.cells mk.toArray e (0, 0)) := (Below.heap_alloc W T r0 lr).trans s.rb
  have x2 : w2.heap[x0]? = some (.cells xs te (0, 0)) := (hg.block x0 (by simp; omega) (fun h => by have := (s.vl x0 h.symm).2; omega)).trans ax
  have r2 : w2.heap[r0]? = some (.cells mk.toArray e (0, 0)) := (hg.block r0 (by simp; omega) (fun h => by have := (s.vl r0 h.symm).1; omega)).trans ar
  have hrx : r0 ≠ x0 := by
    intro h; rw [h, x2] at r2; simp at r2; exact hne r2.2.symm
  have keep : ∀ o p, Full w2 base e mk o p → Full (w2.setCell ⟨x0, i, none⟩ v) base e mk o p := fun o p h =>
    ownsRow_setCell_other h (own_ne h x2 hne) v
  have all : ∀ o p, p ≤ n + k → Full W base e mk o p → Full (w2.setCell ⟨x0, i, none⟩ v) base e mk o p := fun o p hp h => keep o p (hst o p hp (World.ownsRow.alloc h T))
  refine ⟨⟨?_, heap_setCell_same w2 x0 i xs te v x2, all vL n (by omega) s.full, ?_, s.rw', s.xw, s.vl⟩, keep v _ hv, all⟩
  · rw [heap_setCell_other w2 _ r0 v hrx]; exact r2
  · refine ((s.sp.trans (Spared.of_grown (World.grownBy_alloc W T vL.ownBlock)) (fun _ _ h => h)).trans (Spared.of_grown hg) (fun _ _ h => h)).trans (Spared.of_set w2 x0 i v) ?_
    intro j hj h
    have := s.xw
    omega
theorem KSt.after {w W w2 : World} {base r0 x0 : Nat} {mk : List Value} {e te : Nat} {vL : Value} {n : Nat} {xs : Array Value} {T : Obj} (s : KSt w W base r0 x0 mk e te vL n xs) (hg : (W.alloc T).grownBy w2 vL.ownBlock) :
    w2.heap[x0]? = some (.cells xs te (0, 0)) := by
  have lx := lt_of_block s.xb
  exact (hg.block x0 (by simp; omega) (fun h => by have := (s.vl x0 h.symm).2; omega)).trans ((Below.heap_alloc W T x0 lx).trans s.xb)
theorem KSt.rc {w W : World} {base r0 x0 : Nat} {mk : List Value} {e te : Nat} {vL : Value} {n : Nat} {xs : Array Value} (s : KSt w W base r0 x0 mk e te vL n xs) (j : Nat) : W.cell? ⟨r0, j, none⟩ = mk[j]? := by
  simp [World.cell?, s.rb]
theorem KSt.xc {w W : World} {base r0 x0 : Nat} {mk : List Value} {e te : Nat} {vL : Value} {n : Nat} {xs : Array Value} (s : KSt w W base r0 x0 mk e te vL n xs) (j : Nat) : W.cell? ⟨x0, j, none⟩ = xs[j]? ∧ W.frozen? ⟨x0, j, none⟩ = false := by
  constructor
  · simp [World.cell?, s.xb]
  · simp [World.frozen?, s.xb]

/-- A full slice behind an append to a row of another type and a store below the base. -/
theorem full_end {wc w3 : World} {base e te size n : Nat} {mk : List Value} {v row u : Value} {p : Nat} {rc : List Value} {T : Obj} {g j : Nat} (h : Full wc base e mk v p) (hr : wc.ownsRow base te size row n rc) (hne : e ≠ te)
    (hg : (wc.alloc T).drew.grownBy w3 row.ownBlock) (hgb : g < base) : Full (w3.setCell ⟨g, j, none⟩ u) base e mk v p := by
  refine ownsRow_setCell_below ?_ hgb u
  refine World.ownsRow.kept (World.ownsRow.drew (World.ownsRow.alloc h T)) hg ?_
  cases hv : v.ownBlock with
  | none => exact .inl rfl
  | some b =>
    right
    intro hb
    obtain ⟨cs, hh⟩ := own_tag hr hb.symm
    exact own_ne h hh hne hv
/-- What was spared, to the end of it. -/
theorem spared_end {w w1 wc w3 : World} {vL row u : Value} {T : Obj} {g j : Nat} (hb : Below w.heap.size w w1) (hs : w1.heap.size = w.heap.size) (h : Spared w1 wc (fun b => some b = vL.ownBlock)) (hg : (wc.alloc T).drew.grownBy w3 row.ownBlock) :
    Spared w (w3.setCell ⟨g, j, none⟩ u) (fun k => k = g ∨ some k = vL.ownBlock ∨ some k = row.ownBlock) := by
  have a : Spared w wc (fun k => k = g ∨ some k = vL.ownBlock ∨ some k = row.ownBlock) :=
    (Spared.of_below hb _).trans h (fun i _ hi => .inr (.inl hi))
  have b : Spared wc (wc.alloc T).drew (fun _ => False) := Spared.of_below (((Below.refl _ _).alloc (Nat.le_refl _) T).drew) _
  exact ((a.trans b (fun _ _ hi => hi.elim)).trans (Spared.of_grown hg) (fun i _ hi => .inr (.inr hi))).trans (Spared.of_set w3 g j u) (fun i _ hi => .inl hi)

/-- One more mark is written into the list. -/
theorem fill_set4 (a b c d : Value) (k : Nat) (xs : List Value) (h : k * 4 + 4 ≤ xs.length) :
    ((((fills [a, b, c, d] k ++ xs.drop (k * 4)).set (k * 4) a).set (k * 4 + 1) b).set (k * 4 + 2) c).set (k * 4 + 3) d = fills [a, b, c, d] (k + 1) ++ xs.drop ((k + 1) * 4) := by
  have hl : (fills [a, b, c, d] k).length = k * 4 := by rw [fills_length]; rfl
  obtain ⟨y0, y1, y2, y3, ys, hy⟩ : ∃ y0 y1 y2 y3 ys, xs.drop (k * 4) = y0 :: y1 :: y2 :: y3 :: ys := by
    have hd : 4 ≤ (xs.drop (k * 4)).length := by rw [List.length_drop]; omega
    match hq : xs.drop (k * 4), hd with
    | y0 :: y1 :: y2 :: y3 :: ys, _ => exact ⟨y0, y1, y2, y3, ys, rfl⟩
  have hy2 : xs.drop ((k + 1) * 4) = ys := by
    rw [show (k + 1) * 4 = k * 4 + 4 by omega, ← List.drop_drop, hy]; rfl
  rw [hy2, fills_add, hy, ← hl]
  simp [List.set_append_right, fills]
theorem fill_set2 (a b : Value) (k : Nat) (xs : List Value) (h : k * 2 + 2 ≤ xs.length) :
    ((fills [a, b] k ++ xs.drop (k * 2)).set (k * 2) a).set (k * 2 + 1) b = fills [a, b] (k + 1) ++ xs.drop ((k + 1) * 2) := by
  have hl : (fills [a, b] k).length = k * 2 := by rw [fills_length]; rfl
  obtain ⟨y0, y1, ys, hy⟩ : ∃ y0 y1 ys, xs.drop (k * 2) = y0 :: y1 :: ys := by
    have hd : 2 ≤ (xs.drop (k * 2)).length := by rw [List.length_drop]; omega
    match hq : xs.drop (k * 2), hd with
    | y0 :: y1 :: ys, _ => exact ⟨y0, y1, ys, rfl⟩
  have hy2 : xs.drop ((k + 1) * 2) = ys := by
    rw [show (k + 1) * 2 = k * 2 + 2 by omega, ← List.drop_drop, hy]; rfl
  rw [hy2, fills_add, hy, ← hl]
  simp [List.set_append_right, fills]
end Go.Proofs.Ytilpbnlccgnlaaa
