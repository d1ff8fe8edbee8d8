/-
  ARRAYS: a block that holds a table of numbers.
-/
import Derived.Test.YtfpodnleimhohabGreatDoorOwn
import Derived.Deep.MidRow
import Derived.Deep.WholeRow
import Derived.Deep.OwnRows
namespace Go.Proofs.YtfpodnleimhohabGreatDoor
open Go.RowKit
set_option linter.unusedVariables false

/-- The cells of a table of n numbers. -/
def tab (n : Nat) (f : Nat → Int) : List Value := (List.range n).map fun i => .int .i64 (f i)
def upd (f : Nat → Int) (i : Nat) (v : Int) : Nat → Int := fun j => if j = i then v else f j
theorem tab_length (n : Nat) (f : Nat → Int) : (tab n f).length = n := by simp [tab]
theorem tab_get {n i : Nat} (f : Nat → Int) (h : i < n) : (tab n f)[i]? = some (.int .i64 (f i)) := by
  unfold tab
  rw [List.getElem?_map, List.getElem?_range h]; rfl
theorem tab_congr {n : Nat} {f g : Nat → Int} (h : ∀ i, i < n → f i = g i) : tab n f = tab n g := by
  unfold tab
  exact List.map_congr_left (fun i hi => by rw [h i (List.mem_range.1 hi)])
theorem tab_set (n i : Nat) (f : Nat → Int) (v : Int) : (tab n f).set i (.int .i64 v) = tab n (upd f i v) := by
  apply List.ext_getElem?
  intro j
  rw [List.getElem?_set, tab_length]
  by_cases hj : j < n
  · rw [tab_get (upd f i v) hj]
    by_cases e : i = j
    · subst e; rw [if_pos rfl, if_pos hj]; simp [upd]
    · rw [if_neg e, tab_get f hj]; simp only [upd]; rw [if_neg (fun h => e h.symm)]
  · have h1 : (tab n f)[j]? = none := List.getElem?_eq_none (by rw [tab_length]; omega)
    have h2 : (tab n (upd f i v))[j]? = none := List.getElem?_eq_none (by rw [tab_length]; omega)
    rw [h1, h2]
    by_cases e : i = j
    · subst e; rw [if_pos rfl, if_neg hj]
    · rw [if_neg e]
theorem tab_one (n : Nat) (f : Nat → Int) : ∀ u ∈ tab n f, u.oneCell' = true := by
  intro u hu
  unfold tab at hu
  obtain ⟨i, _, rfl⟩ := List.mem_map.1 hu
  rfl
/-- Block g holds the cells c. -/
def CellsAt (w : World) (g : Nat) (t : TypeId) (c : List Value) : Prop := w.heap[g]? = some (.cells c.toArray t)
theorem CellsAt.lt {w : World} {g : Nat} {t : TypeId} {c : List Value} (h : CellsAt w g t c) : g < w.heap.size := lt_of_block h
theorem CellsAt.cell {w : World} {g : Nat} {t : TypeId} {c : List Value} (h : CellsAt w g t c) (i : Nat) : w.cell? ⟨g, i, none⟩ = c[i]? := by
  rw [cell_of_row w g i c.toArray t (0, 0) h]; simp
theorem CellsAt.frozen {w : World} {g : Nat} {t : TypeId} {c : List Value} (h : CellsAt w g t c) (i : Nat) : w.frozen? ⟨g, i, none⟩ = false := frozen_of_row w g i c.toArray t h
theorem CellsAt.set {w : World} {g : Nat} {t : TypeId} {c : List Value} (h : CellsAt w g t c) (i : Nat) (v : Value) : CellsAt (w.setCell ⟨g, i, none⟩ v) g t (c.set i v) := by
  unfold CellsAt
  rw [heap_setCell_same w g i c.toArray t v h]
  simp
theorem CellsAt.other {w : World} {g g' : Nat} {t : TypeId} {c : List Value} (h : CellsAt w g t c) (hne : g ≠ g') (i : Nat) (v : Value) : CellsAt (w.setCell ⟨g', i, none⟩ v) g t c := by
  unfold CellsAt
  rw [heap_setCell_other w ⟨g', i, none⟩ g v hne]; exact h
theorem CellsAt.kept {w w' : World} {g B : Nat} {t : TypeId} {c : List Value} (h : CellsAt w g t c) (hb : Below B w w') (hg : g < B) : CellsAt w' g t c := (hb.block g hg).trans h
theorem CellsAt.later {w w' : World} {g : Nat} {t : TypeId} {c : List Value} (h : CellsAt w g t c) (hb : Below w.heap.size w w') : CellsAt w' g t c := h.kept hb h.lt
theorem CellsAt.alloc {w : World} {g : Nat} {t : TypeId} {c : List Value} (h : CellsAt w g t c) (o : Obj) : CellsAt (w.alloc o) g t c := (Below.heap_alloc w o g h.lt).trans h
theorem CellsAt.new (w : World) (c : Array Value) (l : List Value) (t : TypeId) (h : c = l.toArray) {g : Nat} (hg : g = w.heap.size) : CellsAt (w.alloc (.cells c t)) g t l := by
  subst hg; unfold CellsAt; rw [h]; exact heap_alloc_new w _
theorem CellsAt.grown {w w' : World} {g : Nat} {t : TypeId} {c : List Value} {row : Option Nat} (h : CellsAt w g t c) (hg : w.grownBy w' row) (hne : row ≠ some g) : CellsAt w' g t c :=
  (hg.block g h.lt (fun e => hne e.symm)).trans h
theorem CellsAt.range {w : World} {g : Nat} {t : TypeId} {c : List Value} (h : CellsAt w g t c) : w.rangeAt g 0 c := fun j v hv => by rw [Nat.zero_add, h.cell]; exact hv
theorem CellsAt.there {w : World} {g : Nat} {t : TypeId} {c : List Value} (h : CellsAt w g t c) : w.there g 0 c.length := fun j hj => by
  rw [Nat.zero_add, h.cell]
  exact ⟨by rw [List.getElem?_eq_getElem hj]; rfl, h.frozen j⟩
theorem below_setCells {B : Nat} {a : World} {b : Nat} (hb : B ≤ b) : ∀ (vs : List Value) (o : Nat) {w : World}, Below B a w → Below B a (w.setCells b o vs)
  | [], _, _, h => h
  | v :: r, o, w, h => by
    rw [World.setCells]
    exact below_setCells hb r (o + 1) (h.setCell (p := ⟨b, o, none⟩) hb v)
/-- A whole array into the block that was made last. -/
theorem wpList_store_new {P : Program} {ops : Array Oper} {rest : List Oper} {op : Oper} {a : Act} {w : World} {Q : Exit → Act → World → Prop} (hgd : op.guard = none) (ty : TypeId) (x y : Operand) (ho : op.op = .store ty x y)
    (c : Array Value) (cs : List Value) (hx : a.eval x = .pointer (some ⟨w.heap.size, 0, none⟩)) (hy : a.eval y = .agg cs.toArray)
    (hi : (P.info? ty).map (·.size) = some cs.length) (hc : c.size = cs.length) (h1 : ∀ u ∈ cs, u.oneCell' = true)
    (h : wpList P ops Q rest (a.put op.dst undef) (w.alloc (.cells cs.toArray ty))) : wpList P ops Q (op :: rest) a (w.alloc (.cells c ty)) :=
  wpList_plain hgd fun K hK => by
    unfold Oper.wp execOp
    simp only [ho, hx, hy, Instr.storeAt, Instr.sureAddr, Sem.run_bind, Sem.run_pure, Result.andThen_ok, run_storeVar_new (P := P) w ty c cs.toArray (by rw [List.size_toArray]; exact hi) (by rw [List.size_toArray]; exact hc) (all_oneCell_toArray h1)]
    exact hK _ _ h
theorem made_tab (n : Nat) : madeCells #[.int .i64 0] n = (tab n fun _ => 0).toArray := by
  apply Array.ext_getElem?
  intro i
  simp [madeCells, tab]
  by_cases h : i < n <;> simp [h, Nat.mod_one]
/-- A list that was just made is the call's own. -/
theorem owns_new (w : World) (base n : Nat) (e : TypeId) (l : List Value) (hb : base ≤ w.heap.size) (hl : l.length = n) (hm : n ≤ maxLen) : (w.alloc (.cells l.toArray e)).ownsRow base e 1 (.slice (some ⟨w.heap.size, 0, none⟩) n n) n l := by
  refine ⟨by omega, .inr ⟨w.heap.size, n, l.toArray, rfl, hb, heap_alloc_new w _, Nat.le_refl _, hm, by simp [hl], ?_⟩⟩
  simp [← hl]
end Go.Proofs.YtfpodnleimhohabGreatDoor
