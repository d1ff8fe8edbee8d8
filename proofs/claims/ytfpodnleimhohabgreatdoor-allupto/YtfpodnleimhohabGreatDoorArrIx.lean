/-
  ARRAYS AS VALUES: an index into one; tables of two kinds of numbers.
-/
import Derived.Test.YtfpodnleimhohabGreatDoorArr
namespace Go.Proofs.YtfpodnleimhohabGreatDoor
open Go.RowKit
set_option linter.unusedVariables false

theorem size_of {P : Program} {e : TypeId} {s : Nat} (hi : (P.info? e).map (·.size) = some s) (w : World) : (sizeOf e).run P w = .ok s w := by
  cases hq : P.info? e with
  | none => simp [hq] at hi
  | some i =>
    have hs : i.size = s := by simpa [hq] using hi
    simp [sizeOf, typeInfo, hq, hs]
theorem run_index_one {P : Program} (w : World) (ty e : TypeId) (n : Nat) (cs : Array Value) (i : Nat) (v : Value) (hu : P.underlying ty = some (.array n e)) (d : TypeDesc) (he : P.underlying e = some d) (hd : d.isRow = false)
    (hi : (P.info? e).map (·.size) = some 1) (h : i < n) (hv : cs[i]? = some v) : (Instr.index ty (.agg cs) (.int .i64 (i : Int))).run P w = .ok v w := by
  have hagg : (isAgg e).run P w = .ok false w := by
    unfold isAgg
    rw [Sem.run_bind, run_underlying he w]
    cases d <;> simp_all [TypeDesc.isRow]
  have hc : (0 : Int) ≤ (i : Int) ∧ (i : Int) < (n : Int) := by omega
  simp [Instr.index, asIntOf, run_underlying hu, h, size_of hi w, part, hagg, hv, Sem.run_bind]
theorem run_index_row {P : Program} (w : World) (ty e : TypeId) (n s : Nat) (cs : Array Value) (i : Nat) (hu : P.underlying ty = some (.array n e)) (d : TypeDesc) (he : P.underlying e = some d) (hd : d.isRow = true)
    (hi : (P.info? e).map (·.size) = some s) (h : i < n) : (Instr.index ty (.agg cs) (.int .i64 (i : Int))).run P w = .ok (.agg (cs.extract (i * s) (i * s + s))) w := by
  have hagg : (isAgg e).run P w = .ok true w := by
    unfold isAgg
    rw [Sem.run_bind, run_underlying he w]
    cases d <;> simp_all
  simp [Instr.index, asIntOf, run_underlying hu, h, size_of hi w, part, hagg, Sem.run_bind]
theorem wpList_index_one {P : Program} {ops : Array Oper} {rest : List Oper} {op : Oper} {a : Act} {w : World} {Q : Exit → Act → World → Prop} (hgd : op.guard = none) (ty : TypeId) (x y : Operand) (ho : op.op = .index ty x y)
    (e : TypeId) (n : Nat) (cs : Array Value) (i : Nat) (v : Value) (hx : a.eval x = .agg cs) (hy : a.eval y = .int .i64 (i : Int)) (hu : P.underlying ty = some (.array n e)) (d : TypeDesc) (he : P.underlying e = some d) (hd : d.isRow = false)
    (hi : (P.info? e).map (·.size) = some 1) (h : i < n) (hv : cs[i]? = some v) (hK : wpList P ops Q rest (a.put op.dst v) w) : wpList P ops Q (op :: rest) a w :=
  wpList_plain hgd fun K hK' => by
    unfold Oper.wp execOp
    simp only [ho, hx, hy, Sem.run_bind, Sem.run_pure, Result.andThen_ok, run_index_one w ty e n cs i v hu d he hd hi h hv]
    exact hK' _ _ hK
theorem wpList_index_row {P : Program} {ops : Array Oper} {rest : List Oper} {op : Oper} {a : Act} {w : World} {Q : Exit → Act → World → Prop} (hgd : op.guard = none) (ty : TypeId) (x y : Operand) (ho : op.op = .index ty x y)
    (e : TypeId) (n s : Nat) (cs : Array Value) (i : Nat) (hx : a.eval x = .agg cs) (hy : a.eval y = .int .i64 (i : Int)) (hu : P.underlying ty = some (.array n e)) (d : TypeDesc) (he : P.underlying e = some d) (hd : d.isRow = true)
    (hi : (P.info? e).map (·.size) = some s) (h : i < n) (hK : wpList P ops Q rest (a.put op.dst (.agg (cs.extract (i * s) (i * s + s)))) w) : wpList P ops Q (op :: rest) a w :=
  wpList_plain hgd fun K hK' => by
    unfold Oper.wp execOp
    simp only [ho, hx, hy, Sem.run_bind, Sem.run_pure, Result.andThen_ok, run_index_row w ty e n s cs i hu d he hd hi h]
    exact hK' _ _ hK

/-! ### tables of int32 -/
def tabw (n : Nat) (f : Nat → Int) : List Value := (List.range n).map fun i => .int .i32 (f i)
theorem tabw_length (n : Nat) (f : Nat → Int) : (tabw n f).length = n := by simp [tabw]
theorem tabw_get {n i : Nat} (f : Nat → Int) (h : i < n) : (tabw n f)[i]? = some (.int .i32 (f i)) := by
  unfold tabw
  rw [List.getElem?_map, List.getElem?_range h]; rfl
theorem tabw_congr {n : Nat} {f g : Nat → Int} (h : ∀ i, i < n → f i = g i) : tabw n f = tabw n g := by
  unfold tabw
  exact List.map_congr_left (fun i hi => by rw [h i (List.mem_range.1 hi)])
theorem tabw_set (n i : Nat) (f : Nat → Int) (v : Int) : (tabw n f).set i (.int .i32 v) = tabw n (upd f i v) := by
  apply List.ext_getElem?
  intro j
  rw [List.getElem?_set, tabw_length]
  by_cases hj : j < n
  · rw [tabw_get (upd f i v) hj]
    by_cases e : i = j
    · subst e; rw [if_pos rfl, if_pos hj]; simp [upd]
    · rw [if_neg e, tabw_get f hj]; simp only [upd]; rw [if_neg (fun h => e h.symm)]
  · have h1 : (tabw n f)[j]? = none := List.getElem?_eq_none (by rw [tabw_length]; omega)
    have h2 : (tabw n (upd f i v))[j]? = none := List.getElem?_eq_none (by rw [tabw_length]; omega)
    rw [h1, h2]
    by_cases e : i = j
    · subst e; rw [if_pos rfl, if_neg hj]
    · rw [if_neg e]
theorem tabw_one (n : Nat) (f : Nat → Int) : ∀ u ∈ tabw n f, u.oneCell' = true := by
  intro u hu
  unfold tabw at hu
  obtain ⟨i, _, rfl⟩ := List.mem_map.1 hu
  rfl
theorem row_extract (l : List Value) (c n m : Nat) (hl : l.length = n) (h : c * m + m ≤ n) : (l.toArray.extract (c * m) (c * m + m)).toList = (l.drop (c * m)).take m := by
  simp
end Go.Proofs.YtfpodnleimhohabGreatDoor
