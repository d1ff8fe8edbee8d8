/-
  ARRAYS: a part of a block written at once.
-/
import Derived.Test.YtfpodnleimhohabArr
import Derived.Test.YtfpodnleimhohabSpare
import Derived.Great.BuildSlice
namespace Go.Proofs.Ytfpodnleimhohab
open Go.RowKit
set_option linter.unusedVariables false

theorem CellsAt.sets {g : Nat} {t : TypeId} (vs : List Value) : ∀ {w : World} (A B C : List Value), B.length = vs.length → CellsAt w g t (A ++ (B ++ C)) → CellsAt (w.setCells g A.length vs) g t (A ++ (vs ++ C)) := by
  induction vs with
  | nil =>
    intro w A B C hl h
    have : B = [] := List.eq_nil_of_length_eq_zero hl
    subst this
    exact h
  | cons v r ih =>
    intro w A B C hl h
    cases B with
    | nil => simp at hl
    | cons b B =>
      have hl' : B.length = r.length := by simpa using hl
      have h1 := h.set A.length v
      rw [List.set_append_right _ _ (Nat.le_refl _), Nat.sub_self] at h1
      have h2 : CellsAt (w.setCell ⟨g, A.length, none⟩ v) g t ((A ++ [v]) ++ (B ++ C)) := by
        rw [List.append_assoc]
        exact h1
      have h3 := ih (A ++ [v]) B C hl' h2
      rw [List.length_append, List.append_assoc] at h3
      exact h3
theorem below_sets {B : Nat} {a w : World} {b : Nat} (h : Below B a w) (hb : B ≤ b) (o : Nat) (vs : List Value) : Below B a (w.setCells b o vs) := below_setCells hb vs o h
theorem CellsAt.thereAt {w : World} {g : Nat} {t : TypeId} {c : List Value} (h : CellsAt w g t c) (o n : Nat) (hn : o + n ≤ c.length) : w.there g o n := fun j hj => by
  rw [h.cell]
  exact ⟨by rw [List.getElem?_eq_getElem (by omega)]; rfl, h.frozen _⟩
theorem CellsAt.rangeAt {w : World} {g : Nat} {t : TypeId} {A B C : List Value} (h : CellsAt w g t (A ++ (B ++ C))) : w.rangeAt g A.length B := fun j v hv => by
  have hj : j < B.length := (List.getElem?_eq_some_iff.1 hv).1
  rw [h.cell, List.getElem?_append_right (by omega), List.getElem?_append_left (by omega), show A.length + j - A.length = j by omega]
  exact hv

theorem wp_store_new {P : Program} {op : Oper} {a : Act} {w : World} {K : Act → World → Prop} {Q : Exit → Act → World → Prop} (ty : TypeId) (x y : Operand) (ho : op.op = .store ty x y)
    (c : Array Value) (cs : List Value) (hx : a.eval x = .pointer (some ⟨w.heap.size, 0, none⟩)) (hy : a.eval y = .agg cs.toArray)
    (hi : (P.info? ty).map (·.size) = some cs.length) (hc : c.size = cs.length) (h1 : ∀ u ∈ cs, u.oneCell' = true)
    (h : K (a.put op.dst undef) (w.alloc (.cells cs.toArray ty))) : op.wp P a (w.alloc (.cells c ty)) K Q := by
  unfold Oper.wp execOp
  simp only [ho, hx, hy, Instr.storeAt, Instr.sureAddr, Sem.run_bind, Sem.run_pure, Result.andThen_ok, run_storeVar_new (P := P) w ty c cs.toArray (by rw [List.size_toArray]; exact hi) (by rw [List.size_toArray]; exact hc) (all_oneCell_toArray h1)]
  exact h
theorem spared_sets (g : Nat) (vs : List Value) : ∀ (o : Nat) (w : World), Spared w (w.setCells g o vs) (fun j => j = g) := by
  induction vs with
  | nil => intro o w; exact Spared.of_below (Below.refl _ _) _
  | cons v r ih =>
    intro o w
    rw [World.setCells]
    exact (Spared.of_set w g o v).trans (ih (o + 1) _) (fun _ _ h => h)
/-! ### a struct built out of its fields, some of them long -/
theorem fold_set (off : Nat) (cs : List Value) : ∀ (pre mid post : List Value) (k : Nat), mid.length = cs.length → pre.length = off + k →
    (cs.zipIdx k).foldl (fun (acc : Array Value) (p : Value × Nat) => acc.setIfInBounds (off + p.2) p.1) (pre ++ (mid ++ post)).toArray = (pre ++ (cs ++ post)).toArray := by
  induction cs with
  | nil =>
    intro pre mid post k hm hk
    have : mid = [] := List.eq_nil_of_length_eq_zero hm
    subst this
    rfl
  | cons c cs ih =>
    intro pre mid post k hm hk
    cases mid with
    | nil => simp at hm
    | cons m mid =>
      have hm' : mid.length = cs.length := by simpa using hm
      rw [List.zipIdx_cons, List.foldl_cons, List.setIfInBounds_toArray, ← hk]
      have e : (pre ++ (m :: mid ++ post)).set pre.length c = (pre ++ [c]) ++ (mid ++ post) := by
        rw [List.set_append_right _ _ (Nat.le_refl _), Nat.sub_self]
        simp
      rw [e, ih (pre ++ [c]) mid post (k + 1) hm' (by rw [List.length_append, List.length_singleton]; omega)]
      simp
/-- .. as the walk prints it: at the beginning, at a place. -/
theorem fold_at (n : Nat) (cs pre mid post : List Value) (z : Array Value) (hz : z = (pre ++ (mid ++ post)).toArray) (hm : mid.length = cs.length) (hn : pre.length = n) :
    cs.zipIdx.foldl (fun (acc : Array Value) (p : Value × Nat) => acc.setIfInBounds (n + p.2) p.1) z = (pre ++ (cs ++ post)).toArray := by
  rw [hz]
  exact fold_set n cs pre mid post 0 hm (by omega)
theorem fold_at0 (cs mid post : List Value) (z : Array Value) (hz : z = (mid ++ post).toArray) (hm : mid.length = cs.length) :
    cs.zipIdx.foldl (fun (acc : Array Value) (p : Value × Nat) => acc.setIfInBounds p.2 p.1) z = (cs ++ post).toArray := by
  have h := fold_at 0 cs [] mid post z hz hm rfl
  simp only [Nat.zero_add, List.nil_append] at h
  exact h
theorem fill_put {place : Nat → Option (Nat × Nat)} {i off : Nat} {v : Value} {cs : List Value} (pre mid post : List Value) {rest : List (Nat × Value)} (hp : place i = some (off, cs.length)) (ho : pre.length = off) (hv : v.cells = cs.toArray) (hm : mid.length = cs.length) :
    Instr.fill place (pre ++ (mid ++ post)).toArray ((i, v) :: rest) = Instr.fill place (pre ++ (cs ++ post)).toArray rest := by
  have h := fold_set off cs pre mid post 0 hm (by omega)
  simp only [Instr.fill, hp, hv]
  rw [if_neg (by simp; omega)]
  congr 1
  rw [← Array.foldl_toList, Array.toList_zipIdx]
  exact h
theorem built_of {P : Program} {t : TypeId} {z : Array Value} {places : List (Nat × Nat)} (hz : (P.info? t).bind (·.zero) = some (.agg z))
    (hp : ((P.underlying t).bind fun d => match d with | .struct fields => fields.toList.mapM (fun f => (P.info? f.type).map fun i => (f.offset, i.size)) | _ => none) = some places) (parts : List (Nat × Value)) :
    P.built t parts = Instr.fill (places.toArray[·]?) z parts := by
  unfold Program.built
  cases hi : P.info? t with
  | none => simp [hi] at hz
  | some it =>
    cases hu : P.underlying t with
    | none => simp [hu] at hp
    | some d =>
      cases d with
      | struct fields =>
        simp only [hu, Option.bind_some] at hp
        simp only [hi, Option.bind_some] at hz
        simp only [hz, hp]
        rfl
      | _ => simp [hu] at hp
/-- .. in a region that draws its order. -/
theorem yieldsIf_build {P : Program} {ops : Array Oper} {S : World → Prop} {op : Oper} {a : Act} (hw : Region.wanted op (yielded ops a.tmps) = true) (t : TypeId) (parts : Array (Nat × Operand)) (ho : op.op = .build t parts)
    (vs : List (Nat × Value)) (hv : (parts.toList.map fun (p : Nat × Operand) => (p.1, a.eval p.2)) = vs) (cells : Array Value) (hb : P.built t vs = some cells) : YieldsIf P ops S op (.agg cells) a :=
  .inl ⟨hw, fun w _ => by
    have hb' : P.built t (parts.map fun (i, x) => (i, a.eval x)).toList = some cells := by rw [Array.toList_map]; rw [← hv] at hb; exact hb
    unfold execOp
    simp only [ho, Sem.run_bind, run_build w t _ cells hb', Result.andThen_ok]
    rfl⟩
theorem wpList_buildL {P : Program} {ops : Array Oper} {rest : List Oper} {o : Oper} {a : Act} {w : World} {Q : Exit → Act → World → Prop} (hg : o.guard = none) (t : TypeId) (parts : Array (Nat × Operand)) (ho : o.op = .build t parts)
    (d : Option Tmp) (hd : o.dst = d) (vs : List (Nat × Value)) (hv : (parts.toList.map fun (p : Nat × Operand) => (p.1, a.eval p.2)) = vs) (cells : Array Value) (hb : P.built t vs = some cells)
    (h : wpList P ops Q rest (a.put d (.agg cells)) w) : wpList P ops Q (o :: rest) a w :=
  wpList_buildTo hg t parts ho d hd cells (by rw [Array.toList_map]; rw [← hv] at hb; exact hb) h
end Go.Proofs.Ytfpodnleimhohab
