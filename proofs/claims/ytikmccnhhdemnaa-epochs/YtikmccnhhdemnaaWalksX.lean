/-
  WALKS: the document's counts.
-/
import Derived.Test.YtikmccnhhdemnaaWalksW
import Derived.Test.YtikmccnhhdemnaaArr
namespace Go.Proofs.Ytikmccnhhdemnaa
open Go.RowKit
set_option linter.unusedVariables false

theorem fourN_lt (r : Nat) : ∀ x ∈ fourN r, x < 256 := by
  intro x hx
  simp only [fourN, List.mem_cons, List.not_mem_nil, or_false] at hx
  rcases hx with h | h | h | h <;> omega
/-- One more of a bucket. -/
theorem upd_raw (X : List Nat) (k : Nat) (f : Nat → Int) (q : Nat) (hf : f = fun b => ((rawN X k b : Nat) : Int)) :
    upd f q ((rawN X k q : Nat) + 1) = fun b => ((rawN X k b + (if q = b then 1 else 0) : Nat) : Int) := by
  subst hf
  funext b
  simp only [upd]
  by_cases h : b = q
  · subst h; simp
  · rw [if_neg h, if_neg (fun e => h e.symm)]; simp

/-- The counts behind the k-th rune. -/
theorem raw_next0 (X : List Nat) (q x : Nat) (hx : X.getD 0 0 = x) (hq : bucketN (fourN x) = q) (f : Nat → Int) (hf : f = fun b => ((rawN X 0 b + (if q = b then 1 else 0) : Nat) : Int)) : f = fun b => ((rawN X 1 b : Nat) : Int) := by
  rw [hf]
  funext b
  rw [rawN_succ, hx, hq]; simp
theorem raw_next (X : List Nat) (k q q2 x y : Nat) (hk : 0 < k) (hx : X.getD k 0 = x) (hy : X.getD (k - 1) 0 = y) (hq : bucketN (fourN x) = q) (hq2 : bucketN (fourN y ++ fourN x) = q2) (f : Nat → Int)
    (hf : f = fun b => ((rawN X k b + (if q = b then 1 else 0) : Nat) : Int)) : upd f q2 (f q2 + 1) = fun b => ((rawN X (k + 1) b : Nat) : Int) := by
  rw [hf]
  funext b
  rw [rawN_succ, hx, hy, hq, hq2]
  have e : (0 < k ∧ q2 = b) ↔ b = q2 := ⟨fun e => e.2.symm, fun e => ⟨hk, e.symm⟩⟩
  simp only [upd, e]
  by_cases h : b = q2
  · subst h; simp only [if_true]; omega
  · simp only [h, if_false, Nat.add_zero]

/-- The counts, the first k of them cut. -/
def cutTo (N : Nat → Nat) (k b : Nat) : Int := if b < k then ((min 7 (N b) : Nat) : Int) else (N b : Int)
theorem cut_yes (N : Nat → Nat) (k : Nat) (h : 7 < N k) : upd (cutTo N k) k 7 = cutTo N (k + 1) := by
  funext b
  simp only [upd, cutTo]
  by_cases e : b = k
  · subst e; rw [if_pos rfl, if_pos (by omega)]; omega
  · rw [if_neg e]
    by_cases l : b < k
    · rw [if_pos l, if_pos (by omega)]
    · rw [if_neg l, if_neg (by omega)]
theorem cut_no (N : Nat → Nat) (k : Nat) (h : ¬ 7 < N k) : cutTo N k = cutTo N (k + 1) := by
  funext b
  simp only [cutTo]
  by_cases e : b = k
  · subst e; rw [if_neg (by omega), if_pos (by omega)]; omega
  · by_cases l : b < k
    · rw [if_pos l, if_pos (by omega)]
    · rw [if_neg l, if_neg (by omega)]

/-- How memory stands while counts are made. -/
structure CntAt (w wr : World) (v : Value) (X : List Nat) (f : Nat → Int) : Prop where
  a : CellsAt wr w.heap.size 110 (tab 32 fun _ => 0)
  b : CellsAt wr (w.heap.size + 1) 110 (tab 32 f)
  o : wr.ownsRow (w.heap.size + 2) 3 1 v X.length (intCells X)
  l : Below w.heap.size w wr
theorem CntAt.later {w wr wr' : World} {v : Value} {X : List Nat} {f : Nat → Int} (h : CntAt w wr v X f) (hb : Below wr.heap.size wr wr') : CntAt w wr' v X f :=
  ⟨h.a.later hb, h.b.later hb, ownsRow_below h.o hb, h.l.trans (hb.mono h.l.size)⟩
theorem CntAt.set {w wr : World} {v : Value} {X : List Nat} {f : Nat → Int} (h : CntAt w wr v X f) (q : Nat) (z : Int) : CntAt w (wr.setCell ⟨w.heap.size + 1, q, none⟩ (.int .i64 z)) v X (upd f q z) :=
  ⟨h.a.other (by omega) _ _, by rw [← tab_set]; exact h.b.set q _, ownsRow_setCell_below h.o (by show w.heap.size + 1 < w.heap.size + 2; omega) _, h.l.setCell (by show w.heap.size ≤ w.heap.size + 1; omega) _⟩
theorem CntAt.raw {w wr : World} {v : Value} {X : List Nat} {f g : Nat → Int} (h : CntAt w wr v X f) (e : f = g) : CntAt w wr v X g := e ▸ h
theorem CntAt.read {w wr : World} {a : Option Addr} {cap : Nat} {X : List Nat} {f : Nat → Int} (h : CntAt w wr (.slice a X.length cap) X f) {k : Nat} (hk : k < X.length) : ∃ g, a = some ⟨g, 0, none⟩ ∧ wr.cell? ⟨g, k, none⟩ = some (.int .i64 ((X[k] : Nat) : Int)) := by
  obtain ⟨a', c', hv, _, _, hrd⟩ := own_read h.o
  obtain ⟨rfl, rfl⟩ : a = a' ∧ cap = c' := by simpa using hv
  obtain ⟨g, rfl, _, _, hgc⟩ := hrd (by omega)
  exact ⟨g, rfl, (hgc k (by omega)).trans (intCells_get (List.getElem?_eq_getElem hk))⟩

end Go.Proofs.Ytikmccnhhdemnaa
