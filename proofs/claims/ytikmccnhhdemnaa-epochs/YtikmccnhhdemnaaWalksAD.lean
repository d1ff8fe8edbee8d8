/-
  WALKS: the document's New.
-/
import Derived.Test.YtikmccnhhdemnaaWalksAC
import Derived.Test.YtikmccnhhdemnaaWalksH
namespace Go.Proofs.Ytikmccnhhdemnaa
open Go.RowKit
set_option linter.unusedVariables false

/-- Settings as they come in. -/
structure Raw where
  seed : Nat
  batch : Nat
  rate : Int
  mom : Int
  decay : Nat
def Raw.cells (r : Raw) : List Value := [.int .u64 r.seed, .int .u8 r.batch, .int .i32 r.rate, .int .i32 r.mom, .int .u8 r.decay]
def Raw.ok (r : Raw) : Bool := decide (1 ≤ r.batch ∧ r.batch ≤ 8 ∧ 0 ≤ r.rate ∧ r.rate ≤ 65536 ∧ 0 ≤ r.mom ∧ r.mom < 65536 ∧ r.decay ≤ 31)
def Raw.cf (r : Raw) : Cf := ⟨r.seed, r.batch, r.rate.toNat, r.mom.toNat, r.decay⟩
structure Raw.Wf (r : Raw) : Prop where
  seed : r.seed < 18446744073709551616
  batch : r.batch ≤ 255
  rate : -2147483648 ≤ r.rate ∧ r.rate ≤ 2147483647
  mom : -2147483648 ≤ r.mom ∧ r.mom ≤ 2147483647
  decay : r.decay ≤ 255
theorem Raw.cf_ok {r : Raw} (h : r.ok = true) (hw : r.Wf) : r.cf.Ok := by
  simp only [Raw.ok, decide_eq_true_eq] at h
  exact ⟨hw.seed, h.1, h.2.1, by show r.rate.toNat ≤ _; omega, by show r.mom.toNat < _; omega, h.2.2.2.2.2.2⟩

theorem own_base {w : World} {b b' : Nat} {e : TypeId} {size : Nat} {v : Value} {n : Nat} {xs : List Value} (h : w.ownsRow b e size v n xs) (hb : b' ≤ b) : w.ownsRow b' e size v n xs := by
  refine ⟨h.1, ?_⟩
  rcases h.2 with h | ⟨g, cap, cur, e1, e2, r⟩
  · exact .inl h
  · exact .inr ⟨g, cap, cur, e1, Nat.le_trans hb e2, r⟩
theorem set_left {l r : List Value} {i : Nat} (u : Value) (h : i < l.length) : (l ++ r).toArray.setIfInBounds i u = (l.set i u ++ r).toArray := by
  rw [List.setIfInBounds_toArray, List.set_append_left _ _ h]
end Go.Proofs.Ytikmccnhhdemnaa
