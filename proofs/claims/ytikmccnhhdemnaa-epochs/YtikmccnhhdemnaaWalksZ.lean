/-
  WALKS: a run of the document's in memory; its scores.
-/
import Derived.Test.YtikmccnhhdemnaaWalksY
import Derived.BigRegion
namespace Go.Proofs.Ytikmccnhhdemnaa
open Go.RowKit
set_option linter.unusedVariables false

def flat (t : Tab) : Nat → Int := fun i => t (i / 32) (i % 32)
theorem flat_at (t : Tab) {c b : Nat} (hb : b < 32) : flat t (c * 32 + b) = t c b := by
  unfold flat
  rw [show (c * 32 + b) / 32 = c by omega, show (c * 32 + b) % 32 = b by omega]
/-- The cells of a run of the document's. -/
def headCells (cf : Cf) (shard : ByteArray) (lv : Value) (steps : Nat) : List Value :=
  [.int .u64 cf.seed, .int .u8 cf.batch, .int .i32 cf.rate, .int .i32 cf.mom, .int .u8 cf.decay, .string shard, lv, .int .i64 steps]
def runCells (cf : Cf) (shard : ByteArray) (lv : Value) (st : St) : List Value := headCells cf shard lv st.steps ++ (tab 128 (flat st.w) ++ tab 128 (flat st.v))
theorem runCells_head (cf : Cf) (shard : ByteArray) (lv : Value) (st : St) {i : Nat} (h : i < 8) : (runCells cf shard lv st)[i]? = (headCells cf shard lv st.steps)[i]? := by
  unfold runCells; rw [List.getElem?_append_left (by simpa [headCells] using h)]
theorem runCells_w (cf : Cf) (shard : ByteArray) (lv : Value) (st : St) {c b : Nat} (hc : c < 4) (hb : b < 32) : (runCells cf shard lv st)[8 + c * 32 + b]? = some (.int .i64 (st.w c b)) := by
  unfold runCells
  rw [List.getElem?_append_right (by simp [headCells]; omega), List.getElem?_append_left (by rw [tab_length]; simp [headCells]; omega)]
  rw [show 8 + c * 32 + b - (headCells cf shard lv st.steps).length = c * 32 + b by simp [headCells]; omega, tab_get _ (by omega), flat_at _ hb]
theorem runCells_v (cf : Cf) (shard : ByteArray) (lv : Value) (st : St) {c b : Nat} (hc : c < 4) (hb : b < 32) : (runCells cf shard lv st)[136 + c * 32 + b]? = some (.int .i64 (st.v c b)) := by
  unfold runCells
  rw [List.getElem?_append_right (by simp [headCells]; omega), List.getElem?_append_right (by rw [tab_length]; simp [headCells]; omega), tab_length]
  rw [show 136 + c * 32 + b - (headCells cf shard lv st.steps).length - 128 = c * 32 + b by simp [headCells]; omega, tab_get _ (by omega), flat_at _ hb]
/-- Scores, as far as they are made. -/
def scTo (n : Nat → Nat) (t : Tab) (c b c' : Nat) : Int := if c' < c then scoreN n t c' else if c' = c then sumTo (fun b => (n b : Int) * t c b) b else 0
theorem scTo_next (n : Nat → Nat) (t : Tab) (c b : Nat) : upd (scTo n t c b) c (scTo n t c b c + (n b : Int) * t c b) = scTo n t c (b + 1) := by
  funext c'
  simp only [upd, scTo]
  by_cases h : c' = c
  · subst h; simp [sumTo]
  · simp [h]
theorem scTo_row (n : Nat → Nat) (t : Tab) (c : Nat) : scTo n t c 32 = scTo n t (c + 1) 0 := by
  funext c'
  simp only [scTo]
  by_cases h : c' < c
  · rw [if_pos h, if_pos (by omega)]
  · by_cases e : c' = c
    · subst e; rw [if_neg (by omega), if_pos rfl, if_pos (by omega)]; rfl
    · rw [if_neg h, if_neg e, if_neg (by omega)]
      by_cases e' : c' = c + 1
      · rw [if_pos e']; rfl
      · rw [if_neg e']
theorem scTo_at (n : Nat → Nat) (t : Tab) (c b : Nat) : scTo n t c b c = sumTo (fun b => (n b : Int) * t c b) b := by simp [scTo]
theorem sc_bound (n : Nat → Nat) (hn : ∀ b, n b ≤ 7) (t : Tab) (c : Nat) (ht : ∀ b, b < 32 → -16777216 ≤ t c b ∧ t c b ≤ 16777216) (b : Nat) (hb : b ≤ 32) : -(3758096384 : Int) ≤ sumTo (fun b => (n b : Int) * t c b) b ∧ sumTo (fun b => (n b : Int) * t c b) b ≤ 3758096384 := by
  have := sumTo_le (fun b => (n b : Int) * t c b) 117440512 32 (fun i hi => by
    have h1 := hn i
    obtain ⟨h2, h3⟩ := ht i hi
    have : (n i : Int) = 0 ∨ (n i : Int) = 1 ∨ (n i : Int) = 2 ∨ (n i : Int) = 3 ∨ (n i : Int) = 4 ∨ (n i : Int) = 5 ∨ (n i : Int) = 6 ∨ (n i : Int) = 7 := by omega
    show _ ≤ (n i : Int) * t c i ∧ (n i : Int) * t c i ≤ _
    rcases this with e | e | e | e | e | e | e | e <;> rw [e] <;> omega) b hb
  omega
theorem mul_bound (x : Nat) (y : Int) (hx : x ≤ 7) (h2 : -16777216 ≤ y) (h3 : y ≤ 16777216) : -117440512 ≤ (x : Int) * y ∧ (x : Int) * y ≤ 117440512 := by
  have : (x : Int) = 0 ∨ (x : Int) = 1 ∨ (x : Int) = 2 ∨ (x : Int) = 3 ∨ (x : Int) = 4 ∨ (x : Int) = 5 ∨ (x : Int) = 6 ∨ (x : Int) = 7 := by omega
  rcases this with e | e | e | e | e | e | e | e <;> rw [e] <;> omega

end Go.Proofs.Ytikmccnhhdemnaa
