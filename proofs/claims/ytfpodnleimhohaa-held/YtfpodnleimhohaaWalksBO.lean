/-
  WALKS: runs as the statements hold them.
-/
import Derived.Test.YtfpodnleimhohaaWalksBM
import Derived.Test.YtfpodnleimhohaaWalksBN
import Derived.Test.YtfpodnleimhohaaWalksBI
namespace Go.Proofs.Ytfpodnleimhohaa
open Go.RowKit
set_option linter.unusedVariables false
variable {mk : ByteArray}

/-- A run of the program's, with its examples. -/
def RunIs (w : World) (g : Nat) (cf : Cf) (mk : ByteArray) (X : List Ex) (st : St) : Prop :=
  ∃ aX cX bX, ProgRun w g cf mk (.slice aX X.length cX) st ∧ w.ownsRow bX 27 2 (.slice aX X.length cX) X.length (exNsCells X)
theorem RunIs.lt {w : World} {g : Nat} {cf : Cf} {X : List Ex} {st : St} (h : RunIs w g cf mk X st) : g < w.heap.size := by
  obtain ⟨_, _, _, h, _⟩ := h
  exact CellsAt.lt h
theorem RunIs.cells {w : World} {g : Nat} {cf : Cf} {X : List Ex} {st : St} (h : RunIs w g cf mk X st) : ∃ l, CellsAt w g 115 l := by
  obtain ⟨_, _, _, h, _⟩ := h
  exact ⟨_, h⟩
theorem RunIs.later {w w' : World} {g : Nat} {cf : Cf} {X : List Ex} {st : St} (h : RunIs w g cf mk X st) (hb : Below w.heap.size w w') : RunIs w' g cf mk X st := by
  obtain ⟨a, c, b, h1, h2⟩ := h
  exact ⟨a, c, b, CellsAt.later h1 hb, ownsRow_below h2 hb⟩
theorem RunIs.other {mk' : ByteArray} {w w' : World} {g g' : Nat} {cf cf' : Cf} {X X' : List Ex} {st st' : St} (h : RunIs w g cf mk X st) (hs : Spared w w' (fun j => j = g')) (hne : g ≠ g') (h' : RunIs w g' cf' mk' X' st') : RunIs w' g cf mk X st := by
  obtain ⟨a, c, b, h1, h2⟩ := h
  obtain ⟨l, hl⟩ := h'.cells
  refine ⟨a, c, b, (hs.block g (CellsAt.lt h1) hne).trans h1, ownsRow_spared h2 hs (fun j hj e => ?_)⟩
  subst e
  exact own_ne h2 hl (by decide) hj
/-- A list of numbers is no run. -/
theorem ints_other {w w' : World} {g b n : Nat} {cf : Cf} {X : List Ex} {st : St} {v : Value} {xs : List Value} (h : w.ownsRow b 3 1 v n xs) (hs : Spared w w' (fun j => j = g)) (hr : RunIs w g cf mk X st) : w'.ownsRow b 3 1 v n xs := by
  obtain ⟨l, hl⟩ := hr.cells
  refine ownsRow_spared h hs (fun j hj e => ?_)
  subst e
  exact own_ne h hl (by decide) hj
theorem conf_other {w w' : World} {g k : Nat} {cf : Cf} {X : List Ex} {st : St} {l : List Value} (h : CellsAt w k 70 l) (hs : Spared w w' (fun j => j = g)) (hr : RunIs w g cf mk X st) : CellsAt w' k 70 l := by
  obtain ⟨l', hl⟩ := hr.cells
  refine (hs.block k h.lt (fun e => ?_)).trans h
  have e' : k = g := e
  subst e'
  unfold CellsAt at h hl
  rw [h] at hl
  simp at hl

theorem begun_run (cf : Cf) (hcf : cf.Ok) (a0 : Option Addr) (len0 cap0 : Nat) (L0 : Nat → Int) (T0 : Nat → ByteArray) (a1 : Option Addr) (len1 cap1 : Nat) (T1 : Nat → ByteArray) (w : World)
    (h0 : IsExs w a0 len0 cap0 L0 T0) (hm0 : len0 ≤ maxLen) (h1 : IsStrs w a1 len1 cap1 T1) (hm1 : len1 ≤ maxLen) :
    Calls Try.prog 30 #[.agg #[.int .u64 cf.seed, .int .u8 cf.batch, .int .i32 cf.rate, .int .i32 cf.mom, .int .u8 cf.decay], .slice a0 len0 cap0, .slice a1 len1 cap1] w fun e w' => ∃ g s, e = .returned (.tuple #[.pointer (some ⟨g, 0, none⟩), .string s, .int .i64 ((exs len0 L0 T0).length : Nat)]) ∧ w.heap.size ≤ g ∧
      RunIs w' g cf (markB cf s) (exNat (exs len0 L0 T0)) St.zero ∧ Below w.heap.size w w' := by
  have h := begun_any cf.raw (Cf.raw_wf hcf) (Cf.raw_ok hcf) a0 len0 cap0 L0 T0 a1 len1 cap1 T1 w h0 hm0 h1 hm1
  rw [Cf.raw_cf] at h
  refine h.mono ?_
  rintro e w' ⟨g, vX, rfl, hg, hP, hO, hb⟩
  obtain ⟨aX, cX, rfl, _, _, _⟩ := own_read hO
  refine ⟨g, _, rfl, hg, ⟨aX, cX, w.heap.size, ?_, ?_⟩, hb⟩
  · rw [exNat_length]; exact hP
  · rw [exNat_length]; exact hO
theorem steps_run (g : Nat) (cf : Cf) (hcf : cf.Ok) (X : List Ex) (hX : ∀ x ∈ X, x.1 < 4 ∧ x.2.length ≤ 200) (hn1 : 1 ≤ X.length) (hn2 : X.length ≤ 600) (st : St) (hst : st.Ok) (n : Nat) (hn : st.steps + n ≤ 400)
    (aw : Option Addr) (lw cw : Nat) (N : Nat → Int) (w : World) (hW : IsInts w aw lw cw N) (hWg : lw ≠ 0 → ∀ b o, aw = some ⟨b, o, none⟩ → b ≠ g) (hR : RunIs w g cf mk X st) :
    Calls Try.prog 32 #[.pointer (some ⟨g, 0, none⟩), .agg #[.int .u64 cf.seed, .int .u8 cf.batch, .int .i32 cf.rate, .int .i32 cf.mom, .int .u8 cf.decay], .slice aw lw cw, .int .i64 n] w fun e w' => ∃ v, e = .returned (.tuple #[v, .bool true]) ∧ w'.ownsRow w.heap.size 3 1 v n (tab n fun i => (((missL cf X st n).getD i 0 : Nat) : Int)) ∧
      RunIs w' g cf mk X (itN cf X st n) ∧ Spared w w' (fun j => j = g) := by
  obtain ⟨aX, cX, bX, h1, h2⟩ := hR
  refine (steps_any g cf hcf aX cX bX X hX hn1 hn2 st hst n hn aw lw cw N w hW hWg h1 h2).mono ?_
  rintro e w' ⟨v, rfl, hv, hP, hO, hs⟩
  refine ⟨v, rfl, ?_, ⟨aX, cX, bX, hP, hO⟩, hs⟩
  rw [intCells_tab] at hv
  rw [show (missL cf X st n).length = n by simp [missL]] at hv
  exact hv
theorem weights_run (g : Nat) (cf : Cf) (X : List Ex) (st : St) (hst : st.Ok) (w : World) (hR : RunIs w g cf mk X st) :
    Calls Try.prog 36 #[.pointer (some ⟨g, 0, none⟩)] w fun e w' => ∃ v, e = .returned (.tuple #[v, .bool true]) ∧ w'.ownsRow w.heap.size 21 1 v 128 (wCells (flat st.w) 128) ∧ Below w.heap.size w w' := by
  obtain ⟨aX, cX, bX, h1, h2⟩ := hR
  exact weights_any g cf _ st hst w h1
theorem together_run {mk1 mk2 : ByteArray} (cf : Cf) (hcf : cf.Ok) (X : List Ex) (hn1 : 1 ≤ X.length) (hn2 : X.length ≤ 600) (st : St) (hst : st.Ok) (g1 g2 : Nat) (w : World) (h1 : RunIs w g1 cf mk1 X st) (h2 : RunIs w g2 cf mk2 X st) :
    Calls Try.prog 35 #[.pointer (some ⟨g1, 0, none⟩), .pointer (some ⟨g2, 0, none⟩)] w fun e w' => e = .returned (.bool true) ∧ Below w.heap.size w w' := by
  obtain ⟨a1, c1, b1, h1, _⟩ := h1
  obtain ⟨a2, c2, b2, h2, _⟩ := h2
  exact together_any cf hcf X.length hn1 (by omega) st hst g1 a1 c1 g2 a2 c2 w h1 h2
theorem status_run (cf : Cf) (hcf : cf.Ok) (X : List Ex) (hn1 : 1 ≤ X.length) (hn2 : X.length ≤ 600) (st : St) (hst : st.Ok) (g : Nat) (w : World) (h : RunIs w g cf mk X st) :
    Calls Try.prog 34 #[.pointer (some ⟨g, 0, none⟩)] w fun e w' => e = .returned (.agg (statusAns cf X.length st).toArray) ∧ Below w.heap.size w w' := by
  obtain ⟨a1, c1, b1, h1, _⟩ := h
  exact progStatus_any g cf hcf a1 X.length c1 hn1 (by omega) st hst w h1
end Go.Proofs.Ytfpodnleimhohaa
