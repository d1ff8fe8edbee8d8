import Derived.Test.YtfpodnleimhohabGreatDoorGA
import Derived.Test.YtfpodnleimhohabGreatDoorGH
import Derived.Test.YtfpodnleimhohabGreatDoorGC
import Derived.Test.YtfpodnleimhohabGreatDoorGO
/-
  WALKS: a script's runs, held against the document's: what stands in memory.
-/
namespace Go.Proofs.YtfpodnleimhohabGreatDoor
open Go.RowKit
set_option linter.unusedVariables false

/-- A run of the document's, with its records. -/
def RefIs (w : World) (g : Nat) (cf : Cf) (sh : ByteArray) (rs : List Rc) (st : St) : Prop :=
  ∃ aL cL bL, RefRun w g cf sh (.slice aL rs.length cL) st ∧ w.ownsRow bL 99 4 (.slice aL rs.length cL) rs.length (recsCells rs)
/-- A pair: a run, and the same by the document. -/
structure PD where
  gx : Nat
  gy : Nat
  cf : Cf
  sh : ByteArray
  rs : List Rc
  st : St
structure PD.Ok (p : PD) : Prop where
  cf : p.cf.Ok
  st : p.st.Ok
  rs : ∀ r ∈ p.rs, bodyOk r.bd = true
  n1 : 1 ≤ p.rs.length
  n2 : p.rs.length ≤ 600
  sh : p.sh.size ≤ 600
  rq : p.rs = recs (ls p.sh)
def PairIs (w : World) (p : PD) : Prop := RunIs w p.gx p.cf (markB p.cf p.sh) (exsOf p.rs) p.st ∧ RefIs w p.gy p.cf p.sh p.rs p.st
def pairCells (p : PD) : List Value := [.pointer (some ⟨p.gx, 0, none⟩), .pointer (some ⟨p.gy, 0, none⟩), .int .u64 p.cf.seed, .int .u8 p.cf.batch, .int .i32 p.cf.rate, .int .i32 p.cf.mom, .int .u8 p.cf.decay, .string p.sh]
def pairsCells (l : List PD) : List Value := l.flatMap pairCells
theorem pairsCells_snoc (l : List PD) (p : PD) : pairsCells (l ++ [p]) = pairsCells l ++ pairCells p := by simp [pairsCells]
theorem RefIs.later {w w' : World} {g : Nat} {cf : Cf} {sh : ByteArray} {rs : List Rc} {st : St} (h : RefIs w g cf sh rs st) (hb : Below w.heap.size w w') : RefIs w' g cf sh rs st := by
  obtain ⟨a, c, b, h1, h2⟩ := h
  exact ⟨a, c, b, CellsAt.later h1 hb, ownsRow_below h2 hb⟩
theorem PairIs.later {w w' : World} {p : PD} (h : PairIs w p) (hb : Below w.heap.size w w') : PairIs w' p := ⟨h.1.later hb, h.2.later hb⟩
/-- No block of S is part of a run. -/
def NoRun (w : World) (S : Nat → Prop) : Prop := ∀ k, S k → ∀ cs t f, w.heap[k]? = some (.cells cs t f) → t ≠ 67 ∧ t ≠ 97 ∧ t ≠ 69 ∧ t ≠ 99
theorem PairIs.spared {w w' : World} {S : Nat → Prop} {p : PD} (h : PairIs w p) (hs : Spared w w' S) (hn : NoRun w S) : PairIs w' p := by
  obtain ⟨⟨a, c, b, h1, h2⟩, ⟨a', c', b', h3, h4⟩⟩ := h
  refine ⟨⟨a, c, b, (hs.block _ (CellsAt.lt h1) (fun e => (hn _ e _ _ _ h1).1 rfl)).trans h1, ownsRow_spared h2 hs (fun j hj e => ?_)⟩, ⟨a', c', b', (hs.block _ (CellsAt.lt h3) (fun e => (hn _ e _ _ _ h3).2.2.1 rfl)).trans h3, ownsRow_spared h4 hs (fun j hj e => ?_)⟩⟩
  · obtain ⟨cs, hc⟩ := own_tag h2 hj
    exact (hn _ e _ _ _ hc).2.1 rfl
  · obtain ⟨cs, hc⟩ := own_tag h4 hj
    exact (hn _ e _ _ _ hc).2.2.2 rfl

/-- What stands in memory while a script is played. -/
structure WAt (w : World) (gW base : Nat) (Ps : List PD) (EI EW : List Ent) : Prop where
  low : LowAt w
  tag : ∃ l, CellsAt w gW 35 l
  pr : ∃ aP cP, w.cell? ⟨gW, 0, none⟩ = some (.slice aP Ps.length cP) ∧ w.ownsRow base 71 8 (.slice aP Ps.length cP) Ps.length (pairsCells Ps)
  bk : ∃ aI cI aW cW, BookAt w gW 1 EI.length EW.length 0 0 aI cI aW cW none 0 none 0 ∧ w.ownsRow base 83 5 (.slice aI EI.length cI) EI.length (entsCells EI) ∧ w.ownsRow base 87 5 (.slice aW EW.length cW) EW.length (entsCellsW EW)
  ei : ∀ x ∈ EI, EntIs w base 3 mkI x
  ew : ∀ x ∈ EW, EntIs w base 21 mkW x
  ps : ∀ p ∈ Ps, PairIs w p ∧ p.Ok ∧ base ≤ p.gx ∧ base ≤ p.gy
  ne : Ps.Pairwise fun p q => p.gx ≠ q.gx ∧ p.gy ≠ q.gy
  lo : 0 < gW
  gb : gW < base
  bw : base ≤ w.heap.size
theorem WAt.later {w w' : World} {gW base : Nat} {Ps : List PD} {EI EW : List Ent} (h : WAt w gW base Ps EI EW) (hb : Below w.heap.size w w') : WAt w' gW base Ps EI EW := by
  have hg : gW < w.heap.size := Nat.lt_of_lt_of_le h.gb h.bw
  obtain ⟨cs, hc⟩ := h.tag
  obtain ⟨aP, cP, p1, p2⟩ := h.pr
  obtain ⟨aI, cI, aW, cW, b1, b2, b3⟩ := h.bk
  exact ⟨h.low.later hb, ⟨cs, hc.later hb⟩, ⟨aP, cP, (hb.cell (p := ⟨gW, 0, none⟩) hg).trans p1, ownsRow_below p2 hb⟩, ⟨aI, cI, aW, cW, BookAt.below b1 hb hg, ownsRow_below b2 hb, ownsRow_below b3 hb⟩, fun x hx => (h.ei x hx).later hb, fun x hx => (h.ew x hx).later hb, fun p hp => ⟨(h.ps p hp).1.later hb, (h.ps p hp).2⟩, h.ne, h.lo, h.gb, Nat.le_trans h.bw hb.size⟩

/-- A pair that a call has boxed stays. -/
def PKept (w w' : World) : Prop := ∀ (k : Nat) (cs : Array Value), w.heap[k]? = some (Obj.cells cs 71 (0, 0)) → w'.heap[k]? = w.heap[k]?
theorem PKept.of_below {w w' : World} (h : Below w.heap.size w w') : PKept w w' := fun k cs hh => h.block k (lt_of_block hh)
theorem PKept.trans {a b c : World} (h1 : PKept a b) (h2 : PKept b c) : PKept a c := fun k cs hh => (h2 k cs ((h1 k cs hh).trans hh)).trans (h1 k cs hh)
theorem PKept.cells {w w' : World} (h : PKept w w') {k : Nat} {l : List Value} (hc : CellsAt w k 71 l) : CellsAt w' k 71 l := (h k _ hc).trans hc
/-- A list of weights that came out is kept. -/
theorem keepW_any {w w4 : World} {gW base : Nat} {Ps : List PD} {EI EW : List Ent} (h : WAt w gW base Ps EI EW) (hb : Below w.heap.size w w4) (vL : Value) (n : Nat) (xs : List Value) (hL : w4.ownsRow w.heap.size 21 1 vL n xs) (hn : n ≤ 1000) (h1 : EI.length ≤ 10000000) (h2 : EW.length ≤ 10000000) :
    Calls Tryz.prog 59 #[.pointer (some ⟨gW, 1, none⟩), vL] w4 fun e w' => e = .returned (.tuple #[]) ∧ ∃ EW', WAt w' gW base Ps EI EW' ∧ EW'.length = EW.length + 1 ∧ Below gW w w' ∧ PKept w w' := by
  have h4 := h.later hb
  obtain ⟨aI, cI, aW, cW, b1, b2, b3⟩ := h4.bk
  obtain ⟨aP, cP, p1, p2⟩ := h4.pr
  refine (keepWeights_any gW 1 EI.length EW.length 0 0 aI cI aW cW none 0 none 0 base n vL xs (entsCellsW EW) w4 b1 ⟨by omega, by omega, by omega, by omega⟩ h.gb h4.bw (ownsRow_base hL h.bw) hn b3).mono ?_
  rintro e w5 ⟨rfl, aW', cW', va, vb, vc, k1, k2, f0, f1, f2, f3, hs, wz, u, hwz, hgz⟩
  have vold : ∀ k, k < w.heap.size → ¬ some k = vL.ownBlock := fun k hk e => by have := (hL.lt k e.symm).1; omega
  have hg : gW < w.heap.size := Nat.lt_of_lt_of_le h.gb h.bw
  have old : Spared w w5 (fun k => k = gW ∨ some k = Value.ownBlock (.slice aW EW.length cW)) :=
    (Spared.of_below hb _).trans hs (fun k hk e => by
      rcases e with e | e | e
      · exact .inl e
      · exact absurd e (vold k hk)
      · exact .inr e)
  obtain ⟨cg, hcg⟩ := h.tag
  have tagS : ∀ k, (k = gW ∨ some k = Value.ownBlock (.slice aW EW.length cW)) → ∀ cs t f, w.heap[k]? = some (.cells cs t f) → t = 35 ∨ t = 87 := by
    intro k hk cs t f hh
    rcases hk with rfl | hk
    · unfold CellsAt at hcg
      rw [hcg] at hh
      simp at hh
      exact .inl hh.2.1.symm
    · obtain ⟨cs', hc⟩ := own_tag b3 hk.symm
      rw [(hb.block k (lt_of_block hh)).trans hh] at hc
      simp at hc
      exact .inr hc.2.1
  have notO : ∀ (k : Nat) (cs : Array Value) (e : Nat), w.heap[k]? = some (.cells cs e (0, 0)) → e ≠ 35 → e ≠ 87 → ¬ (k = gW ∨ some k = Value.ownBlock (.slice aW EW.length cW)) := by
    intro k cs e hh q1 q2 hk
    rcases tagS k hk cs e _ hh with q | q
    · exact q1 q
    · exact q2 q
  have hno : NoRun w (fun k => k = gW ∨ some k = Value.ownBlock (.slice aW EW.length cW)) := by
    intro k hk cs t f hh
    rcases tagS k hk cs t f hh with q | q <;> subst q <;> decide
  obtain ⟨qI, dI, qW, dW, c1, c2, c3⟩ := h.bk
  obtain ⟨qP, dP, e1, e2⟩ := h.pr
  have same4 : ∀ j, w4.cell? ⟨gW, j, none⟩ = w.cell? ⟨gW, j, none⟩ := fun j => hb.cell (p := ⟨gW, j, none⟩) hg
  obtain ⟨rfl, rfl⟩ : aP = qP ∧ cP = dP := by
    rw [same4, e1] at p1
    simp at p1
    exact ⟨p1.1.symm, p1.2.symm⟩
  obtain ⟨⟨rfl, rfl⟩, ⟨rfl, rfl⟩⟩ : (aI = qI ∧ cI = dI) ∧ (aW = qW ∧ cW = dW) := by
    have z0 := b1.c0
    have z1 := b1.c1
    rw [same4, c1.c0] at z0
    rw [same4, c1.c1] at z1
    simp at z0 z1
    exact ⟨⟨z0.1.symm, z0.2.symm⟩, ⟨z1.1.symm, z1.2.symm⟩⟩
  refine ⟨rfl, EW ++ [⟨vL, va, vb, vc, -1000 - (EI.length : Int) - EW.length - (0 : Nat) - (0 : Nat), n⟩], ⟨?_, ?_, ?_, ?_, ?_, ?_, ?_, h.ne, h.lo, h.gb, ?_⟩, by simp, ?_, ?_⟩
  · have h0 := h.low
    intro i hi
    refine (World.cell?_of_block (w := w) (a := ⟨0, i, none⟩) (old.block 0 h0.pos (fun e => ?_))).trans (h0 i hi)
    rcases e with e | e
    · have := h.lo; omega
    · have := (b3.lt 0 e.symm).1; have := h.gb; omega
  · have hx := CellsAt.set (show CellsAt wz gW 35 cg from hgz.trans ((hb.block gW hg).trans hcg)) (1 + 1) u
    rw [← hwz] at hx
    exact ⟨_, hx⟩
  · refine ⟨aP, cP, ?_, ownsRow_spared e2 old (fun k hk => ?_)⟩
    · rw [hwz, World.cell?_setCell_other _ _ _ _ (by simp), World.cell?_of_block (w := w4) (a := ⟨gW, 0, none⟩) hgz]
      exact p1
    · obtain ⟨cs, hh⟩ := own_tag e2 hk
      exact notO k cs _ hh (by decide) (by decide)
  · refine ⟨aI, cI, aW', cW', ?_, ownsRow_spared c2 old (fun k hk => ?_), ?_⟩
    · rw [List.length_append]; exact k1
    · obtain ⟨cs, hh⟩ := own_tag c2 hk
      exact notO k cs _ hh (by decide) (by decide)
    · rw [List.length_append, entsCellsW_snoc]; exact k2
  · intro x hx
    exact EntIs.spared (h.ei x hx) old (fun k cs hk hh => notO k cs _ hh (by decide) (by decide))
  · intro x hx
    rcases List.mem_append.1 hx with hx | hx
    · exact EntIs.spared (h.ew x hx) old (fun k cs hk hh => notO k cs _ hh (by decide) (by decide))
    · rw [List.mem_singleton.1 hx]; exact ⟨f0, f1, f2, f3, hn⟩
  · intro p hp
    exact ⟨(h.ps p hp).1.spared old hno, (h.ps p hp).2⟩
  · exact Nat.le_trans h.bw old.size
  · exact old.below (fun k e => by
      rcases e with e | e
      · omega
      · have := (b3.lt k e.symm).1; have := h.gb; omega) (by omega)
  · intro k cs hh
    exact old.block k (lt_of_block hh) (notO k cs _ hh (by decide) (by decide))
/-- A list of numbers that came out is kept. -/
theorem keepI_any {w w4 : World} {gW base : Nat} {Ps : List PD} {EI EW : List Ent} (h : WAt w gW base Ps EI EW) (hb : Below w.heap.size w w4) (vL : Value) (n : Nat) (xs : List Value) (hL : w4.ownsRow w.heap.size 3 1 vL n xs) (hn : n ≤ 1000) (h1 : EI.length ≤ 10000000) (h2 : EW.length ≤ 10000000) :
    Calls Tryz.prog 21 #[.pointer (some ⟨gW, 1, none⟩), vL] w4 fun e w' => e = .returned (.tuple #[]) ∧ ∃ EI', WAt w' gW base Ps EI' EW ∧ EI'.length = EI.length + 1 ∧ Below gW w w' := by
  have h4 := h.later hb
  obtain ⟨aI, cI, aW, cW, b1, b2, b3⟩ := h4.bk
  obtain ⟨aP, cP, p1, p2⟩ := h4.pr
  refine (keepInts_any gW 1 EI.length EW.length 0 0 aI cI aW cW none 0 none 0 base n vL xs (entsCells EI) w4 b1 ⟨by omega, by omega, by omega, by omega⟩ h.gb h4.bw (ownsRow_base hL h.bw) hn b2).mono ?_
  rintro e w5 ⟨rfl, aI', cI', va, vb, vc, k1, k2, f0, f1, f2, f3, hs, wz, u, hwz, hgz⟩
  have vold : ∀ k, k < w.heap.size → ¬ some k = vL.ownBlock := fun k hk e => by have := (hL.lt k e.symm).1; omega
  have hg : gW < w.heap.size := Nat.lt_of_lt_of_le h.gb h.bw
  have old : Spared w w5 (fun k => k = gW ∨ some k = Value.ownBlock (.slice aI EI.length cI)) :=
    (Spared.of_below hb _).trans hs (fun k hk e => by
      rcases e with e | e | e
      · exact .inl e
      · exact absurd e (vold k hk)
      · exact .inr e)
  obtain ⟨cg, hcg⟩ := h.tag
  have tagS : ∀ k, (k = gW ∨ some k = Value.ownBlock (.slice aI EI.length cI)) → ∀ cs t f, w.heap[k]? = some (.cells cs t f) → t = 35 ∨ t = 83 := by
    intro k hk cs t f hh
    rcases hk with rfl | hk
    · unfold CellsAt at hcg
      rw [hcg] at hh
      simp at hh
      exact .inl hh.2.1.symm
    · obtain ⟨cs', hc⟩ := own_tag b2 hk.symm
      rw [(hb.block k (lt_of_block hh)).trans hh] at hc
      simp at hc
      exact .inr hc.2.1
  have notO : ∀ (k : Nat) (cs : Array Value) (e : Nat), w.heap[k]? = some (.cells cs e (0, 0)) → e ≠ 35 → e ≠ 83 → ¬ (k = gW ∨ some k = Value.ownBlock (.slice aI EI.length cI)) := by
    intro k cs e hh q1 q2 hk
    rcases tagS k hk cs e _ hh with q | q
    · exact q1 q
    · exact q2 q
  have hno : NoRun w (fun k => k = gW ∨ some k = Value.ownBlock (.slice aI EI.length cI)) := by
    intro k hk cs t f hh
    rcases tagS k hk cs t f hh with q | q <;> subst q <;> decide
  obtain ⟨qI, dI, qW, dW, c1, c2, c3⟩ := h.bk
  obtain ⟨qP, dP, e1, e2⟩ := h.pr
  have same4 : ∀ j, w4.cell? ⟨gW, j, none⟩ = w.cell? ⟨gW, j, none⟩ := fun j => hb.cell (p := ⟨gW, j, none⟩) hg
  obtain ⟨rfl, rfl⟩ : aP = qP ∧ cP = dP := by
    rw [same4, e1] at p1
    simp at p1
    exact ⟨p1.1.symm, p1.2.symm⟩
  obtain ⟨⟨rfl, rfl⟩, ⟨rfl, rfl⟩⟩ : (aI = qI ∧ cI = dI) ∧ (aW = qW ∧ cW = dW) := by
    have z0 := b1.c0
    have z1 := b1.c1
    rw [same4, c1.c0] at z0
    rw [same4, c1.c1] at z1
    simp at z0 z1
    exact ⟨⟨z0.1.symm, z0.2.symm⟩, ⟨z1.1.symm, z1.2.symm⟩⟩
  refine ⟨rfl, EI ++ [⟨vL, va, vb, vc, -1000 - (EI.length : Int) - EW.length - (0 : Nat) - (0 : Nat), n⟩], ⟨?_, ?_, ?_, ?_, ?_, ?_, ?_, h.ne, h.lo, h.gb, ?_⟩, by simp, ?_⟩
  · have h0 := h.low
    intro i hi
    refine (World.cell?_of_block (w := w) (a := ⟨0, i, none⟩) (old.block 0 h0.pos (fun e => ?_))).trans (h0 i hi)
    rcases e with e | e
    · have := h.lo; omega
    · have := (b2.lt 0 e.symm).1; have := h.gb; omega
  · have hx := CellsAt.set (show CellsAt wz gW 35 cg from hgz.trans ((hb.block gW hg).trans hcg)) 1 u
    rw [← hwz] at hx
    exact ⟨_, hx⟩
  · refine ⟨aP, cP, ?_, ownsRow_spared e2 old (fun k hk => ?_)⟩
    · rw [hwz, World.cell?_setCell_other _ _ _ _ (by simp), World.cell?_of_block (w := w4) (a := ⟨gW, 0, none⟩) hgz]
      exact p1
    · obtain ⟨cs, hh⟩ := own_tag e2 hk
      exact notO k cs _ hh (by decide) (by decide)
  · refine ⟨aI', cI', aW, cW, ?_, ?_, ownsRow_spared c3 old (fun k hk => ?_)⟩
    · rw [List.length_append]; exact k1
    · rw [List.length_append, entsCells_snoc]; exact k2
    · obtain ⟨cs, hh⟩ := own_tag c3 hk
      exact notO k cs _ hh (by decide) (by decide)
  · intro x hx
    rcases List.mem_append.1 hx with hx | hx
    · exact EntIs.spared (h.ei x hx) old (fun k cs hk hh => notO k cs _ hh (by decide) (by decide))
    · rw [List.mem_singleton.1 hx]; exact ⟨f0, f1, f2, f3, hn⟩
  · intro x hx
    exact EntIs.spared (h.ew x hx) old (fun k cs hk hh => notO k cs _ hh (by decide) (by decide))
  · intro p hp
    exact ⟨(h.ps p hp).1.spared old hno, (h.ps p hp).2⟩
  · exact Nat.le_trans h.bw old.size
  · exact old.below (fun k e => by
      rcases e with e | e
      · omega
      · have := (b2.lt k e.symm).1; have := h.gb; omega) (by omega)
/-- All lists that were kept are as their owner wrote them. -/
theorem looksW_any {w : World} {gW base : Nat} {Ps : List PD} {EI EW : List Ent} (h : WAt w gW base Ps EI EW) (h1 : EI.length ≤ 100000000) (h2 : EW.length ≤ 100000000) :
    Calls Tryz.prog 10 #[.pointer (some ⟨gW, 1, none⟩)] w fun e w' => e = .returned (.bool true) ∧ Below w.heap.size w w' := by
  obtain ⟨aI, cI, aW, cW, b1, b2, b3⟩ := h.bk
  exact looks2_any gW 1 aI cI aW cW none 0 none 0 base EI EW w b1 b2 b3 h.ei h.ew (Nat.lt_of_lt_of_le h.gb h.bw) h1 h2
end Go.Proofs.YtfpodnleimhohabGreatDoor

/-
  WALKS: acts of a script that change no run.
-/
namespace Go.Proofs.YtfpodnleimhohabGreatDoor
open Go.RowKit
set_option linter.unusedVariables false

set_option maxRecDepth 100000 in
set_option maxHeartbeats 4000000 in
theorem wweights_any {w : World} {gW base : Nat} {Ps : List PD} {EI EW : List Ent} (h : WAt w gW base Ps EI EW) (h1 : EI.length ≤ 10000000) (h2 : EW.length ≤ 10000000) (p : PD) (hp : p ∈ Ps) (c : Int) :
    Calls Tryz.prog 29 #[.pointer (some ⟨gW, 0, none⟩), .agg (pairCells p).toArray, .int .i64 c] w fun e w' => e = .returned (.bool true) ∧ ∃ EW', WAt w' gW base Ps EI EW' ∧ EW'.length = EW.length + 1 ∧ Below gW w w' ∧ PKept w w' := by
  have H : Hid (WAt w gW base Ps EI EW) := h
  have hg : gW < w.heap.size := Nat.lt_of_lt_of_le h.gb h.bw
  have HP : Hid (PairIs w p ∧ p.Ok) := ⟨(h.ps p hp).1, (h.ps p hp).2.1⟩
  clear h
  obtain ⟨gx, gy, cf, sh, rs, st⟩ := p
  show Calls Tryz.prog 29 #[.pointer (some ⟨gW, 0, none⟩), .agg #[.pointer (some ⟨gx, 0, none⟩), .pointer (some ⟨gy, 0, none⟩), .int .u64 cf.seed, .int .u8 cf.batch, .int .i32 cf.rate, .int .i32 cf.mom, .int .u8 cf.decay, .string sh], .int .i64 c] w _
  go_enter Tryz.func29, Tryz.ntmps29
  go_wp2_with fail
  obtain ⟨w0, Hw0⟩ : ∃ w0, Hid (w.alloc (.cells #[.pointer (some ⟨gx, 0, none⟩), .pointer (some ⟨gy, 0, none⟩), .int .u64 cf.seed, .int .u8 cf.batch, .int .i32 cf.rate, .int .i32 cf.mom, .int .u8 cf.decay, .string sh] 71) = w0) := ⟨_, (rfl : _ = _)⟩
  have HB0 : Hid (Below w.heap.size w w0) := by rw [← Hw0.out]; exact (Below.refl _ _).alloc (Nat.le_refl _) _
  have HC0 : Hid (w0.cell? ⟨w.heap.size, 1, none⟩ = some (.pointer (some ⟨gy, 0, none⟩)) ∧ w.heap.size < w0.heap.size) := by
    rw [← Hw0.out]
    exact ⟨CellsAt.cell (CellsAt.new w _ _ _ rfl rfl) 1, by simp⟩
  rw [Hw0.out]
  clear Hw0
  obtain ⟨⟨⟨aX, cX, bX, hx1, hx2⟩, ⟨aL, cL, bL, hy1, hy2⟩⟩, hok⟩ := HP.out
  have HX : Hid (ProgRun w gx cf _ (.slice aX (exsOf rs).length cX) st) := hx1
  have HY : Hid (RefRun w gy cf sh (.slice aL rs.length cL) st) := hy1
  have hst := hok.st
  simp only at hst
  clear hx1 hx2 hy1 hy2 hok HP
  by_cases hc : 0 ≤ c ∧ c < 4
  · obtain ⟨cn, rfl⟩ := Int.eq_ofNat_of_zero_le hc.1
    have hc4 : cn < 4 := by omega
    refine (progWeights_any gx cf _ st hst cn hc4 _ (CellsAt.later HX.out HB0.out)).mono ?_
    rintro e w1 ⟨vL, rfl, hL, hb1⟩
    have HL1 : Hid (w1.ownsRow w0.heap.size 21 1 vL 32 (wCells (st.w cn) 32)) := hL
    have HB1 : Hid (Below w0.heap.size w0 w1) := hb1
    have d1 := (hb1.cell (p := ⟨w.heap.size, 1, none⟩) HC0.out.2).trans HC0.out.1
    clear hL hb1
    go_wp2_with fail
    refine (refWeights_any gy cf sh _ st hst cn hc4 _ (CellsAt.later (CellsAt.later HY.out HB0.out) HB1.out)).mono ?_
    rintro e w2 ⟨vM, rfl, hM, hb2⟩
    have HL2 : Hid (w2.ownsRow w0.heap.size 21 1 vL 32 (wCells (st.w cn) 32)) := ownsRow_below HL1.out hb2
    have HM2 : Hid (w2.ownsRow w1.heap.size 21 1 vM 32 (wCells (st.w cn) 32)) := hM
    have HB2 : Hid (Below w0.heap.size w0 w2) := HB1.out.trans (hb2.mono HB1.out.size)
    clear hM hb2 HL1 HB1 d1
    go_wp2_with fail
    refine (lawWeights_any _ _ vL vM (st.w cn) 32 _ HL2.out HM2.out (by omega)).mono ?_
    rintro e w3 ⟨rfl, n3, rfl⟩
    have HL3 : Hid ((w2.drewN n3).ownsRow w0.heap.size 21 1 vL 32 (wCells (st.w cn) 32)) := HL2.out
    have HB3 : Hid (Below w0.heap.size w0 (w2.drewN n3)) := below_drewN HB2.out n3
    generalize w2.drewN n3 = w3 at *
    clear HL2 HM2 HB2
    go_wp2_with fail
    refine (keepW_any (H.out.later HB0.out) HB3.out vL 32 _ HL3.out (by omega) h1 h2).mono ?_
    rintro e w4 ⟨rfl, EW', hW', hl', hb4, hk4⟩
    have HR : Hid (WAt w4 gW base Ps EI EW' ∧ EW'.length = EW.length + 1 ∧ Below gW w w4 ∧ PKept w w4) := ⟨hW', hl', (Below.mono HB0.out (by omega)).trans hb4, (PKept.of_below HB0.out).trans hk4⟩
    clear hW' hl' hb4 hk4
    go_wp2
    go_ret
    exact ⟨rfl, EW', HR.out⟩
  · refine (progWeights_bad gx c hc _).mono ?_
    rintro e w1 ⟨rfl, hw⟩
    have hw' := hw.symm
    clear hw
    subst hw'
    have d1 := HC0.out.1
    go_wp2_with fail
    refine (refWeights_bad gy c hc _).mono ?_
    rintro e w2 ⟨rfl, hw⟩
    have hw' := hw.symm
    clear hw
    subst hw'
    go_wp2_with fail
    refine (lawWeights_any 0 0 (.slice none 0 0) (.slice none 0 0) (fun _ => 0) 0 _ (World.ownsRow_nil _ _ _ _) (World.ownsRow_nil _ _ _ _) (by omega)).mono ?_
    rintro e w3 ⟨rfl, n3, rfl⟩
    have HB3 : Hid (Below w0.heap.size w0 (w0.drewN n3)) := below_drewN (Below.refl _ _) n3
    generalize w0.drewN n3 = w3 at *
    go_wp2_with fail
    refine (keepW_any (H.out.later HB0.out) HB3.out (.slice none 0 0) 0 [] (World.ownsRow_nil _ _ _ _) (by omega) h1 h2).mono ?_
    rintro e w4 ⟨rfl, EW', hW', hl', hb4, hk4⟩
    have HR : Hid (WAt w4 gW base Ps EI EW' ∧ EW'.length = EW.length + 1 ∧ Below gW w w4 ∧ PKept w w4) := ⟨hW', hl', (Below.mono HB0.out (by omega)).trans hb4, (PKept.of_below HB0.out).trans hk4⟩
    clear hW' hl' hb4 hk4
    go_wp2
    go_ret
    exact ⟨rfl, EW', HR.out⟩

set_option maxRecDepth 100000 in
set_option maxHeartbeats 4000000 in
theorem asks_any {w : World} {gW base : Nat} {Ps : List PD} {EI EW : List Ent} (h : WAt w gW base Ps EI EW) (h1 : EI.length ≤ 10000000) (h2 : EW.length ≤ 10000000) (p : PD) (hp : p ∈ Ps) (kd r a : Int) (s : ByteArray) (hs : s.size ≤ maxLen) (hk : kd ≠ 6) :
    Calls Tryz.prog 24 #[.pointer (some ⟨gW, 0, none⟩), .agg (pairCells p).toArray, .agg #[.int .i64 kd, .int .i64 r, .int .i64 a, .string s]] w fun e w' => e = .returned (.bool true) ∧ ∃ EW', WAt w' gW base Ps EI EW' ∧ EW'.length ≤ EW.length + 1 ∧ Below gW w w' ∧ PKept w w' := by
  have H : Hid (WAt w gW base Ps EI EW) := h
  have hg : gW < w.heap.size := Nat.lt_of_lt_of_le h.gb h.bw
  have HP : Hid (PairIs w p ∧ p.Ok) := ⟨(h.ps p hp).1, (h.ps p hp).2.1⟩
  have HWW : Hid (∀ w1, Below w.heap.size w w1 → _) := fun w1 hb => wweights_any (h.later hb) h1 h2 p hp a
  clear h
  obtain ⟨gx, gy, cf, sh, rs, st⟩ := p
  show Calls Tryz.prog 24 #[.pointer (some ⟨gW, 0, none⟩), .agg #[.pointer (some ⟨gx, 0, none⟩), .pointer (some ⟨gy, 0, none⟩), .int .u64 cf.seed, .int .u8 cf.batch, .int .i32 cf.rate, .int .i32 cf.mom, .int .u8 cf.decay, .string sh], .agg #[.int .i64 kd, .int .i64 r, .int .i64 a, .string s]] w _
  obtain ⟨⟨⟨aX, cX, bX, hx1, hx2⟩, ⟨aL, cL, bL, hy1, hy2⟩⟩, hok⟩ := HP.out
  have hlen : (exsOf rs).length = rs.length := by simp [exsOf]
  have HX : Hid (ProgRun w gx cf (markB cf sh) (.slice aX rs.length cX) st) := by rw [hlen] at hx1; exact hx1
  have HY : Hid (RefRun w gy cf sh (.slice aL rs.length cL) st) := hy1
  have hst := hok.st
  have hcf := hok.cf
  have hn1 := hok.n1
  have hn2 := hok.n2
  simp only at hst hcf hn1 hn2
  clear hx1 hx2 hy1 hy2 hok HP hlen
  obtain ⟨w0, Hw0⟩ : ∃ w0, Hid ((w.alloc (.cells #[.pointer (some ⟨gx, 0, none⟩), .pointer (some ⟨gy, 0, none⟩), .int .u64 cf.seed, .int .u8 cf.batch, .int .i32 cf.rate, .int .i32 cf.mom, .int .u8 cf.decay, .string sh] 71)).alloc (.cells #[.int .i64 kd, .int .i64 r, .int .i64 a, .string s] 48) = w0) := ⟨_, (rfl : _ = _)⟩
  have HB0 : Hid (Below w.heap.size w w0) := by rw [← Hw0.out]; exact ((Below.refl _ _).alloc (Nat.le_refl _) _).alloc (by simp) _
  have HC0 : Hid (CellsAt w0 w.heap.size 71 [.pointer (some ⟨gx, 0, none⟩), .pointer (some ⟨gy, 0, none⟩), .int .u64 cf.seed, .int .u8 cf.batch, .int .i32 cf.rate, .int .i32 cf.mom, .int .u8 cf.decay, .string sh] ∧ CellsAt w0 (w.heap.size + 1) 48 [.int .i64 kd, .int .i64 r, .int .i64 a, .string s]) := by
    rw [← Hw0.out]
    exact ⟨(CellsAt.new w _ _ _ rfl rfl).alloc _, CellsAt.new _ _ _ _ rfl (by simp)⟩
  have HWn : Hid (∀ w', Below w0.heap.size w0 w' → ∃ EW', WAt w' gW base Ps EI EW' ∧ EW'.length ≤ EW.length + 1 ∧ Below gW w w' ∧ PKept w w') := fun w' hb => ⟨EW, (H.out.later HB0.out).later hb, by omega, (Below.mono HB0.out (by omega)).trans (Below.mono hb (by have := HB0.out.size; omega)), (PKept.of_below HB0.out).trans (PKept.of_below hb)⟩
  by_cases k1 : kd = 1
  · subst k1
    go_enter Tryz.func24, Tryz.ntmps24
    go_wp2_with fail
    rw [Hw0.out]
    clear Hw0
    refine (progDraw_any gx cf hcf aX rs.length cX hn1 (by omega) st a _ (CellsAt.later HX.out HB0.out)).mono ?_
    rintro e w1 ⟨rfl, n1, rfl⟩
    have d1 : (w0.drewN n1).cell? ⟨w.heap.size, 1, none⟩ = some (.pointer (some ⟨gy, 0, none⟩)) := CellsAt.cell HC0.out.1 1
    have d2 : (w0.drewN n1).cell? ⟨w.heap.size + 1, 2, none⟩ = some (.int .i64 a) := CellsAt.cell HC0.out.2 2
    have HB1 : Hid (Below w0.heap.size w0 (w0.drewN n1)) := below_drewN (Below.refl _ _) n1
    generalize w0.drewN n1 = w1 at *
    go_wp2_with fail
    refine (refDraw_any gy cf hcf sh aL rs.length cL hn1 (by omega) st a _ (CellsAt.later (CellsAt.later HY.out HB0.out) HB1.out)).mono ?_
    rintro e w2 ⟨rfl, n2, rfl⟩
    have HB2 : Hid (Below w0.heap.size w0 (w1.drewN n2)) := below_drewN HB1.out n2
    generalize w1.drewN n2 = w2 at *
    generalize (drawAns cf rs.length a).1 = x1
    generalize (drawAns cf rs.length a).2 = x2
    go_wp2
    go_ret
    exact ⟨rfl, HWn.out _ HB2.out⟩
  by_cases k3 : kd = 3
  · subst k3
    obtain ⟨x, y, z, HA⟩ : ∃ x y z : Int, Hid (statusAns cf rs.length st = [.int .i64 x, .int .i64 y, .int .i64 z]) := ⟨_, _, _, (rfl : _ = _)⟩
    go_enter Tryz.func24, Tryz.ntmps24
    go_wp2_with fail
    rw [Hw0.out]
    clear Hw0
    refine (progStatus_any gx cf hcf aX rs.length cX hn1 (by omega) st hst _ (CellsAt.later HX.out HB0.out)).mono ?_
    rintro e w1 ⟨rfl, hb1⟩
    rw [HA.out]
    have HB1 : Hid (Below w0.heap.size w0 w1) := hb1
    have d1 := CellsAt.cell (CellsAt.later HC0.out.1 hb1) 1
    simp only [List.getElem?_cons_zero, List.getElem?_cons_succ] at d1
    have l1 := CellsAt.lt (CellsAt.later HC0.out.1 hb1)
    clear hb1
    go_wp2_with fail
    have HB2 : Hid (Below w0.heap.size w0 (w1.alloc (.cells #[.int .i64 x, .int .i64 y, .int .i64 z] 133))) := HB1.out.alloc HB1.out.size _
    have HC2 : Hid (CellsAt (w1.alloc (.cells #[.int .i64 x, .int .i64 y, .int .i64 z] 133)) w1.heap.size 133 [.int .i64 x, .int .i64 y, .int .i64 z]) := CellsAt.new _ _ _ _ rfl rfl
    generalize w1.alloc (.cells #[.int .i64 x, .int .i64 y, .int .i64 z] 133) = w2 at *
    generalize w1.heap.size = gS at *
    refine (refStatus_any gy cf hcf sh aL rs.length cL hn1 (by omega) st hst _ (CellsAt.later (CellsAt.later HY.out HB0.out) HB2.out)).mono ?_
    rintro e w3 ⟨rfl, hb3⟩
    rw [HA.out]
    have HB3 : Hid (Below w0.heap.size w0 w3) := HB2.out.trans (hb3.mono HB2.out.size)
    have HC3 : Hid (CellsAt w3 gS 133 [.int .i64 x, .int .i64 y, .int .i64 z]) := CellsAt.later HC2.out hb3
    have q0 := CellsAt.cell HC3.out 0
    have q1 := CellsAt.cell HC3.out 1
    have q2 := CellsAt.cell HC3.out 2
    simp only [List.getElem?_cons_zero, List.getElem?_cons_succ] at q0 q1 q2
    have l3 := CellsAt.lt HC3.out
    clear hb3 HB2 HC2 d1 l1
    go_wp2
    go_ret
    exact ⟨rfl, HWn.out _ (HB3.out.alloc HB3.out.size _)⟩
  by_cases k4 : kd = 4
  · subst k4
    go_enter Tryz.func24, Tryz.ntmps24
    go_wp2_with fail
    rw [Hw0.out]
    clear Hw0
    refine (HWW.out _ HB0.out).mono ?_
    rintro e w1 ⟨rfl, EW', hW', hl', hb', hk'⟩
    have HR : Hid (∃ EW', WAt w1 gW base Ps EI EW' ∧ EW'.length ≤ EW.length + 1 ∧ Below gW w w1 ∧ PKept w w1) := ⟨EW', hW', by omega, (Below.mono HB0.out (by omega)).trans hb', (PKept.of_below HB0.out).trans hk'⟩
    clear hW' hl' hb' hk'
    go_wp2
    go_ret
    exact ⟨rfl, HR.out⟩
  by_cases k5 : kd = 5
  · subst k5
    unfold maxLen at hs
    by_cases hsl : s.size ≤ 200
    · obtain ⟨xg, Hxg⟩ : ∃ xg, Hid (guessAns st.w (ls s) = xg) := ⟨_, (rfl : _ = _)⟩
      go_enter Tryz.func24, Tryz.ntmps24
      go_wp2_with fail
      rw [Hw0.out]
      clear Hw0
      refine (progGuess_any gx cf _ st hst s hsl _ (CellsAt.later HX.out HB0.out)).mono ?_
      rintro e w1 ⟨rfl, hb1⟩
      rw [Hxg.out]
      have HB1 : Hid (Below w0.heap.size w0 w1) := hb1
      have d1 := CellsAt.cell (CellsAt.later HC0.out.1 hb1) 1
      have d2 := CellsAt.cell (CellsAt.later HC0.out.2 hb1) 3
      simp only [List.getElem?_cons_zero, List.getElem?_cons_succ] at d1 d2
      clear hb1
      go_wp2_with fail
      refine (refGuess_any gy cf sh _ st hst s hsl _ ((H.out.low.later HB0.out).later HB1.out) (CellsAt.later (CellsAt.later HY.out HB0.out) HB1.out)).mono ?_
      rintro e w2 ⟨rfl, hb2⟩
      rw [Hxg.out]
      have HB2 : Hid (Below w0.heap.size w0 w2) := HB1.out.trans (hb2.mono HB1.out.size)
      clear hb2 d1 d2
      obtain ⟨xa, xb⟩ := xg
      go_wp2
      go_ret
      exact ⟨rfl, HWn.out _ HB2.out⟩
    · go_enter Tryz.func24, Tryz.ntmps24
      go_wp2_with fail
      rw [Hw0.out]
      clear Hw0
      refine (progGuess_long gx s (by omega) (by unfold maxLen; omega) _).mono ?_
      rintro e w1 ⟨rfl, hw⟩
      have hw' := hw.symm
      clear hw
      subst hw'
      have d1 := CellsAt.cell HC0.out.1 1
      have d2 := CellsAt.cell HC0.out.2 3
      simp only [List.getElem?_cons_zero, List.getElem?_cons_succ] at d1 d2
      go_wp2_with fail
      refine (refGuess_long gy s (by omega) (by unfold maxLen; omega) _).mono ?_
      rintro e w2 ⟨rfl, hw⟩
      have hw' := hw.symm
      clear hw
      subst hw'
      go_wp2
      go_ret
      exact ⟨rfl, HWn.out _ (Below.refl _ _)⟩
  · have e1 : (kd == 1) = false := by simpa using k1
    have e3 : (kd == 3) = false := by simpa using k3
    have e4 : (kd == 4) = false := by simpa using k4
    have e5 : (kd == 5) = false := by simpa using k5
    have e6 : (kd == 6) = false := by simpa using hk
    go_enter Tryz.func24, Tryz.ntmps24
    go_wp2
    rw [Hw0.out]
    go_ret
    exact ⟨rfl, HWn.out _ (Below.refl _ _)⟩
end Go.Proofs.YtfpodnleimhohabGreatDoor

/-
  WALKS: an act of a script.
-/
namespace Go.Proofs.YtfpodnleimhohabGreatDoor
open Go.RowKit
set_option linter.unusedVariables false

set_option maxRecDepth 4000 in
set_option maxHeartbeats 400000 in
theorem lpick_any (c : Int) (n : Nat) (h0 : -9223372036854775808 ≤ c) (h1 : c ≤ 9223372036854775807) (hn1 : 1 ≤ n) (hn : n ≤ 4294967296) (w : World) :
    Calls Tryz.prog 17 #[.int .i64 c, .int .i64 n] w fun e w' => e = .returned (.int .i64 (pickN c n : Nat)) ∧ w' = w := by
  have hn0 : ((n : Int) == 0) = false := by simp; omega
  by_cases hc : c < 0
  · have HP : Hid (-((c + 1).tmod (n : Int)) = ((pickN c n : Nat) : Int)) := by
      show _ = _
      unfold pickN
      rw [if_pos hc, ← Int.neg_tmod, Int.tmod_eq_emod_of_nonneg (by omega)]
      obtain ⟨m, hm⟩ := Int.eq_ofNat_of_zero_le (show 0 ≤ -(c + 1) by omega)
      rw [hm, ← Int.natCast_emod]; rfl
    go_enter Tryz.func17, Tryz.ntmps17
    go_wp2
    go_ret
    exact ⟨ret_intP HP.out, rfl⟩
  · have HP : Hid (c % (n : Int) = ((pickN c n : Nat) : Int)) := by
      show _ = _
      unfold pickN
      rw [if_neg hc]
      obtain ⟨m, hm⟩ := Int.eq_ofNat_of_zero_le (show 0 ≤ c by omega)
      rw [hm, ← Int.natCast_emod]; rfl
    go_enter Tryz.func17, Tryz.ntmps17
    go_wp2
    go_ret
    exact ⟨ret_intP HP.out, rfl⟩


/-- .. also one that came out ahead of a change. -/
theorem keepI_at {w : World} {gW base : Nat} {Ps : List PD} {EI EW : List Ent} (h : WAt w gW base Ps EI EW) (vL : Value) (n : Nat) (xs : List Value) (hL : w.ownsRow base 3 1 vL n xs) (hfr : ∀ x ∈ EI, ∀ k, vL.ownBlock = some k → x.l.ownBlock ≠ some k ∧ x.a.ownBlock ≠ some k ∧ x.b.ownBlock ≠ some k ∧ x.c.ownBlock ≠ some k) (hn : n ≤ 1000) (h1 : EI.length ≤ 10000000) (h2 : EW.length ≤ 10000000) :
    Calls Tryz.prog 21 #[.pointer (some ⟨gW, 1, none⟩), vL] w fun e w' => e = .returned (.tuple #[]) ∧ ∃ EI', WAt w' gW base Ps EI' EW ∧ EI'.length = EI.length + 1 ∧ Below gW w w' := by
  obtain ⟨aI, cI, aW, cW, b1, b2, b3⟩ := h.bk
  obtain ⟨aP, cP, e1, e2⟩ := h.pr
  refine (keepInts_any gW 1 EI.length EW.length 0 0 aI cI aW cW none 0 none 0 base n vL xs (entsCells EI) w b1 ⟨by omega, by omega, by omega, by omega⟩ h.gb h.bw hL hn b2).mono ?_
  rintro e w5 ⟨rfl, aI', cI', va, vb, vc, k1, k2, f0, f1, f2, f3, hs, wz, u, hwz, hgz⟩
  have hg : gW < w.heap.size := Nat.lt_of_lt_of_le h.gb h.bw
  have old := hs
  obtain ⟨cg, hcg⟩ := h.tag
  have tagS : ∀ k, (k = gW ∨ some k = vL.ownBlock ∨ some k = Value.ownBlock (.slice aI EI.length cI)) → ∀ cs t f, w.heap[k]? = some (.cells cs t f) → t = 35 ∨ t = 3 ∨ t = 83 := by
    intro k hk cs t f hh
    rcases hk with rfl | hk | hk
    · unfold CellsAt at hcg
      rw [hcg] at hh
      simp at hh
      exact .inl hh.2.1.symm
    · obtain ⟨cs', hc⟩ := own_tag hL hk.symm
      rw [hh] at hc
      simp at hc
      exact .inr (.inl hc.2.1)
    · obtain ⟨cs', hc⟩ := own_tag b2 hk.symm
      rw [hh] at hc
      simp at hc
      exact .inr (.inr hc.2.1)
  have notO : ∀ (k : Nat) (cs : Array Value) (e : Nat), w.heap[k]? = some (.cells cs e (0, 0)) → e ≠ 35 → e ≠ 3 → e ≠ 83 → ¬ (k = gW ∨ some k = vL.ownBlock ∨ some k = Value.ownBlock (.slice aI EI.length cI)) := by
    intro k cs e hh q1 q2 q3 hk
    rcases tagS k hk cs e _ hh with q | q | q
    · exact q1 q
    · exact q2 q
    · exact q3 q
  have hno : NoRun w (fun k => k = gW ∨ some k = vL.ownBlock ∨ some k = Value.ownBlock (.slice aI EI.length cI)) := by
    intro k hk cs t f hh
    rcases tagS k hk cs t f hh with q | q | q <;> subst q <;> decide
  have c2 := b2
  have c3 := b3
  refine ⟨rfl, EI ++ [⟨vL, va, vb, vc, -1000 - (EI.length : Int) - EW.length - (0 : Nat) - (0 : Nat), n⟩], ⟨?_, ?_, ?_, ?_, ?_, ?_, ?_, h.ne, h.lo, h.gb, ?_⟩, by simp, ?_⟩
  · have h0 := h.low
    intro i hi
    refine (World.cell?_of_block (w := w) (a := ⟨0, i, none⟩) (old.block 0 h0.pos (fun e => ?_))).trans (h0 i hi)
    rcases e with e | e | e
    · have := h.lo; omega
    · have := (hL.lt 0 e.symm).1; have := h.gb; omega
    · have := (b2.lt 0 e.symm).1; have := h.gb; omega
  · have hx := CellsAt.set (show CellsAt wz gW 35 cg from hgz.trans hcg) 1 u
    rw [← hwz] at hx
    exact ⟨_, hx⟩
  · refine ⟨aP, cP, ?_, ownsRow_spared e2 old (fun k hk => ?_)⟩
    · rw [hwz, World.cell?_setCell_other _ _ _ _ (by simp), World.cell?_of_block (w := w) (a := ⟨gW, 0, none⟩) hgz]
      exact e1
    · obtain ⟨cs, hh⟩ := own_tag e2 hk
      exact notO k cs _ hh (by decide) (by decide) (by decide)
  · refine ⟨aI', cI', aW, cW, ?_, ?_, ownsRow_spared c3 old (fun k hk => ?_)⟩
    · rw [List.length_append]; exact k1
    · rw [List.length_append, entsCells_snoc]; exact k2
    · obtain ⟨cs, hh⟩ := own_tag c3 hk
      exact notO k cs _ hh (by decide) (by decide) (by decide)
  · intro x hx
    rcases List.mem_append.1 hx with hx | hx
    · have hx0 := h.ei x hx
      have one : ∀ {v : Value} {q : Nat}, Full w base 3 (mkI x.m) v q → (∀ k, vL.ownBlock = some k → v.ownBlock ≠ some k) → Full w5 base 3 (mkI x.m) v q := fun {v q} hv hd => ownsRow_spared hv old (fun k hk e => by
        rcases e with e | e | e
        · have := (hv.lt k hk).1; have := h.gb; omega
        · exact hd k e.symm hk
        · obtain ⟨cs, hh⟩ := own_tag hv hk
          exact own_ne b2 hh (by decide) e.symm)
      exact ⟨one hx0.l (fun k hk => (hfr x hx k hk).1), one hx0.a (fun k hk => (hfr x hx k hk).2.1), one hx0.b (fun k hk => (hfr x hx k hk).2.2.1), one hx0.c (fun k hk => (hfr x hx k hk).2.2.2), hx0.n⟩
    · rw [List.mem_singleton.1 hx]; exact ⟨f0, f1, f2, f3, hn⟩
  · intro x hx
    exact EntIs.spared (h.ew x hx) old (fun k cs hk hh => notO k cs _ hh (by decide) (by decide) (by decide))
  · intro p hp
    exact ⟨(h.ps p hp).1.spared old hno, (h.ps p hp).2⟩
  · exact Nat.le_trans h.bw old.size
  · exact old.below (fun k e => by
      rcases e with e | e | e
      · omega
      · have := (hL.lt k e.symm).1; have := h.gb; omega
      · have := (b2.lt k e.symm).1; have := h.gb; omega) (by omega)
theorem pair_get {l : List PD} {k : Nat} {p : PD} (h : l[k]? = some p) : ∀ j, j < 8 → (pairsCells l)[k * 8 + j]? = (pairCells p)[j]? := flat_get pairCells 8 (fun _ => rfl) l k p h

/-- One run has made a step, on both sides. -/
theorem WAt.stepped {w w' : World} {gW base : Nat} {Ps : List PD} {EI EW : List Ent} (h : WAt w gW base Ps EI EW) {i : Nat} {p : PD} (hi : Ps[i]? = some p) (st' : St) (hst : st'.Ok) (hs : Spared w w' (fun k => k = p.gx ∨ k = p.gy)) (hx : RunIs w' p.gx p.cf (markB p.cf p.sh) (exsOf p.rs) st') (hy : RefIs w' p.gy p.cf p.sh p.rs st') :
    WAt w' gW base (Ps.set i ⟨p.gx, p.gy, p.cf, p.sh, p.rs, st'⟩) EI EW := by
  have hg : gW < w.heap.size := Nat.lt_of_lt_of_le h.gb h.bw
  have hmem := List.mem_of_getElem? hi
  obtain ⟨hpp, hok, hbx, hby⟩ := h.ps p hmem
  obtain ⟨lx, hlx⟩ := hpp.1.cells
  obtain ⟨ay, cy, by', hy1, hy2⟩ := hpp.2
  have tagS : ∀ k, (k = p.gx ∨ k = p.gy) → ∀ cs t f, w.heap[k]? = some (.cells cs t f) → t = 67 ∨ t = 69 := by
    intro k hk cs t f hh
    rcases hk with rfl | rfl
    · unfold CellsAt at hlx
      rw [hlx] at hh
      simp at hh
      exact .inl hh.2.1.symm
    · have h' : w.heap[p.gy]? = some (.cells _ 69 _) := hy1
      rw [h'] at hh
      simp at hh
      exact .inr hh.2.1.symm
  have notO : ∀ (k : Nat) (cs : Array Value) (e : Nat), w.heap[k]? = some (.cells cs e (0, 0)) → e ≠ 67 → e ≠ 69 → ¬ (k = p.gx ∨ k = p.gy) := by
    intro k cs e hh q1 q2 hk
    rcases tagS k hk cs e _ hh with q | q
    · exact q1 q
    · exact q2 q
  have hgW : ¬ (gW = p.gx ∨ gW = p.gy) := by have := h.gb; omega
  obtain ⟨cg, hcg⟩ := h.tag
  obtain ⟨aP, cP, e1, e2⟩ := h.pr
  obtain ⟨aI, cI, aW, cW, b1, b2, b3⟩ := h.bk
  have hcells : pairsCells (Ps.set i ⟨p.gx, p.gy, p.cf, p.sh, p.rs, st'⟩) = pairsCells Ps := by
    unfold pairsCells
    apply List.ext_getElem?
    intro m
    have : ((Ps.set i ⟨p.gx, p.gy, p.cf, p.sh, p.rs, st'⟩).map pairCells) = Ps.map pairCells := by
      apply List.ext_getElem?
      intro j
      rw [List.getElem?_map, List.getElem?_map, List.getElem?_set]
      by_cases e : i = j
      · subst e
        have hl := (List.getElem?_eq_some_iff.1 hi).1
        rw [if_pos rfl, if_pos hl, hi]; rfl
      · rw [if_neg e]
    rw [List.flatMap_def, List.flatMap_def, this]
  refine ⟨fun j hj => (World.cell?_of_block (w := w) (a := ⟨0, j, none⟩) (hs.block 0 h.low.pos (by have := h.lo; have := h.gb; omega))).trans (h.low j hj), ⟨cg, (hs.block gW hg hgW).trans hcg⟩, ⟨aP, cP, ?_, ?_⟩, ⟨aI, cI, aW, cW, b1.kept (hs.block gW hg hgW), ownsRow_spared b2 hs (fun k hk => ?_), ownsRow_spared b3 hs (fun k hk => ?_)⟩, fun x hx' => EntIs.spared (h.ei x hx') hs (fun k cs hk hh => notO k cs _ hh (by decide) (by decide)), fun x hx' => EntIs.spared (h.ew x hx') hs (fun k cs hk hh => notO k cs _ hh (by decide) (by decide)), ?_, ?_, h.lo, h.gb, Nat.le_trans h.bw hs.size⟩
  · rw [List.length_set]
    exact (World.cell?_of_block (w := w) (a := ⟨gW, 0, none⟩) (hs.block gW hg hgW)).trans e1
  · rw [List.length_set, hcells]
    exact ownsRow_spared e2 hs (fun k hk => by
      obtain ⟨cs, hh⟩ := own_tag e2 hk
      exact notO k cs _ hh (by decide) (by decide))
  · obtain ⟨cs, hh⟩ := own_tag b2 hk
    exact notO k cs _ hh (by decide) (by decide)
  · obtain ⟨cs, hh⟩ := own_tag b3 hk
    exact notO k cs _ hh (by decide) (by decide)
  · intro q hq
    obtain ⟨j, hj⟩ := List.getElem?_of_mem hq
    rw [List.getElem?_set] at hj
    by_cases e : i = j
    · subst e
      rw [if_pos rfl, if_pos (List.getElem?_eq_some_iff.1 hi).1] at hj
      simp at hj
      subst hj
      exact ⟨⟨hx, hy⟩, ⟨hok.cf, hst, hok.rs, hok.n1, hok.n2, hok.sh, hok.rq⟩, hbx, hby⟩
    · rw [if_neg e] at hj
      have hqm := List.mem_of_getElem? hj
      obtain ⟨hqq, hqok, hq1, hq2⟩ := h.ps q hqm
      have hne : q.gx ≠ p.gx ∧ q.gy ≠ p.gy := by
        have hpw := List.pairwise_iff_getElem.1 h.ne
        obtain ⟨li, hli⟩ := List.getElem?_eq_some_iff.1 hi
        obtain ⟨lj, hlj⟩ := List.getElem?_eq_some_iff.1 hj
        rcases Nat.lt_or_gt_of_ne e with l | l
        · have := hpw i j li lj l
          rw [hli, hlj] at this
          exact ⟨this.1.symm, this.2.symm⟩
        · have := hpw j i lj li l
          rw [hli, hlj] at this
          exact this
      refine ⟨⟨?_, ?_⟩, hqok, hq1, hq2⟩
      · obtain ⟨a, c, b, r1, r2⟩ := hqq.1
        refine ⟨a, c, b, (hs.block _ (CellsAt.lt r1) (fun e => ?_)).trans r1, ownsRow_spared r2 hs (fun k hk => ?_)⟩
        · rcases e with e | e
          · exact hne.1 e
          · have r1' : w.heap[q.gx]? = some (.cells _ 67 _) := r1
            have hy1' : w.heap[p.gy]? = some (.cells _ 69 _) := hy1
            rw [e, hy1'] at r1'
            simp at r1'
        · obtain ⟨cs, hh⟩ := own_tag r2 hk
          exact notO k cs _ hh (by decide) (by decide)
      · obtain ⟨a, c, b, r1, r2⟩ := hqq.2
        refine ⟨a, c, b, (hs.block _ (CellsAt.lt r1) (fun e => ?_)).trans r1, ownsRow_spared r2 hs (fun k hk => ?_)⟩
        · rcases e with e | e
          · have r1' : w.heap[q.gy]? = some (.cells _ 69 _) := r1
            unfold CellsAt at hlx
            rw [e, hlx] at r1'
            simp at r1'
          · exact hne.2 e
        · obtain ⟨cs, hh⟩ := own_tag r2 hk
          exact notO k cs _ hh (by decide) (by decide)
  · rw [List.pairwise_iff_getElem]
    intro x y hx' hy' hlt
    have hpw := List.pairwise_iff_getElem.1 h.ne
    rw [List.length_set] at hx' hy'
    have key : ∀ z (hz : z < Ps.length), ((Ps.set i ⟨p.gx, p.gy, p.cf, p.sh, p.rs, st'⟩)[z]'(by rw [List.length_set]; exact hz)).gx = (Ps[z]'hz).gx ∧ ((Ps.set i ⟨p.gx, p.gy, p.cf, p.sh, p.rs, st'⟩)[z]'(by rw [List.length_set]; exact hz)).gy = (Ps[z]'hz).gy := by
      intro z hz
      rw [List.getElem_set]
      by_cases e : i = z
      · subst e
        obtain ⟨li, hli⟩ := List.getElem?_eq_some_iff.1 hi
        rw [if_pos rfl, hli]
        exact ⟨rfl, rfl⟩
      · rw [if_neg e]
        exact ⟨rfl, rfl⟩
    rw [(key x hx').1, (key x hx').2, (key y hy').1, (key y hy').2]
    exact hpw x y hx' hy' hlt

set_option maxRecDepth 100000 in
set_option maxHeartbeats 8000000 in
theorem act_any {w : World} {gW base : Nat} {Ps : List PD} {EI EW : List Ent} (h : WAt w gW base Ps EI EW) (h1 : EI.length ≤ 10000000) (h2 : EW.length ≤ 10000000) (h6 : Ps.length ≤ 6) (kd r a : Int) (s : ByteArray) (hs : s.size ≤ maxLen) (hk : 1 ≤ kd ∧ kd ≤ 5)
    (hr0 : -9223372036854775808 ≤ r) (hr1 : r ≤ 9223372036854775807) :
    Calls Tryz.prog 9 #[.pointer (some ⟨gW, 0, none⟩), .agg #[.int .i64 kd, .int .i64 r, .int .i64 a, .string s]] w fun e w' => e = .returned (.bool true) ∧ ∃ Ps' EI' EW', WAt w' gW base Ps' EI' EW' ∧ Ps'.length = Ps.length ∧ EI'.length ≤ EI.length + 1 ∧ EW'.length ≤ EW.length + 1 ∧ Below gW w w' := by
  have H : Hid (WAt w gW base Ps EI EW) := h
  have hg : gW < w.heap.size := Nat.lt_of_lt_of_le h.gb h.bw
  obtain ⟨aP, cP, hc0, hrow⟩ := h.pr
  obtain ⟨_, _, hv, hcP1, hcP2, hrd⟩ := own_read hrow
  simp only [Value.slice.injEq, true_and] at hv
  obtain ⟨rfl, rfl⟩ := hv
  unfold maxLen at hcP2
  have HRD : Hid _ := hrd
  clear hrd hrow h
  obtain ⟨w0, Hw0⟩ : ∃ w0, Hid (w.alloc (.cells #[.int .i64 kd, .int .i64 r, .int .i64 a, .string s] 48) = w0) := ⟨_, (rfl : _ = _)⟩
  have HB0 : Hid (Below w.heap.size w w0) := by rw [← Hw0.out]; exact (Below.refl _ _).alloc (Nat.le_refl _) _
  have HC0 : Hid (CellsAt w0 w.heap.size 48 [.int .i64 kd, .int .i64 r, .int .i64 a, .string s]) := by rw [← Hw0.out]; exact CellsAt.new w _ _ _ rfl rfl
  have d0 := (HB0.out.cell (p := ⟨gW, 0, none⟩) hg).trans hc0
  by_cases hn : Ps.length = 0
  · rw [hn] at d0 hcP1 hc0
    go_enter Tryz.func9, Tryz.ntmps9
    go_wp2
    rw [Hw0.out]
    go_ret
    exact ⟨rfl, Ps, EI, EW, H.out.later HB0.out, rfl, by omega, by omega, Below.mono HB0.out (by omega)⟩
  · have hi := pickN_lt r (n := Ps.length) (by omega)
    obtain ⟨i, Hi⟩ : ∃ i, Hid (pickN r Ps.length = i) := ⟨_, (rfl : _ = _)⟩
    rw [Hi.out] at hi
    obtain ⟨gP, rfl, hgP1, hgP2, hgP3⟩ := HRD.out (by omega)
    have hpi := List.getElem?_eq_getElem hi
    have hmem := List.getElem_mem hi
    have hpc := pair_get hpi
    generalize hpe : Ps[i] = p at *
    have HPi : Hid (Ps[i]? = some p ∧ p ∈ Ps) := ⟨hpi, hmem⟩
    have HPC : Hid (∀ j, j < 8 → w0.cell? ⟨gP, i * 8 + j, none⟩ = (pairCells p)[j]?) := fun j hj => (HB0.out.cell (p := ⟨gP, i * 8 + j, none⟩) hgP2).trans ((hgP3 (i * 8 + j) (by omega)).trans (hpc j hj))
    clear hgP3 hpc hpi hmem hpe
    have hnz : ((Ps.length : Int) == 0) = false := beq_eq_false_iff_ne.2 (by omega)
    have hin : (i : Int) < (Ps.length : Int) := by omega
    have hgz : gP < w0.heap.size := Nat.lt_of_lt_of_le hgP2 HB0.out.size
    have hBz := CellsAt.lt HC0.out
    have HAs : Hid (∀ w1, Below w.heap.size w w1 → _) := fun w1 hb => asks_any (H.out.later hb) h1 h2 p HPi.out.2 kd r a s hs (by omega)
    obtain ⟨gx, gy, cf, sh, rs, st⟩ := p
    have p0 := HPC.out 0 (by decide)
    have p1 := HPC.out 1 (by decide)
    have p2 := HPC.out 2 (by decide)
    have p3 := HPC.out 3 (by decide)
    have p4 := HPC.out 4 (by decide)
    have p5 := HPC.out 5 (by decide)
    have p6 := HPC.out 6 (by decide)
    have p7 := HPC.out 7 (by decide)
    simp only [pairCells, Nat.add_zero, List.getElem?_cons_zero, List.getElem?_cons_succ] at p0 p1 p2 p3 p4 p5 p6 p7
    have x1 := CellsAt.cell HC0.out 1
    simp only [List.getElem?_cons_zero, List.getElem?_cons_succ] at x1
    go_enter Tryz.func9, Tryz.ntmps9
    go_wp2_with fail
    rw [Hw0.out]
    go_cut [5] (fun pv wc => pv = .pointer (some ⟨w0.heap.size, 0, none⟩) ∧ wc = (w0.alloc (.cells #[.pointer (some ⟨gx, 0, none⟩), .pointer (some ⟨gy, 0, none⟩), .int .u64 cf.seed, .int .u8 cf.batch, .int .i32 cf.rate, .int .i32 cf.mom, .int .u8 cf.decay, .string sh] 71)).drew)
    case first =>
      go_region_held_law (fun w' => w'.cell? ⟨gW, 0, none⟩ = some (.slice (some ⟨gP, 0, none⟩) Ps.length cP) ∧ w'.cell? ⟨w.heap.size, 1, none⟩ = some (.int .i64 r) ∧ w'.cell? ⟨gP, i * 8, none⟩ = some (.pointer (some ⟨gx, 0, none⟩)) ∧ w'.cell? ⟨gP, i * 8 + 1, none⟩ = some (.pointer (some ⟨gy, 0, none⟩)) ∧ w'.cell? ⟨gP, i * 8 + 2, none⟩ = some (.int .u64 cf.seed) ∧ w'.cell? ⟨gP, i * 8 + 3, none⟩ = some (.int .u8 cf.batch) ∧ w'.cell? ⟨gP, i * 8 + 4, none⟩ = some (.int .i32 cf.rate) ∧ w'.cell? ⟨gP, i * 8 + 5, none⟩ = some (.int .i32 cf.mom) ∧ w'.cell? ⟨gP, i * 8 + 6, none⟩ = some (.int .u8 cf.decay) ∧ w'.cell? ⟨gP, i * 8 + 7, none⟩ = some (.string sh)) (go_keep) (first | (go_at_call 17; refine (lpick_any r Ps.length hr0 hr1 (by omega) (by omega) _).mono ?_; rintro e w' ⟨rfl, rfl⟩; rw [Hi.out]))
      all_goals
        go_wp2_with fail
        go_meet
        case rel => exact ⟨rfl, rfl⟩
    case rest =>
      obtain ⟨rfl, rfl⟩ := hcut
      obtain ⟨w1, Hw1⟩ : ∃ w1, Hid ((w0.alloc (.cells #[.pointer (some ⟨gx, 0, none⟩), .pointer (some ⟨gy, 0, none⟩), .int .u64 cf.seed, .int .u8 cf.batch, .int .i32 cf.rate, .int .i32 cf.mom, .int .u8 cf.decay, .string sh] 71)).drew = w1) := ⟨_, (rfl : _ = _)⟩
      have HB1 : Hid (Below w.heap.size w w1) := by rw [← Hw1.out]; exact (HB0.out.alloc HB0.out.size _).drew
      have HA1 : Hid (CellsAt w1 w.heap.size 48 [.int .i64 kd, .int .i64 r, .int .i64 a, .string s]) := by rw [← Hw1.out]; exact CellsAt.alloc HC0.out _
      have HQ1 : Hid (CellsAt w1 w0.heap.size 71 [.pointer (some ⟨gx, 0, none⟩), .pointer (some ⟨gy, 0, none⟩), .int .u64 cf.seed, .int .u8 cf.batch, .int .i32 cf.rate, .int .i32 cf.mom, .int .u8 cf.decay, .string sh]) := by rw [← Hw1.out]; exact CellsAt.new _ _ _ _ rfl rfl
      have hsz0 : w.heap.size < w0.heap.size := hBz
      rw [Hw1.out]
      clear Hw1 p0 p1 p2 p3 p4 p5 p6 p7 x1 d0 hc0 HPC hgz hBz hgP1 hgP2 HRD
      generalize w0.heap.size = gQ at *
      have y0 := CellsAt.cell HA1.out 0
      have y1 := CellsAt.cell HA1.out 1
      have y2 := CellsAt.cell HA1.out 2
      have y3 := CellsAt.cell HA1.out 3
      have z0 := CellsAt.cell HQ1.out 0
      have z1 := CellsAt.cell HQ1.out 1
      have z2 := CellsAt.cell HQ1.out 2
      have z3 := CellsAt.cell HQ1.out 3
      have z4 := CellsAt.cell HQ1.out 4
      have z5 := CellsAt.cell HQ1.out 5
      have z6 := CellsAt.cell HQ1.out 6
      have z7 := CellsAt.cell HQ1.out 7
      simp only [List.getElem?_cons_zero, List.getElem?_cons_succ] at y0 y1 y2 y3 z0 z1 z2 z3 z4 z5 z6 z7
      by_cases k2 : kd = 2
      · subst k2
        obtain ⟨⟨⟨aX, cX, bX, hx1, hx2⟩, ⟨aL, cL, bL, hy1, hy2⟩⟩, hok, hbx, hby⟩ := (H.out.later HB1.out).ps _ HPi.out.2
        simp only at hx1 hx2 hy1 hy2 hbx hby
        have hst := hok.st
        have hcf := hok.cf
        have hn1 := hok.n1
        have hn2 := hok.n2
        have Hrs : Hid _ := hok.rs
        simp only at hst hcf hn1 hn2 Hrs
        by_cases hw : 1 ≤ a ∧ a ≤ 8
        · obtain ⟨k, rfl⟩ := Int.eq_ofNat_of_zero_le (show 0 ≤ a by omega)
          have hk8 : 1 ≤ k ∧ k ≤ 8 := by omega
          by_cases h4 : st.steps < 400
          · obtain ⟨⟨hrx, hry⟩, _⟩ := H.out.ps _ HPi.out.2
            have hgxl := hrx.lt
            have hgyl : gy < w.heap.size := by
              obtain ⟨_, _, _, q, _⟩ := hry
              exact CellsAt.lt q
            simp only at hgxl
            clear hrx hry
            have hlen : (exsOf rs).length = rs.length := by simp [exsOf]
            have HXo : Hid (∀ x ∈ exsOf rs, x.1 < 4 ∧ x.2.length ≤ 200) := fun x hx => by
              obtain ⟨y, hy, rfl⟩ := List.mem_map.1 hx
              exact exOf_ok (Hrs.out y hy)
            have hxy : gy ≠ gx := fun e => by
              have q1 : w1.heap[gx]? = some (.cells _ 67 _) := hx1
              have q2 : w1.heap[gy]? = some (.cells _ 69 _) := hy1
              rw [e, q1] at q2
              simp at q2
            have HX1 : Hid (ProgRun w1 gx cf _ (.slice aX (exsOf rs).length cX) st ∧ w1.ownsRow bX 97 2 (.slice aX (exsOf rs).length cX) (exsOf rs).length (exNsCells (exsOf rs))) := ⟨hx1, hx2⟩
            have HY1 : Hid (RefRun w1 gy cf sh (.slice aL rs.length cL) st ∧ w1.ownsRow bL 99 4 (.slice aL rs.length cL) rs.length (recsCells rs)) := ⟨hy1, hy2⟩
            clear hx1 hx2 hy1 hy2
            have hb1z := HB1.out.size
            have lQ := CellsAt.lt HQ1.out
            go_wp2_with fail
            refine (progStep_any gx cf hcf aX cX bX (exsOf rs) HXo.out (by omega) (by omega) st hst h4 k hk8 _ HX1.out.1 HX1.out.2).mono ?_
            rintro e w2 ⟨vL, rfl, hL2, hP2, hS2⟩
            have HL2 : Hid (w2.ownsRow w1.heap.size 3 1 vL k (intCells (workTo cf (exsOf rs) st k k))) := hL2
            have HP2 : Hid (ProgRun w2 gx cf _ (.slice aX (exsOf rs).length cX) (stepN cf (exsOf rs) st)) := hP2
            have HS2 : Hid (Spared w1 w2 (fun j => j = gx)) := hS2
            have HX2 : Hid (w2.ownsRow bX 97 2 (.slice aX (exsOf rs).length cX) (exsOf rs).length (exNsCells (exsOf rs))) := ownsRow_spared HX1.out.2 hS2 (fun j hj e => by
              have e' : j = gx := e
              subst e'
              exact own_ne HX1.out.2 HX1.out.1 (by decide) hj)
            have HY2 : Hid (RefRun w2 gy cf sh (.slice aL rs.length cL) st ∧ w2.ownsRow bL 99 4 (.slice aL rs.length cL) rs.length (recsCells rs)) := ⟨(hS2.block gy (by omega) hxy).trans HY1.out.1, ownsRow_spared HY1.out.2 hS2 (fun j hj e => by
              have e' : j = gx := e
              subst e'
              exact own_ne HY1.out.2 HX1.out.1 (by decide) hj)⟩
            have HLow2 : Hid (LowAt w2) := fun j hj => (World.cell?_of_block (w := w1) (a := ⟨0, j, none⟩) (hS2.block 0 (by omega) (fun e => by have e' : 0 = gx := e; have := H.out.lo; have := H.out.gb; omega))).trans ((H.out.low.later HB1.out) j hj)
            have z1' : w2.cell? ⟨gQ, 1, none⟩ = some (.pointer (some ⟨gy, 0, none⟩)) := (World.cell?_of_block (w := w1) (a := ⟨gQ, 1, none⟩) (hS2.block gQ lQ (fun e => by have e' : gQ = gx := e; omega))).trans z1
            have y2' : w2.cell? ⟨w.heap.size, 2, none⟩ = some (.int .i64 k) := (World.cell?_of_block (w := w1) (a := ⟨w.heap.size, 2, none⟩) (hS2.block _ (CellsAt.lt HA1.out) (fun e => by have e' : w.heap.size = gx := e; omega))).trans y2
            clear hL2 hP2 hS2
            go_wp2_with fail
            refine (refStep_any gy cf hcf sh aL cL bL rs Hrs.out hn1 hn2 st hst h4 k hk8 _ HLow2.out HY2.out.1 HY2.out.2).mono ?_
            rintro e w3 ⟨vM, rfl, hM3, hP3, hS3⟩
            have hRun2 : w2.heap[gy]? = some (.cells _ 69 _) := HY2.out.1
            have HSp : Hid (Spared w1 w3 (fun j => j = gx ∨ j = gy)) := (HS2.out.mono (fun _ h => .inl h)).trans hS3 (fun _ _ h => .inr h)
            have HRx : Hid (RunIs w3 gx cf _ (exsOf rs) (stepN cf (exsOf rs) st)) := ⟨aX, cX, bX, (hS3.block gx (CellsAt.lt HP2.out) (fun e => hxy e.symm)).trans HP2.out, ownsRow_spared HX2.out hS3 (fun j hj e => by
              have e' : j = gy := e
              subst e'
              exact own_ne HX2.out hRun2 (by decide) hj)⟩
            have HRy : Hid (RefIs w3 gy cf sh rs (stepN cf (exsOf rs) st)) := ⟨aL, cL, bL, hP3, ownsRow_spared HY2.out.2 hS3 (fun j hj e => by
              have e' : j = gy := e
              subst e'
              exact own_ne HY2.out.2 hRun2 (by decide) hj)⟩
            have HW3 : Hid (WAt w3 gW base (Ps.set i ⟨gx, gy, cf, sh, rs, stepN cf (exsOf rs) st⟩) EI EW) := (H.out.later HB1.out).stepped HPi.out.1 _ (stepN_ok cf (exsOf rs) st h4) HSp.out HRx.out HRy.out
            have hwl : (workTo cf (exsOf rs) st k k).length = k := by simp [workTo]
            have HL3 : Hid (w3.ownsRow w1.heap.size 3 1 vL k (tab k fun i => (((workTo cf (exsOf rs) st k k).getD i 0 : Nat) : Int))) := by
              have q := ownsRow_spared HL2.out hS3 (fun j hj e => by
                have e' : j = gy := e
                subst e'
                exact own_ne HL2.out hRun2 (by decide) hj)
              rw [intCells_tab, hwl] at q
              exact q
            have HM3 : Hid (w3.ownsRow w2.heap.size 3 1 vM k (tab k fun i => (((workTo cf (exsOf rs) st k k).getD i 0 : Nat) : Int))) := by
              have q := hM3
              rw [show workL cf (exsOf rs) st k = workTo cf (exsOf rs) st k k from rfl, intCells_tab, hwl] at q
              exact q
            clear hM3 hP3 hS3 hRun2 z1' y2' hwl
            go_wp2_with fail
            refine (lawInts_any _ _ vL vM _ k _ HL3.out HM3.out (by omega)).mono ?_
            rintro e w4 ⟨rfl, n4, rfl⟩
            have HW4 : Hid (WAt (w3.drewN n4) gW base (Ps.set i ⟨gx, gy, cf, sh, rs, stepN cf (exsOf rs) st⟩) EI EW) := HW3.out.later (below_drewN (Below.refl _ _) n4)
            have HL4 : Hid ((w3.drewN n4).ownsRow base 3 1 vL k (tab k fun i => (((workTo cf (exsOf rs) st k k).getD i 0 : Nat) : Int))) := own_base (show (w3.drewN n4).ownsRow w1.heap.size 3 1 vL k _ from HL3.out) (by have := H.out.bw; omega)
            have HBe : Hid (Below gW w (w3.drewN n4)) := below_drewN ((Below.mono HB1.out (by omega)).trans (HSp.out.below (fun j hj => by have := H.out.gb; omega) (by omega))) n4
            have Hfr : Hid (∀ x ∈ EI, ∀ k, vL.ownBlock = some k → x.l.ownBlock ≠ some k ∧ x.a.ownBlock ≠ some k ∧ x.b.ownBlock ≠ some k ∧ x.c.ownBlock ≠ some k) := fun x hx k hk => by
              have hge := (HL3.out.lt k hk).1
              have q := H.out.ei x hx
              exact ⟨fun e => by have := (q.l.lt k e).2; omega, fun e => by have := (q.a.lt k e).2; omega, fun e => by have := (q.b.lt k e).2; omega, fun e => by have := (q.c.lt k e).2; omega⟩
            generalize w3.drewN n4 = w4 at *
            clear HL3 HM3 HW3 HRx HRy HSp
            go_wp2_with fail
            refine (keepI_at HW4.out vL k _ HL4.out Hfr.out (by omega) h1 h2).mono ?_
            rintro e w5 ⟨rfl, EI', hW', hl', hb5⟩
            have HR : Hid (WAt w5 gW base (Ps.set i ⟨gx, gy, cf, sh, rs, stepN cf (exsOf rs) st⟩) EI' EW ∧ EI'.length = EI.length + 1 ∧ Below gW w w5) := ⟨hW', hl', HBe.out.trans hb5⟩
            clear hW' hl' hb5
            go_wp2
            go_ret
            exact ⟨rfl, _, EI', EW, HR.out.1, by rw [List.length_set], by have := HR.out.2.1; omega, by omega, HR.out.2.2⟩
          · have h40 : st.steps = 400 := by have := hst.steps; omega
            go_wp2_with fail
            refine (progStep_limit gx cf _ st h40 k hk8 _ hx1).mono ?_
            rintro e w2 ⟨rfl, hw2⟩
            have hw2' := hw2.symm
            clear hw2
            subst hw2'
            go_wp2_with fail
            refine (refStep_limit gy cf sh _ st h40 k hk8 _ hy1).mono ?_
            rintro e w2 ⟨rfl, hw2⟩
            have hw2' := hw2.symm
            clear hw2
            subst hw2'
            go_wp2_with fail
            refine (lawInts_any 0 0 (.slice none 0 0) (.slice none 0 0) (fun _ => 0) 0 _ (World.ownsRow_nil _ _ _ _) (World.ownsRow_nil _ _ _ _) (by omega)).mono ?_
            rintro e w3 ⟨rfl, n3, rfl⟩
            have HB3 : Hid (Below w1.heap.size w1 (w1.drewN n3)) := below_drewN (Below.refl _ _) n3
            generalize w1.drewN n3 = w3 at *
            go_wp2_with fail
            refine (keepI_any (H.out.later HB1.out) HB3.out (.slice none 0 0) 0 [] (World.ownsRow_nil _ _ _ _) (by omega) h1 h2).mono ?_
            rintro e w4 ⟨rfl, EI', hW', hl', hb4⟩
            have HR : Hid (WAt w4 gW base Ps EI' EW ∧ EI'.length = EI.length + 1 ∧ Below gW w w4) := ⟨hW', hl', (Below.mono HB1.out (by omega)).trans hb4⟩
            clear hW' hl' hb4
            go_wp2
            go_ret
            exact ⟨rfl, Ps, EI', EW, HR.out.1, rfl, by have := HR.out.2.1; omega, by omega, HR.out.2.2⟩
        · go_wp2_with fail
          refine (progStep_workers gx a hw _).mono ?_
          rintro e w2 ⟨rfl, hw2⟩
          have hw2' := hw2.symm
          clear hw2
          subst hw2'
          go_wp2_with fail
          refine (refStep_workers gy a hw _).mono ?_
          rintro e w2 ⟨rfl, hw2⟩
          have hw2' := hw2.symm
          clear hw2
          subst hw2'
          go_wp2_with fail
          refine (lawInts_any 0 0 (.slice none 0 0) (.slice none 0 0) (fun _ => 0) 0 _ (World.ownsRow_nil _ _ _ _) (World.ownsRow_nil _ _ _ _) (by omega)).mono ?_
          rintro e w3 ⟨rfl, n3, rfl⟩
          have HB3 : Hid (Below w1.heap.size w1 (w1.drewN n3)) := below_drewN (Below.refl _ _) n3
          generalize w1.drewN n3 = w3 at *
          go_wp2_with fail
          refine (keepI_any (H.out.later HB1.out) HB3.out (.slice none 0 0) 0 [] (World.ownsRow_nil _ _ _ _) (by omega) h1 h2).mono ?_
          rintro e w4 ⟨rfl, EI', hW', hl', hb4⟩
          have HR : Hid (WAt w4 gW base Ps EI' EW ∧ EI'.length = EI.length + 1 ∧ Below gW w w4) := ⟨hW', hl', (Below.mono HB1.out (by omega)).trans hb4⟩
          clear hW' hl' hb4
          go_wp2
          go_ret
          exact ⟨rfl, Ps, EI', EW, HR.out.1, rfl, by have := HR.out.2.1; omega, by omega, HR.out.2.2⟩
      · have e2 : (kd == 2) = false := by simpa using k2
        have e7 : (kd == 7) = false := by simp; omega
        have e8 : (kd == 8) = false := by simp; omega
        go_wp2_with fail
        refine (HAs.out _ HB1.out).mono ?_
        rintro e w2 ⟨rfl, EW', hW', hl', hb', _⟩
        have HR : Hid (WAt w2 gW base Ps EI EW' ∧ EW'.length ≤ EW.length + 1 ∧ Below gW w w2) := ⟨hW', hl', (Below.mono HB1.out (by omega)).trans hb'⟩
        clear hW' hl' hb'
        go_wp2
        go_ret
        exact ⟨rfl, Ps, EI, EW', HR.out.1, rfl, by omega, HR.out.2.1, HR.out.2.2⟩
end Go.Proofs.YtfpodnleimhohabGreatDoor

/-
  WALKS: the end of a script; a script.
-/
namespace Go.Proofs.YtfpodnleimhohabGreatDoor
open Go.RowKit
set_option linter.unusedVariables false

set_option maxRecDepth 100000 in
set_option maxHeartbeats 8000000 in
theorem last_any {w : World} {gW base : Nat} {Ps : List PD} {EI EW : List Ent} (h : WAt w gW base Ps EI EW) (h1 : EI.length ≤ 5000000) (h2 : EW.length ≤ 5000000) (h6 : Ps.length ≤ 6) :
    Calls Tryz.prog 11 #[.pointer (some ⟨gW, 0, none⟩), .bool false] w fun e w' => e = .returned (.bool true) ∧ Below gW w w' := by
  have H : Hid (WAt w gW base Ps EI EW) := h
  clear h
  go_enter Tryz.func11, Tryz.ntmps11
  go_wp2_with fail
  go_loopg [5] Ps.length (fun gk iv wr => ∃ (i : Nat) (EWr : List Ent), gk + i = Ps.length ∧ iv = .int .i64 i ∧ EWr.length ≤ EW.length + 7 * i ∧ Hid (WAt wr gW base Ps EI EWr ∧ Below gW w wr))
  case atStart => exact ⟨0, EW, by omega, rfl, by omega, ⟨H.out, Below.refl _ _⟩⟩
  case round =>
    obtain ⟨i, EWr, hgi, rfl, hEW, HT⟩ := hrel
    obtain ⟨gK, hgK⟩ : ∃ gK, gK = gk := ⟨_, rfl⟩
    clear H
    obtain ⟨aP, cP, d0, hrow⟩ := HT.out.1.pr
    obtain ⟨_, _, hv, hcP1, hcP2, hrd⟩ := own_read hrow
    simp only [Value.slice.injEq, true_and] at hv
    obtain ⟨rfl, rfl⟩ := hv
    unfold maxLen at hcP2
    have hg : gW < wr.heap.size := Nat.lt_of_lt_of_le HT.out.1.gb HT.out.1.bw
    by_cases hlt : i < Ps.length
    · obtain ⟨gP, rfl, hgP1, hgP2, hgP3⟩ := hrd (by omega)
      have hpi := List.getElem?_eq_getElem hlt
      have hmem := List.getElem_mem hlt
      have hpc := pair_get hpi
      generalize hpe : Ps[i] = p at *
      have HPC : Hid (∀ j, j < 8 → wr.cell? ⟨gP, i * 8 + j, none⟩ = (pairCells p)[j]?) := fun j hj => (hgP3 (i * 8 + j) (by omega)).trans (hpc j hj)
      have Hmem : Hid (p ∈ Ps) := hmem
      clear hgP3 hpc hpi hpe hmem hrd hrow
      have HAsk : Hid (∀ (w1 : World) (E1 : List Ent), WAt w1 gW base Ps EI E1 → E1.length ≤ 10000000 → _) := fun w1 E1 hw he => asks_any hw (by omega) he p Hmem.out 3 0 0 ⟨#[]⟩ (Nat.zero_le _) (by decide)
      have HWei : Hid (∀ (w1 : World) (E1 : List Ent) (c : Int), WAt w1 gW base Ps EI E1 → E1.length ≤ 10000000 → _) := fun w1 E1 c hw he => wweights_any hw (by omega) he p Hmem.out c
      obtain ⟨gx, gy, cf, sh, rs, st⟩ := p
      have p0 := HPC.out 0 (by decide)
      have p1 := HPC.out 1 (by decide)
      have p2 := HPC.out 2 (by decide)
      have p3 := HPC.out 3 (by decide)
      have p4 := HPC.out 4 (by decide)
      have p5 := HPC.out 5 (by decide)
      have p6 := HPC.out 6 (by decide)
      have p7 := HPC.out 7 (by decide)
      simp only [pairCells, Nat.add_zero, List.getElem?_cons_zero, List.getElem?_cons_succ] at p0 p1 p2 p3 p4 p5 p6 p7
      have hii : (i : Int) < (Ps.length : Int) := by omega
      go_wp2_with fail
      have HB1 : Hid (Below wr.heap.size wr (wr.alloc (.cells #[.pointer (some ⟨gx, 0, none⟩), .pointer (some ⟨gy, 0, none⟩), .int .u64 cf.seed, .int .u8 cf.batch, .int .i32 cf.rate, .int .i32 cf.mom, .int .u8 cf.decay, .string sh] 71))) := (Below.refl _ _).alloc (Nat.le_refl _) _
      have HQ1 : Hid (CellsAt (wr.alloc (.cells #[.pointer (some ⟨gx, 0, none⟩), .pointer (some ⟨gy, 0, none⟩), .int .u64 cf.seed, .int .u8 cf.batch, .int .i32 cf.rate, .int .i32 cf.mom, .int .u8 cf.decay, .string sh] 71)) wr.heap.size 71 [.pointer (some ⟨gx, 0, none⟩), .pointer (some ⟨gy, 0, none⟩), .int .u64 cf.seed, .int .u8 cf.batch, .int .i32 cf.rate, .int .i32 cf.mom, .int .u8 cf.decay, .string sh]) := CellsAt.new _ _ _ _ rfl rfl
      generalize wr.alloc (.cells #[.pointer (some ⟨gx, 0, none⟩), .pointer (some ⟨gy, 0, none⟩), .int .u64 cf.seed, .int .u8 cf.batch, .int .i32 cf.rate, .int .i32 cf.mom, .int .u8 cf.decay, .string sh] 71) = w1 at *
      have HW1 : Hid (WAt w1 gW base Ps EI EWr ∧ Below gW w w1) := ⟨HT.out.1.later HB1.out, HT.out.2.trans (Below.mono HB1.out (by omega))⟩
      have hgz := hg
      clear p0 p1 p2 p3 p4 p5 p6 p7 HPC HT HB1 hgP1 hgP2 d0 hg
      generalize wr.heap.size = gQ at *
      refine (HAsk.out _ EWr HW1.out.1 (by omega)).mono ?_
      rintro e w2 ⟨rfl, E2, hW2, hl2, hb2, hk2⟩
      have H2 : Hid (WAt w2 gW base Ps EI E2 ∧ Below gW w w2 ∧ CellsAt w2 gQ 71 [.pointer (some ⟨gx, 0, none⟩), .pointer (some ⟨gy, 0, none⟩), .int .u64 cf.seed, .int .u8 cf.batch, .int .i32 cf.rate, .int .i32 cf.mom, .int .u8 cf.decay, .string sh]) := ⟨hW2, HW1.out.2.trans hb2, hk2.cells HQ1.out⟩
      have hE2 : E2.length ≤ EW.length + 7 * i + 1 := by omega
      clear hW2 hl2 hb2 hk2 HW1 HQ1
      go_wp2_with fail
      generalize decide ((i : Int) < (Ps.length : Int)) = q9
      go_loopg [7, 8] 6 (fun gq ov cv wq => ∃ (c : Nat) (E3 : List Ent), gq + c = 6 ∧ cv = .int .i64 ((c : Int) - 1) ∧ ov = .bool true ∧ E3.length ≤ EW.length + 7 * i + 1 + c ∧ Hid (WAt wq gW base Ps EI E3 ∧ Below gW w wq ∧ CellsAt wq gQ 71 [.pointer (some ⟨gx, 0, none⟩), .pointer (some ⟨gy, 0, none⟩), .int .u64 cf.seed, .int .u8 cf.batch, .int .i32 cf.rate, .int .i32 cf.mom, .int .u8 cf.decay, .string sh]))
      case atStart => exact ⟨0, E2, by omega, rfl, rfl, by omega, H2⟩
      case round =>
        obtain ⟨c, E3, hgc, rfl, rfl, hE3, HT2⟩ := hrel
        clear H2
        by_cases hcl : c < 6
        · have hc4 : decide ((c : Int) - 1 ≤ 4) = true := by simp; omega
          have z0 := CellsAt.cell HT2.out.2.2 0
          have z1 := CellsAt.cell HT2.out.2.2 1
          have z2 := CellsAt.cell HT2.out.2.2 2
          have z3 := CellsAt.cell HT2.out.2.2 3
          have z4 := CellsAt.cell HT2.out.2.2 4
          have z5 := CellsAt.cell HT2.out.2.2 5
          have z6 := CellsAt.cell HT2.out.2.2 6
          have z7 := CellsAt.cell HT2.out.2.2 7
          simp only [List.getElem?_cons_zero, List.getElem?_cons_succ] at z0 z1 z2 z3 z4 z5 z6 z7
          go_wp2_with fail
          refine (HWei.out _ E3 _ HT2.out.1 (by omega)).mono ?_
          rintro e w3 ⟨rfl, E4, hW3, hl3, hb3, hk3⟩
          have HT3 : Hid (WAt w3 gW base Ps EI E4 ∧ Below gW w w3 ∧ CellsAt w3 gQ 71 [.pointer (some ⟨gx, 0, none⟩), .pointer (some ⟨gy, 0, none⟩), .int .u64 cf.seed, .int .u8 cf.batch, .int .i32 cf.rate, .int .i32 cf.mom, .int .u8 cf.decay, .string sh]) := ⟨hW3, HT2.out.2.1.trans hb3, hk3.cells HT2.out.2.2⟩
          have hE4 : E4.length ≤ EW.length + 7 * i + 1 + (c + 1) := by omega
          clear hW3 hl3 hb3 hk3 HT2 z0 z1 z2 z3 z4 z5 z6 z7
          go_wp2
          go_roundg (gk - 1)
          case measure => omega
          case rel => exact ⟨c + 1, E4, by omega, by go_num, rfl, hE4, HT3⟩
        · obtain rfl : c = 6 := by omega
          go_wp2
          go_roundg (gK - 1)
          case measure => omega
          case rel => exact ⟨i + 1, E3, by omega, by go_num, by omega, ⟨HT2.out.1, HT2.out.2.1⟩⟩
    · obtain rfl : i = Ps.length := by omega
      go_wp2_with fail
      refine (looksW_any HT.out.1 (by omega) (by omega)).mono ?_
      rintro e w2 ⟨rfl, hb2⟩
      have HB2 : Hid (Below gW w w2) := HT.out.2.trans (Below.mono hb2 (by omega))
      clear hb2
      go_wp2
      go_ret
      exact ⟨rfl, HB2.out⟩
end Go.Proofs.YtfpodnleimhohabGreatDoor

/-
  WALKS: a script is played.
-/
namespace Go.Proofs.YtfpodnleimhohabGreatDoor
open Go.RowKit
set_option linter.unusedVariables false

/-- What a walk is told of a []Act. -/
def IsActs (w : World) (B : Nat) (a : Option Addr) (len cap : Nat) (K R A : Nat → Int) (S : Nat → ByteArray) : Prop :=
  len = 0 ∨ ∃ b off, a = some ⟨b, off, none⟩ ∧ len ≤ cap ∧ cap ≤ maxLen ∧ b < B ∧
    ∀ i, i < len → (w.cell? ⟨b, off + i * 4, none⟩ = some (.int .i64 (K i)) ∧ w.cell? ⟨b, off + i * 4 + 1, none⟩ = some (.int .i64 (R i)) ∧ w.cell? ⟨b, off + i * 4 + 2, none⟩ = some (.int .i64 (A i)) ∧ w.cell? ⟨b, off + i * 4 + 3, none⟩ = some (.string (S i))) ∧
      -9223372036854775808 ≤ R i ∧ R i ≤ 9223372036854775807 ∧ (S i).size ≤ maxLen ∧ -9223372036854775808 ≤ A i ∧ A i ≤ 9223372036854775807

set_option maxRecDepth 100000 in
set_option maxHeartbeats 8000000 in
theorem plays_any {w : World} {gW base : Nat} {Ps : List PD} {EI EW : List Ent} (h : WAt w gW base Ps EI EW) (h1 : EI.length ≤ 1000) (h2 : EW.length ≤ 1000) (h6 : Ps.length ≤ 6) (a : Option Addr) (len cap : Nat) (K R A : Nat → Int) (S : Nat → ByteArray) (hA : IsActs w gW a len cap K R A S) (hl : len ≤ 1048576) :
    Calls Tryz.prog 5 #[.pointer (some ⟨gW, 0, none⟩), .slice a len cap, .int .i64 5] w fun e w' => e = .returned (.bool true) ∧ Below gW w w' := by
  have H : Hid (WAt w gW base Ps EI EW) := h
  have hg0 : gW < w.heap.size := Nat.lt_of_lt_of_le h.gb h.bw
  have HA : Hid (IsActs w gW a len cap K R A S) := hA
  clear h hA
  go_enter Tryz.func5, Tryz.ntmps5
  go_wp2_with fail
  go_loopg [7] len (fun gk iv wr => ∃ (i : Nat) (Pr : List PD) (Er Fr : List Ent), gk + i = len ∧ iv = .int .i64 i ∧ Pr.length = Ps.length ∧ Er.length ≤ 1000 + i ∧ Fr.length ≤ 1000 + i ∧ Hid (WAt wr gW base Pr Er Fr ∧ Below gW w wr))
  case atStart => exact ⟨0, Ps, EI, EW, by omega, rfl, rfl, by omega, by omega, ⟨H.out, Below.refl _ _⟩⟩
  case round =>
    obtain ⟨i, Pr, Er, Fr, hgi, rfl, hPr, hEr, hFr, HT⟩ := hrel
    clear H
    have hg : gW < wr.heap.size := Nat.lt_of_lt_of_le HT.out.1.gb HT.out.1.bw
    by_cases hlt : i < len
    · obtain ⟨b, off, rfl, hc1, hc2, hbB, hcell⟩ := HA.out.resolve_left (by omega)
      obtain ⟨⟨x0, x1, x2, x3⟩, r0, r1, s0, _, _⟩ := hcell i hlt
      have y0 := (HT.out.2.cell (p := ⟨b, off + i * 4, none⟩) hbB).trans x0
      have y1 := (HT.out.2.cell (p := ⟨b, off + i * 4 + 1, none⟩) hbB).trans x1
      have y2 := (HT.out.2.cell (p := ⟨b, off + i * 4 + 2, none⟩) hbB).trans x2
      have y3 := (HT.out.2.cell (p := ⟨b, off + i * 4 + 3, none⟩) hbB).trans x3
      clear x0 x1 x2 x3 hcell
      unfold maxLen at hc2
      have hii : (i : Int) < (len : Int) := by omega
      generalize K i = kd at *
      generalize R i = rr at *
      generalize A i = aa at *
      generalize S i = ss at *
      by_cases hk : 1 ≤ kd ∧ kd ≤ 5
      · have e1 : decide (kd < 1) = false := by simp; omega
        have e2 : decide ((5 : Int) < kd) = false := by simp; omega
        go_wp2_with fail
        refine (act_any HT.out.1 (by omega) (by omega) (by omega) kd rr aa ss s0 hk r0 r1).mono ?_
        rintro e w2 ⟨rfl, P2, E2, F2, hW2, hp2, he2, hf2, hb2⟩
        have HT2 : Hid (WAt w2 gW base P2 E2 F2 ∧ Below gW w w2) := ⟨hW2, HT.out.2.trans hb2⟩
        have hgz : gW < w2.heap.size := Nat.lt_of_lt_of_le hW2.gb hW2.bw
        clear hW2 hb2 HT y0 y1 y2 y3 hg
        go_wp2_with fail
        refine (looksW_any HT2.out.1 (by omega) (by omega)).mono ?_
        rintro e w3 ⟨rfl, hb3⟩
        have HT3 : Hid (WAt w3 gW base P2 E2 F2 ∧ Below gW w w3) := ⟨HT2.out.1.later hb3, HT2.out.2.trans (Below.mono hb3 (by omega))⟩
        clear hb3 HT2 hgz
        go_wp2
        go_roundg (gk - 1)
        case measure => omega
        case rel => exact ⟨i + 1, P2, E2, F2, by omega, by go_num, by omega, by omega, by omega, HT3⟩
      · by_cases hk1 : kd < 1
        · have e1 : decide (kd < 1) = true := by simp; omega
          clear hk
          go_wp2
          go_roundg (gk - 1)
          case measure => omega
          case rel => exact ⟨i + 1, Pr, Er, Fr, by omega, by go_num, hPr, by omega, by omega, HT⟩
        · have e1 : decide (kd < 1) = false := by simp; omega
          have e2 : decide ((5 : Int) < kd) = true := by simp; omega
          clear hk
          go_wp2
          go_roundg (gk - 1)
          case measure => omega
          case rel => exact ⟨i + 1, Pr, Er, Fr, by omega, by go_num, hPr, by omega, by omega, HT⟩
    · go_wp2_with fail
      refine (last_any HT.out.1 (by omega) (by omega) (by omega)).mono ?_
      rintro e w2 ⟨rfl, hb2⟩
      have HB2 : Hid (Below gW w w2) := HT.out.2.trans hb2
      clear hb2
      go_wp2
      go_ret
      exact ⟨rfl, HB2.out⟩

set_option maxRecDepth 100000 in
set_option maxHeartbeats 4000000 in
theorem joins_none {w : World} (gW : Nat) (r : Raw) (sh : ByteArray) (hg : gW < w.heap.size) (aP : Option Addr) (nP cP : Nat) (hc : w.cell? ⟨gW, 0, none⟩ = some (.slice aP nP cP)) :
    Calls Tryz.prog 8 #[.pointer (some ⟨gW, 0, none⟩), .pointer none, .pointer none, .agg r.cells.toArray, .string sh] w fun e w' => e = .returned (.bool true) ∧ Below w.heap.size w w' := by
  obtain ⟨sd, bt, ra, mo, de⟩ := r
  show Calls Tryz.prog 8 #[.pointer (some ⟨gW, 0, none⟩), .pointer none, .pointer none, .agg #[.int .u64 sd, .int .u8 bt, .int .i32 ra, .int .i32 mo, .int .u8 de], .string sh] w _
  go_enter Tryz.func8, Tryz.ntmps8
  go_wp2
  go_ret
  exact ⟨rfl, (Below.refl _ _).alloc (Nat.le_refl _) _⟩
end Go.Proofs.YtfpodnleimhohabGreatDoor

/-
  WALKS: one run more, on both sides; New on both sides.
-/
namespace Go.Proofs.YtfpodnleimhohabGreatDoor
open Go.RowKit
set_option linter.unusedVariables false

theorem WAt.joined {w w3 : World} {gW base : Nat} {Ps : List PD} {EI EW : List Ent} (h : WAt w gW base Ps EI EW) {p : PD} {aP : Option Addr} {cP : Nat} (e1 : w.cell? ⟨gW, 0, none⟩ = some (.slice aP Ps.length cP)) (e2 : w.ownsRow base 71 8 (.slice aP Ps.length cP) Ps.length (pairsCells Ps))
    (hs3 : Spared w w3 (fun k => some k = Value.ownBlock (.slice aP Ps.length cP))) {v3 : Value} {a3 : Option Addr} {c3 : Nat} (hv3 : v3 = .slice a3 (Ps.length + 1) c3) (hown : w3.ownsRow base 71 8 (.slice a3 (Ps.length + 1) c3) (Ps.length + 1) (pairsCells Ps ++ pairCells p)) (hp : PairIs w p) (hok : p.Ok) (hx : base ≤ p.gx) (hy : base ≤ p.gy) (hd : ∀ q ∈ Ps, q.gx ≠ p.gx ∧ q.gy ≠ p.gy) :
    WAt (w3.setCell ⟨gW, 0, none⟩ v3) gW base (Ps ++ [p]) EI EW ∧ Below gW w (w3.setCell ⟨gW, 0, none⟩ v3) := by
  subst hv3
  have hg : gW < w.heap.size := Nat.lt_of_lt_of_le h.gb h.bw
  have hgr : ¬ some gW = Value.ownBlock (.slice aP Ps.length cP) := fun e => by have := (e2.lt gW e.symm).1; have := h.gb; omega
  have hgW3 : w3.heap[gW]? = w.heap[gW]? := hs3.block gW hg hgr
  have old : Spared w (w3.setCell ⟨gW, 0, none⟩ (.slice a3 (Ps.length + 1) c3)) (fun k => k = gW ∨ some k = Value.ownBlock (.slice aP Ps.length cP)) :=
    (hs3.mono (fun _ h => .inr h)).trans (Spared.of_set w3 gW 0 _) (fun _ _ h => .inl h)
  obtain ⟨cg, hcg⟩ := h.tag
  have tagS : ∀ k, (k = gW ∨ some k = Value.ownBlock (.slice aP Ps.length cP)) → ∀ cs t f, w.heap[k]? = some (.cells cs t f) → t = 35 ∨ t = 71 := by
    intro k hk cs t f hh
    rcases hk with rfl | hk
    · unfold CellsAt at hcg
      rw [hcg] at hh
      simp at hh
      exact .inl hh.2.1.symm
    · obtain ⟨cs', hc⟩ := own_tag e2 hk.symm
      rw [hh] at hc
      simp at hc
      exact .inr hc.2.1
  have notO : ∀ (k : Nat) (cs : Array Value) (e : Nat), w.heap[k]? = some (.cells cs e (0, 0)) → e ≠ 35 → e ≠ 71 → ¬ (k = gW ∨ some k = Value.ownBlock (.slice aP Ps.length cP)) := by
    intro k cs e hh q1 q2 hk
    rcases tagS k hk cs e _ hh with q | q
    · exact q1 q
    · exact q2 q
  have hno : NoRun w (fun k => k = gW ∨ some k = Value.ownBlock (.slice aP Ps.length cP)) := by
    intro k hk cs t f hh
    rcases tagS k hk cs t f hh with q | q <;> subst q <;> decide
  obtain ⟨aI, cI, aW, cW, b1, b2, b3⟩ := h.bk
  refine ⟨⟨?_, ?_, ?_, ?_, ?_, ?_, ?_, ?_, h.lo, h.gb, Nat.le_trans h.bw old.size⟩, ?_⟩
  · have h0 := h.low
    intro i hi
    refine (World.cell?_of_block (w := w) (a := ⟨0, i, none⟩) (old.block 0 h0.pos (fun e => ?_))).trans (h0 i hi)
    rcases e with e | e
    · have := h.lo; omega
    · have := (e2.lt 0 e.symm).1; have := h.gb; omega
  · exact ⟨_, CellsAt.set (show CellsAt w3 gW 35 cg from hgW3.trans hcg) 0 _⟩
  · refine ⟨a3, c3, ?_, ?_⟩
    · rw [List.length_append]
      exact World.cell?_setCell_same _ _ _ ((World.cell?_of_block (w := w) (a := ⟨gW, 0, none⟩) hgW3).trans e1)
    · rw [List.length_append, pairsCells_snoc]
      exact ownsRow_setCell_below hown h.gb _
  · have B := b1.kept hgW3
    refine ⟨aI, cI, aW, cW, ?_, ownsRow_spared b2 old (fun k hk => ?_), ownsRow_spared b3 old (fun k hk => ?_)⟩
    · refine ⟨?_, ?_, ?_, ?_, ?_, ?_, ?_, ?_⟩
      · rw [World.cell?_setCell_other _ _ _ _ (by simp)]; exact B.c0
      · rw [World.cell?_setCell_other _ _ _ _ (by simp)]; exact B.c1
      · rw [World.cell?_setCell_other _ _ _ _ (by simp)]; exact B.c2
      · rw [World.cell?_setCell_other _ _ _ _ (by simp)]; exact B.c3
      · rw [World.frozen?_setCell]; exact B.f0
      · rw [World.frozen?_setCell]; exact B.f1
      · rw [World.frozen?_setCell]; exact B.f2
      · rw [World.frozen?_setCell]; exact B.f3
    · obtain ⟨cs, hh⟩ := own_tag b2 hk
      exact notO k cs _ hh (by decide) (by decide)
    · obtain ⟨cs, hh⟩ := own_tag b3 hk
      exact notO k cs _ hh (by decide) (by decide)
  · exact fun x hx' => EntIs.spared (h.ei x hx') old (fun k cs hk hh => notO k cs _ hh (by decide) (by decide))
  · exact fun x hx' => EntIs.spared (h.ew x hx') old (fun k cs hk hh => notO k cs _ hh (by decide) (by decide))
  · intro q hq
    rcases List.mem_append.1 hq with hq | hq
    · exact ⟨(h.ps q hq).1.spared old hno, (h.ps q hq).2⟩
    · rw [List.mem_singleton.1 hq]
      exact ⟨hp.spared old hno, hok, hx, hy⟩
  · rw [List.pairwise_append]
    exact ⟨h.ne, List.pairwise_singleton _ _, fun q hq r hr => by rw [List.mem_singleton.1 hr]; exact hd q hq⟩
  · exact old.below (fun k e => by
      rcases e with e | e
      · omega
      · have := (e2.lt k e.symm).1; have := h.gb; omega) (by omega)

theorem info_pair : (Tryz.prog.info? 71).map (fun i => (i.zero, i.size, i.bytes)) = some (some (.agg #[.pointer none, .pointer none, .int .u64 0, .int .u8 0, .int .i32 0, .int .i32 0, .int .u8 0, .string ⟨#[]⟩]), 8, 56) := by kernel_rfl

set_option maxRecDepth 100000 in
set_option maxHeartbeats 8000000 in
theorem joins_some {w : World} {gW base : Nat} {Ps : List PD} {EI EW : List Ent} (h : WAt w gW base Ps EI EW) (h6 : Ps.length < 6) (p : PD) (hp : PairIs w p) (hok : p.Ok) (hx : base ≤ p.gx) (hy : base ≤ p.gy) (hd : ∀ q ∈ Ps, q.gx ≠ p.gx ∧ q.gy ≠ p.gy) :
    Calls Tryz.prog 8 #[.pointer (some ⟨gW, 0, none⟩), .pointer (some ⟨p.gx, 0, none⟩), .pointer (some ⟨p.gy, 0, none⟩), .agg #[.int .u64 p.cf.seed, .int .u8 p.cf.batch, .int .i32 p.cf.rate, .int .i32 p.cf.mom, .int .u8 p.cf.decay], .string p.sh] w fun e w' => e = .returned (.bool true) ∧ WAt w' gW base (Ps ++ [p]) EI EW ∧ Below gW w w' := by
  obtain ⟨iE, hiE, hzE0, hzE1, hzE2⟩ := info_parts info_pair
  have hg : gW < w.heap.size := Nat.lt_of_lt_of_le h.gb h.bw
  obtain ⟨w0, Hw0⟩ : ∃ w0, Hid (w.alloc (.cells #[.int .u64 p.cf.seed, .int .u8 p.cf.batch, .int .i32 p.cf.rate, .int .i32 p.cf.mom, .int .u8 p.cf.decay] 24) = w0) := ⟨_, (rfl : _ = _)⟩
  have HB0 : Hid (Below w.heap.size w w0) := by rw [← Hw0.out]; exact (Below.refl _ _).alloc (Nat.le_refl _) _
  have HC0 : Hid (CellsAt w0 w.heap.size 24 [.int .u64 p.cf.seed, .int .u8 p.cf.batch, .int .i32 p.cf.rate, .int .i32 p.cf.mom, .int .u8 p.cf.decay]) := by rw [← Hw0.out]; exact CellsAt.new w _ _ _ rfl rfl
  have H0 : Hid (WAt w0 gW base Ps EI EW) := h.later HB0.out
  obtain ⟨aQ, cQ, hcell, _⟩ := h.pr
  obtain ⟨aP, cP, e1, e2⟩ := H0.out.pr
  obtain ⟨rfl, rfl⟩ : aQ = aP ∧ cQ = cP := by
    have := (HB0.out.cell (p := ⟨gW, 0, none⟩) hg).trans hcell
    rw [e1] at this
    simp at this
    exact ⟨this.1.symm, this.2.symm⟩
  have HJ : Hid (∀ w3 (v3 : Value) a3 c3, Spared w0 w3 (fun k => some k = Value.ownBlock (.slice aQ Ps.length cQ)) → v3 = .slice a3 (Ps.length + 1) c3 → w3.ownsRow base 71 8 (.slice a3 (Ps.length + 1) c3) (Ps.length + 1) (pairsCells Ps ++ pairCells p) → WAt (w3.setCell ⟨gW, 0, none⟩ v3) gW base (Ps ++ [p]) EI EW ∧ Below gW w (w3.setCell ⟨gW, 0, none⟩ v3)) := fun w3 v3 a3 c3 hs hv ho => by
    have q := H0.out.joined e1 e2 hs hv ho (hp.later HB0.out) hok hx hy hd
    exact ⟨q.1, (Below.mono HB0.out (by omega)).trans q.2⟩
  have HO : Hid (w0.ownsRow base 71 8 (.slice aQ Ps.length cQ) Ps.length (pairsCells Ps)) := e2
  obtain ⟨cg, hcg⟩ := H0.out.tag
  have f0 := hcg.frozen 0
  have hg0 : gW < w0.heap.size := hcg.lt
  have hbz := H0.out.bw
  have hgb := H0.out.gb
  have HrowG : Hid (∀ j, Value.ownBlock (.slice aQ Ps.length cQ) = some j → base ≤ j) := fun j hj => (e2.lt j hj).1
  have lC := CellsAt.lt HC0.out
  clear h e2 hp hok hx hy hd hcg H0
  have HPcl : Hid (pairCells p = [.pointer (some ⟨p.gx, 0, none⟩), .pointer (some ⟨p.gy, 0, none⟩), .int .u64 p.cf.seed, .int .u8 p.cf.batch, .int .i32 p.cf.rate, .int .i32 p.cf.mom, .int .u8 p.cf.decay, .string p.sh]) := rfl
  have c0 := CellsAt.cell HC0.out 0
  have c1 := CellsAt.cell HC0.out 1
  have c2 := CellsAt.cell HC0.out 2
  have c3 := CellsAt.cell HC0.out 3
  have c4 := CellsAt.cell HC0.out 4
  simp only [List.getElem?_cons_zero, List.getElem?_cons_succ] at c0 c1 c2 c3 c4
  rw [HPcl.out] at HJ
  obtain ⟨gx, gy, cf, sh, rs, st⟩ := p
  simp only at c0 c1 c2 c3 c4 HJ Hw0 ⊢
  go_enter Tryz.func8, Tryz.ntmps8
  go_wp2_with fail
  rw [Hw0.out]
  go_region_law (first | (refine step_append_own rfl (.tmp 30) (.tmp 36) 27 rfl base 71 iE (.agg #[.pointer none, .pointer none, .int .u64 0, .int .u8 0, .int .i32 0, .int .i32 0, .int .u8 0, .string ⟨#[]⟩]) 8 56 Tryz.underlying27 hiE hzE0 hzE1 hzE2 rfl (by decide) _ _ _ rfl (by exact (World.ownsRow.alloc HO.out _).drew) ⟨w0.heap.size, 0, none⟩ 1 1 [.pointer (some ⟨gx, 0, none⟩), .pointer (some ⟨gy, 0, none⟩), .int .u64 cf.seed, .int .u8 cf.batch, .int .i32 cf.rate, .int .i32 cf.mom, .int .u8 cf.decay, .string sh] rfl rfl (by exact news_at _ _ rfl _ _ _ rfl) (oneCell_nums _ rfl) (by unfold maxLen; omega) (by omega) (by simp; omega) ?_; intro v' w3 hown' hgrow; obtain ⟨a3, cc3, rfl, _, _, _⟩ := own_read hown'; have kg := block_at hgrow gW (by simp; omega) (fun h => by have := HrowG.out gW h.symm; omega); have k0 : w3.cell? ⟨gW, 0, none⟩ = some (.slice aQ Ps.length cQ) := (by rw [kg.1]; simp [go_sem, e1, hg0]); have k1 : w3.frozen? ⟨gW, 0, none⟩ = false := (by rw [kg.2]; simp [go_sem, f0, hg0])))
  all_goals
    go_wp2
    go_ret
    have q := HJ.out w3 _ a3 cc3 ((Spared.of_below (((Below.refl _ w0).alloc (Nat.le_refl _) _).drew) _).trans (Spared.of_grown hgrow) (fun _ _ h => h)) rfl hown'
    exact ⟨rfl, q.1, q.2⟩
end Go.Proofs.YtfpodnleimhohabGreatDoor

/-
  WALKS: New on both sides.
-/
namespace Go.Proofs.YtfpodnleimhohabGreatDoor
open Go.RowKit
set_option linter.unusedVariables false

theorem Raw.cf_raw {r : Raw} (h : r.ok = true) : r.cf.raw = r := by
  simp only [Raw.ok, decide_eq_true_eq] at h
  obtain ⟨sd, bt, ra, mo, de⟩ := r
  simp only at h
  simp only [Raw.cf, Cf.raw, Raw.mk.injEq, true_and, and_true]
  omega

set_option maxRecDepth 100000 in
set_option maxHeartbeats 4000000 in
theorem begins_none {w : World} {gW base : Nat} {Ps : List PD} {EI EW : List Ent} (h : WAt w gW base Ps EI EW) (r : Raw) (s : ByteArray) (er : Int)
    (h1 : ∀ w1, Calls Tryz.prog 6 #[.agg r.cells.toArray, .string s] w1 fun e w' => e = .returned (.tuple #[.pointer none, .int .i64 er]) ∧ Below w1.heap.size w1 w')
    (h2 : ∀ w1, Calls Tryz.prog 7 #[.agg r.cells.toArray, .string s] w1 fun e w' => e = .returned (.tuple #[.pointer none, .int .i64 er]) ∧ Below w1.heap.size w1 w') :
    Calls Tryz.prog 4 #[.pointer (some ⟨gW, 0, none⟩), .agg r.cells.toArray, .string s] w fun e w' => e = .returned (.bool true) ∧ ∃ Q : List PD, Q.length ≤ Ps.length + 1 ∧ WAt w' gW base Q EI EW ∧ Below gW w w' := by
  have H1 : Hid (∀ w1, Calls Tryz.prog 6 #[.agg r.cells.toArray, .string s] w1 fun e w' => e = .returned (.tuple #[.pointer none, .int .i64 er]) ∧ Below w1.heap.size w1 w') := h1
  have H2 : Hid (∀ w1, Calls Tryz.prog 7 #[.agg r.cells.toArray, .string s] w1 fun e w' => e = .returned (.tuple #[.pointer none, .int .i64 er]) ∧ Below w1.heap.size w1 w') := h2
  have H : Hid (WAt w gW base Ps EI EW) := h
  have HJ : Hid (∀ w1, WAt w1 gW base Ps EI EW → Calls Tryz.prog 8 #[.pointer (some ⟨gW, 0, none⟩), .pointer none, .pointer none, .agg r.cells.toArray, .string s] w1 fun e w' => e = .returned (.bool true) ∧ Below w1.heap.size w1 w') := fun w1 q => by
    obtain ⟨aP, cP, e1, _⟩ := q.pr
    exact joins_none gW r s (Nat.lt_of_lt_of_le q.gb q.bw) aP _ cP e1
  have hgb := h.gb
  have hbw := h.bw
  clear h h1 h2
  obtain ⟨sd, bt, ra, mo, de⟩ := r
  simp only [Raw.cells] at H1 H2 HJ ⊢
  obtain ⟨w0, Hw0⟩ : ∃ w0, Hid (w.alloc (.cells #[.int .u64 sd, .int .u8 bt, .int .i32 ra, .int .i32 mo, .int .u8 de] 24) = w0) := ⟨_, (rfl : _ = _)⟩
  have HB0 : Hid (Below w.heap.size w w0) := by rw [← Hw0.out]; exact (Below.refl _ _).alloc (Nat.le_refl _) _
  have HC0 : Hid (CellsAt w0 w.heap.size 24 [.int .u64 sd, .int .u8 bt, .int .i32 ra, .int .i32 mo, .int .u8 de]) := by rw [← Hw0.out]; exact CellsAt.new w _ _ _ rfl rfl
  have K0 : Hid (WAt w0 gW base Ps EI EW ∧ Below gW w w0) := ⟨H.out.later HB0.out, Below.mono HB0.out (by omega)⟩
  have lC0 := CellsAt.lt HC0.out
  have c0 := CellsAt.cell HC0.out 0
  have c1 := CellsAt.cell HC0.out 1
  have c2 := CellsAt.cell HC0.out 2
  have c3 := CellsAt.cell HC0.out 3
  have c4 := CellsAt.cell HC0.out 4
  simp only [List.getElem?_cons_zero, List.getElem?_cons_succ] at c0 c1 c2 c3 c4
  clear HB0 H
  go_enter Tryz.func4, Tryz.ntmps4
  go_wp2_with fail
  rw [Hw0.out]
  refine (H1.out _).mono ?_
  rintro e w2 ⟨rfl, hb2⟩
  have K2 : Hid (WAt w2 gW base Ps EI EW ∧ Below gW w w2) := by
    have := K0.out.1.bw
    exact ⟨K0.out.1.later hb2, K0.out.2.trans (Below.mono hb2 (by omega))⟩
  have HC2 := HC0.out.later hb2
  clear hb2 K0 c0 c1 c2 c3 c4 lC0 HC0
  have lC2 := CellsAt.lt HC2
  have c0 := CellsAt.cell HC2 0
  have c1 := CellsAt.cell HC2 1
  have c2 := CellsAt.cell HC2 2
  have c3 := CellsAt.cell HC2 3
  have c4 := CellsAt.cell HC2 4
  simp only [List.getElem?_cons_zero, List.getElem?_cons_succ] at c0 c1 c2 c3 c4
  have HC2' : Hid _ := HC2
  clear HC2
  go_wp2_with fail
  refine (H2.out _).mono ?_
  rintro e w3 ⟨rfl, hb3⟩
  have K3 : Hid (WAt w3 gW base Ps EI EW ∧ Below gW w w3) := by
    have := K2.out.1.bw
    exact ⟨K2.out.1.later hb3, K2.out.2.trans (Below.mono hb3 (by omega))⟩
  have HC3 := CellsAt.later HC2'.out hb3
  clear hb3 K2 c0 c1 c2 c3 c4 lC2 HC2'
  have lC3 := CellsAt.lt HC3
  have c0 := CellsAt.cell HC3 0
  have c1 := CellsAt.cell HC3 1
  have c2 := CellsAt.cell HC3 2
  have c3 := CellsAt.cell HC3 3
  have c4 := CellsAt.cell HC3 4
  simp only [List.getElem?_cons_zero, List.getElem?_cons_succ] at c0 c1 c2 c3 c4
  clear HC3
  go_wp2_with fail
  refine (HJ.out _ K3.out.1).mono ?_
  rintro e w4 ⟨rfl, hb4⟩
  have K4 : Hid (WAt w4 gW base Ps EI EW ∧ Below gW w w4) := by
    have := K3.out.1.bw
    exact ⟨K3.out.1.later hb4, K3.out.2.trans (Below.mono hb4 (by omega))⟩
  clear hb4 K3 c0 c1 c2 c3 c4
  go_wp2
  go_ret
  exact ⟨rfl, Ps, by omega, K4.out.1, K4.out.2⟩
theorem chain_ok {l : List UInt8} : ∀ {rs : List Rc} {p : Nat}, Chain l rs p → ∀ r ∈ rs, bodyOk r.bd = true
  | [], _, _, _, hr => by simp at hr
  | r :: rs, p, h, q, hq => by
    rcases List.mem_cons.1 hq with rfl | hq
    · exact h.2.2.2.1
    · exact chain_ok h.2.2.2.2.2 q hq

set_option maxRecDepth 100000 in
set_option maxHeartbeats 4000000 in
theorem begins_ok {w : World} {gW base : Nat} {Ps : List PD} {EI EW : List Ent} (h : WAt w gW base Ps EI EW) (h6 : Ps.length < 6) (cf : Cf) (hcf : cf.Ok) (s : ByteArray) (hs : s.size ≤ 600) (hne : 0 < (recs (ls s)).length) :
    Calls Tryz.prog 4 #[.pointer (some ⟨gW, 0, none⟩), .agg cf.raw.cells.toArray, .string s] w fun e w' => e = .returned (.bool true) ∧ ∃ Q : List PD, Q.length ≤ Ps.length + 1 ∧ WAt w' gW base Q EI EW ∧ Below gW w w' := by
  have H1 : Hid (∀ w1, Calls Tryz.prog 6 #[.agg cf.raw.cells.toArray, .string s] w1 fun e w' => ∃ g, e = .returned (.tuple #[.pointer (some ⟨g, 0, none⟩), .int .i64 0]) ∧ w1.heap.size ≤ g ∧ RunIs w' g cf (markB cf s) (exsOf (recs (ls s))) St.zero ∧ Below w1.heap.size w1 w') := fun w1 => by
    have q := progNew_ok cf.raw (Cf.raw_wf hcf) (Cf.raw_ok hcf) s hs hne w1
    rw [Cf.raw_cf] at q
    refine q.mono ?_
    rintro e w' ⟨g, vX, rfl, hg, hP, hO, hb⟩
    obtain ⟨aX, cX, rfl, _, _, _⟩ := own_read hO
    have el : (exsOf (recs (ls s))).length = (recs (ls s)).length := by simp [exsOf]
    refine ⟨g, rfl, hg, ⟨aX, cX, w1.heap.size, ?_, ?_⟩, hb⟩
    · rw [el]; exact hP
    · rw [el]; exact hO
  have H2 : Hid (∀ w1, Calls Tryz.prog 7 #[.agg cf.raw.cells.toArray, .string s] w1 fun e w' => ∃ g, e = .returned (.tuple #[.pointer (some ⟨g, 0, none⟩), .int .i64 0]) ∧ w1.heap.size ≤ g ∧ RefIs w' g cf s (recs (ls s)) St.zero ∧ Below w1.heap.size w1 w') := fun w1 => by
    have q := refNew_ok cf.raw (Cf.raw_wf hcf) (Cf.raw_ok hcf) s hs hne w1
    rw [Cf.raw_cf] at q
    refine q.mono ?_
    rintro e w' ⟨g, vR, rfl, hg, hP, hO, hb⟩
    obtain ⟨aX, cX, rfl, _, _, _⟩ := own_read hO
    exact ⟨g, rfl, hg, ⟨aX, cX, w1.heap.size, hP, hO⟩, hb⟩
  have HOk : Hid (∀ gx gy, PD.Ok ⟨gx, gy, cf, s, recs (ls s), St.zero⟩) := fun gx gy => ⟨hcf, St.zero_ok, chain_ok (chain_recs _), hne, by
    have e : (ls s).length = s.size := by simp [ls]
    have := recs_len (ls s)
    show (recs (ls s)).length ≤ 600
    omega, hs, rfl⟩
  have HJ : Hid (∀ w1 gx gy, WAt w1 gW base Ps EI EW → RunIs w1 gx cf (markB cf s) (exsOf (recs (ls s))) St.zero → RefIs w1 gy cf s (recs (ls s)) St.zero → w.heap.size ≤ gx → w.heap.size ≤ gy → Calls Tryz.prog 8 #[.pointer (some ⟨gW, 0, none⟩), .pointer (some ⟨gx, 0, none⟩), .pointer (some ⟨gy, 0, none⟩), .agg cf.raw.cells.toArray, .string s] w1 fun e w' => e = .returned (.bool true) ∧ (∃ Q : List PD, Q.length ≤ Ps.length + 1 ∧ WAt w' gW base Q EI EW) ∧ Below gW w1 w') := fun w1 gx gy q1 q2 q3 q4 q5 => by
    have hbw := h.bw
    refine (joins_some q1 h6 ⟨gx, gy, cf, s, recs (ls s), St.zero⟩ ⟨q2, q3⟩ (HOk.out gx gy) (Nat.le_trans hbw q4) (Nat.le_trans hbw q5) (fun p hp => ?_)).mono ?_
    · have := (h.ps p hp).1
      have l1 := this.1.lt
      obtain ⟨_, _, _, l2, _⟩ := this.2
      have l2 := CellsAt.lt l2
      show p.gx ≠ gx ∧ p.gy ≠ gy
      omega
    · rintro e w' ⟨rfl, a, b⟩
      exact ⟨rfl, ⟨_, by simp, a⟩, b⟩
  have H : Hid (WAt w gW base Ps EI EW) := h
  have hgb := h.gb
  have hbw := h.bw
  clear h hcf hs hne HOk
  obtain ⟨sd, bt, ra, mo, de⟩ := cf
  simp only [Raw.cells, Cf.raw] at H1 H2 HJ ⊢
  obtain ⟨w0, Hw0⟩ : ∃ w0, Hid (w.alloc (.cells #[.int .u64 sd, .int .u8 bt, .int .i32 ra, .int .i32 mo, .int .u8 de] 24) = w0) := ⟨_, (rfl : _ = _)⟩
  have HB0 : Hid (Below w.heap.size w w0) := by rw [← Hw0.out]; exact (Below.refl _ _).alloc (Nat.le_refl _) _
  have HC0 : Hid (CellsAt w0 w.heap.size 24 [.int .u64 sd, .int .u8 bt, .int .i32 ra, .int .i32 mo, .int .u8 de]) := by rw [← Hw0.out]; exact CellsAt.new w _ _ _ rfl rfl
  have hsz0 := HB0.out.size
  have K0 : Hid (WAt w0 gW base Ps EI EW ∧ Below gW w w0) := ⟨H.out.later HB0.out, Below.mono HB0.out (by omega)⟩
  have lC0 := CellsAt.lt HC0.out
  have c0 := CellsAt.cell HC0.out 0
  have c1 := CellsAt.cell HC0.out 1
  have c2 := CellsAt.cell HC0.out 2
  have c3 := CellsAt.cell HC0.out 3
  have c4 := CellsAt.cell HC0.out 4
  simp only [List.getElem?_cons_zero, List.getElem?_cons_succ] at c0 c1 c2 c3 c4
  clear HB0 H
  go_enter Tryz.func4, Tryz.ntmps4
  go_wp2_with fail
  rw [Hw0.out]
  refine (H1.out _).mono ?_
  rintro e w2 ⟨gx, rfl, hgx, hX, hb2⟩
  have HX : Hid (RunIs w2 gx _ _ (exsOf (recs (ls s))) St.zero) := hX
  have hsz2 := hb2.size
  have K2 : Hid (WAt w2 gW base Ps EI EW ∧ Below gW w w2) := by
    have := K0.out.1.bw
    exact ⟨K0.out.1.later hb2, K0.out.2.trans (Below.mono hb2 (by omega))⟩
  have HC2 := HC0.out.later hb2
  clear hb2 K0 c0 c1 c2 c3 c4 lC0 HC0 hX
  have lC2 := CellsAt.lt HC2
  have c0 := CellsAt.cell HC2 0
  have c1 := CellsAt.cell HC2 1
  have c2 := CellsAt.cell HC2 2
  have c3 := CellsAt.cell HC2 3
  have c4 := CellsAt.cell HC2 4
  simp only [List.getElem?_cons_zero, List.getElem?_cons_succ] at c0 c1 c2 c3 c4
  have HC2' : Hid _ := HC2
  clear HC2
  go_wp2_with fail
  refine (H2.out _).mono ?_
  rintro e w3 ⟨gy, rfl, hgy, hY, hb3⟩
  have HX3 : Hid (RunIs w3 gx _ _ (exsOf (recs (ls s))) St.zero) := HX.out.later hb3
  have HY : Hid (RefIs w3 gy _ s (recs (ls s)) St.zero) := hY
  have K3 : Hid (WAt w3 gW base Ps EI EW ∧ Below gW w w3) := by
    have := K2.out.1.bw
    exact ⟨K2.out.1.later hb3, K2.out.2.trans (Below.mono hb3 (by omega))⟩
  have HC3 := CellsAt.later HC2'.out hb3
  clear hb3 K2 c0 c1 c2 c3 c4 lC2 HC2' HX hY
  have lC3 := CellsAt.lt HC3
  have c0 := CellsAt.cell HC3 0
  have c1 := CellsAt.cell HC3 1
  have c2 := CellsAt.cell HC3 2
  have c3 := CellsAt.cell HC3 3
  have c4 := CellsAt.cell HC3 4
  simp only [List.getElem?_cons_zero, List.getElem?_cons_succ] at c0 c1 c2 c3 c4
  clear HC3
  go_wp2_with fail
  refine (HJ.out _ gx gy K3.out.1 HX3.out HY.out (by omega) (by omega)).mono ?_
  rintro e w4 ⟨rfl, hQ, hb4⟩
  have K4 : Hid ((∃ Q : List PD, Q.length ≤ Ps.length + 1 ∧ WAt w4 gW base Q EI EW) ∧ Below gW w w4) := ⟨hQ, K3.out.2.trans hb4⟩
  clear hb4 K3 c0 c1 c2 c3 c4 hQ
  go_wp2
  go_ret
  obtain ⟨⟨Q, q1, q2⟩, q3⟩ := K4.out
  exact ⟨rfl, Q, q1, q2, q3⟩

theorem begins_any {w : World} {gW base : Nat} {Ps : List PD} {EI EW : List Ent} (h : WAt w gW base Ps EI EW) (h6 : Ps.length < 6) (r : Raw) (hw : r.Wf) (s : ByteArray) (hm : s.size ≤ maxLen) :
    Calls Tryz.prog 4 #[.pointer (some ⟨gW, 0, none⟩), .agg r.cells.toArray, .string s] w fun e w' => e = .returned (.bool true) ∧ ∃ Q : List PD, Q.length ≤ Ps.length + 1 ∧ WAt w' gW base Q EI EW ∧ Below gW w w' := by
  by_cases hs : s.size ≤ 600
  · by_cases hr : r.ok = true
    · by_cases hn : 0 < (recs (ls s)).length
      · have q := begins_ok h h6 r.cf (Raw.cf_ok hr hw) s hs hn
        rw [Raw.cf_raw hr] at q
        exact q
      · exact begins_none h r s 5 (progNew_empty r hr s hs (by omega)) (refNew_empty r hr s hs (by omega))
    · have hr' : r.ok = false := by simpa using hr
      exact begins_none h r s 4 (progNew_bad r hr' s hs) (refNew_bad r hr' s hs)
  · exact begins_none h r s 2 (progNew_long r s (by omega) hm) (fun w1 => refNew_long r.cells (by simp [Raw.cells, Value.oneCell']) s (by omega) hm w1 r rfl)
end Go.Proofs.YtfpodnleimhohabGreatDoor

/-
  WALKS: Runs.
-/
namespace Go.Proofs.YtfpodnleimhohabGreatDoor
open Go.RowKit
set_option linter.unusedVariables false

theorem world_new (w : World) (hL : LowAt w) (w1 : World) (hw1 : w1 = w.alloc (.cells #[.slice none 0 0, .slice none 0 0, .slice none 0 0, .slice none 0 0, .slice none 0 0] 35)) : WAt w1 w.heap.size (w.heap.size + 1) [] [] [] := by
  have hb : Below w.heap.size w w1 := by rw [hw1]; exact (Below.refl _ _).alloc (Nat.le_refl _) _
  have hc : CellsAt w1 w.heap.size 35 [.slice none 0 0, .slice none 0 0, .slice none 0 0, .slice none 0 0, .slice none 0 0] := by rw [hw1]; exact CellsAt.new w _ _ _ rfl rfl
  have hp := hL.pos
  refine ⟨?_, ⟨_, hc⟩, ⟨none, 0, hc.cell 0, World.ownsRow_nil _ _ _ _⟩, ⟨none, 0, none, 0, ⟨hc.cell 1, hc.cell 2, hc.cell 3, hc.cell 4, hc.frozen 1, hc.frozen 2, hc.frozen 3, hc.frozen 4⟩, World.ownsRow_nil _ _ _ _, World.ownsRow_nil _ _ _ _⟩, by simp, by simp, by simp, List.Pairwise.nil, hp, by omega, hc.lt⟩
  intro i hi
  exact (hb.cell (p := ⟨0, i, none⟩) hp).trans (hL i hi)

end Go.Proofs.YtfpodnleimhohabGreatDoor
