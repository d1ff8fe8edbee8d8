import Derived.Test.YtfpodnleimhohabGreatDoorGK
import Derived.Test.YtfpodnleimhohabGreatDoorGO
import Derived.Test.YtfpodnleimhohabGreatDoorGen
import Derived.Maps.AppendAt
import Derived.Test.YtfpodnleimhohabGreatDoorGS
import Derived.Test.YtfpodnleimhohabGreatDoorWalks9
import Derived.Test.YtfpodnleimhohabGreatDoorMath3
import Derived.Test.YtfpodnleimhohabGreatDoorWalksBD
/-
  WALKS: steps of a run, one after the other.
-/
namespace Go.Proofs.YtfpodnleimhohabGreatDoor
open Go.RowKit
set_option linter.unusedVariables false
variable {mk : ByteArray}

/-- A run so many steps later. -/
def itN (c : Cf) (X : List Ex) (s : St) : Nat → St
  | 0 => s
  | k + 1 => stepN c X (itN c X s k)
theorem itN_steps (c : Cf) (X : List Ex) (s : St) (k : Nat) : (itN c X s k).steps = s.steps + k := by
  induction k with
  | zero => rfl
  | succ k ih => show (itN c X s k).steps + 1 = _; rw [ih]; omega
theorem itN_ok (c : Cf) (X : List Ex) (s : St) (hs : s.Ok) (k : Nat) (hk : s.steps + k ≤ 400) : (itN c X s k).Ok := by
  cases k with
  | zero => exact hs
  | succ k => exact stepN_ok c X _ (by rw [itN_steps]; omega)
theorem itN_zero (c : Cf) (X : List Ex) (k : Nat) : itN c X St.zero k = runN c X k := by
  induction k with
  | zero => rfl
  | succ k ih => show stepN c X _ = stepN c X _; rw [ih]
/-- How many rows miss, step by step. -/
def missL (c : Cf) (X : List Ex) (s : St) (n : Nat) : List Nat := (List.range n).map fun i => missedN c X (itN c X s i) 0 c.batch
theorem missL_snoc (c : Cf) (X : List Ex) (s : St) (n : Nat) : missL c X s (n + 1) = missL c X s n ++ [missedN c X (itN c X s n) 0 c.batch] := by
  unfold missL
  rw [List.range_succ, List.map_append]; rfl
/-- By how many workers step i goes. -/
def byN (lw : Nat) (N : Nat → Int) (i : Nat) : Nat := if lw = 0 then 1 else 1 + pickN (N (i % lw)) 8
theorem byN_ok (lw : Nat) (N : Nat → Int) (i : Nat) : 1 ≤ byN lw N i ∧ byN lw N i ≤ 8 := by
  unfold byN
  split
  · omega
  · have := pickN_lt (N (i % lw)) (n := 8) (by decide)
    omega
theorem workTo_get (cf : Cf) (X : List Ex) (st : St) (W i j : Nat) (h : j < i) : (workTo cf X st W i)[j]? = some (workN cf X st W j) := by
  unfold workTo
  rw [List.getElem?_map, List.getElem?_range h]; rfl
theorem sumNat_le (f : Nat → Nat) (m : Nat) (h : ∀ i, f i ≤ m) : ∀ k, sumNat f k ≤ k * m := by
  intro k
  induction k with
  | zero => simp [sumNat]
  | succ k ih => simp only [sumNat]; have := h k; rw [Nat.succ_mul]; omega

end Go.Proofs.YtfpodnleimhohabGreatDoor

/-
  WALKS: the program's Status, Weights.
-/
namespace Go.Proofs.YtfpodnleimhohabGreatDoor
open Go.RowKit
set_option linter.unusedVariables false
variable {mk : ByteArray}

set_option maxRecDepth 100000 in
set_option maxHeartbeats 1000000 in
theorem progStatus_any (g : Nat) (cf : Cf) (hcf : cf.Ok) (a : Option Addr) (n cap : Nat) (hn1 : 1 ≤ n) (hn2 : n ≤ 65536) (st : St) (hst : st.Ok) (w : World) (hR : ProgRun w g cf mk (.slice a n cap) st) :
    Calls Tryz.prog 51 #[.pointer (some ⟨g, 0, none⟩)] w fun e w' => e = .returned (.agg (statusAns cf n st).toArray) ∧ Below w.heap.size w w' := by
  have hgl := CellsAt.lt hR
  have d6 := (CellsAt.cell hR 7).trans (pr_head cf (.slice a n cap) st (by decide))
  simp only [prHead, List.getElem?_cons_zero, List.getElem?_cons_succ] at d6
  have hmul : st.steps * cf.batch ≤ 400 * 8 := Nat.mul_le_mul hst.steps hcf.batch8
  have HR : Hid (ProgRun w g cf mk (.slice a n cap) st) := hR
  clear hR
  obtain ⟨j, Hj⟩ : ∃ j, Hid (st.steps * cf.batch = j) := ⟨_, (rfl : _ = _)⟩
  obtain ⟨q, Hq⟩ : ∃ q, Hid (j / n = q) := ⟨_, (rfl : _ = _)⟩
  obtain ⟨r, Hr⟩ : ∃ r, Hid (j % n = r) := ⟨_, (rfl : _ = _)⟩
  have HA : Hid (statusAns cf n st = [.int .i64 st.steps, .int .i64 q, .int .i64 r]) := by show _ = _; unfold statusAns; rw [Hj.out, Hq.out, Hr.out]
  obtain ⟨sp, Hsp⟩ : ∃ sp, Hid (st.steps = sp) := ⟨_, (rfl : _ = _)⟩
  rw [Hsp.out] at HA d6
  rw [HA.out]
  rw [Hj.out] at hmul
  go_enter Tryz.func51, Tryz.ntmps51
  go_wp2_with fail
  obtain ⟨w1, Hw1⟩ : ∃ w1, Hid (w.alloc (.cells #[.int .i64 0, .int .i64 0, .int .i64 0] 133) = w1) := ⟨_, (rfl : _ = _)⟩
  have HB : Hid (Below w.heap.size w w1) := by rw [← Hw1.out]; exact (Below.refl _ _).alloc (Nat.le_refl _) _
  have HC : Hid (CellsAt w1 w.heap.size 133 [.int .i64 0, .int .i64 0, .int .i64 0]) := by rw [← Hw1.out]; exact CellsAt.new w _ _ _ rfl rfl
  rw [Hw1.out]
  clear Hw1
  refine (nextDraw_any g cf hcf _ st hst _ (CellsAt.kept HR.out HB.out hgl)).mono ?_
  rintro e w2 ⟨rfl, n2, rfl⟩
  rw [Hj.out]
  go_wp2_with fail
  refine (epochAndRow_any g cf a n cap hn1 hn2 st j (by omega) _ (show ProgRun (w1.drewN n2) g cf mk (.slice a n cap) st from CellsAt.kept HR.out (below_drewN HB.out n2) hgl)).mono ?_
  rintro e w3 ⟨rfl, n3, rfl⟩
  rw [Hq.out, Hr.out]
  have HC3 : Hid (CellsAt ((w1.drewN n2).drewN n3) w.heap.size 133 [.int .i64 0, .int .i64 0, .int .i64 0]) := HC.out
  have HB3 : Hid (Below w.heap.size w ((w1.drewN n2).drewN n3)) := below_drewN (below_drewN HB.out n2) n3
  have e6 := (HB3.out.cell (p := ⟨g, 7, none⟩) hgl).trans d6
  generalize (w1.drewN n2).drewN n3 = w3 at *
  have HTh : Hid (w3.there w.heap.size 0 3) := CellsAt.there HC3.out
  have c0 := CellsAt.cell HC3.out 0
  have c1 := CellsAt.cell HC3.out 1
  have c2 := CellsAt.cell HC3.out 2
  simp only [List.getElem?_cons_zero, List.getElem?_cons_succ] at c0 c1 c2
  have f0 := CellsAt.frozen HC3.out 0
  have f1 := CellsAt.frozen HC3.out 1
  have f2 := CellsAt.frozen HC3.out 2
  have HF : Hid (CellsAt (((w3.setCell ⟨w.heap.size, 0, none⟩ (.int .i64 sp)).setCell ⟨w.heap.size, 1, none⟩ (.int .i64 q)).setCell ⟨w.heap.size, 2, none⟩ (.int .i64 r)) w.heap.size 133 [.int .i64 sp, .int .i64 q, .int .i64 r]) :=
    CellsAt.set (CellsAt.set (CellsAt.set HC3.out 0 (.int .i64 sp)) 1 (.int .i64 q)) 2 (.int .i64 r)
  have HB2 : Hid (Below w.heap.size w (((w3.setCell ⟨w.heap.size, 0, none⟩ (.int .i64 sp)).setCell ⟨w.heap.size, 1, none⟩ (.int .i64 q)).setCell ⟨w.heap.size, 2, none⟩ (.int .i64 r))) :=
    ((HB3.out.setCell (p := ⟨w.heap.size, 0, none⟩) (Nat.le_refl _) _).setCell (p := ⟨w.heap.size, 1, none⟩) (Nat.le_refl _) _).setCell (p := ⟨w.heap.size, 2, none⟩) (Nat.le_refl _) _
  go_wp2
  generalize ((w3.setCell ⟨w.heap.size, 0, none⟩ (.int .i64 sp)).setCell ⟨w.heap.size, 1, none⟩ (.int .i64 q)).setCell ⟨w.heap.size, 2, none⟩ (.int .i64 r) = w5 at *
  have hld := run_loadVar_mid (P := Tryz.prog) w5 w.heap.size 0 133 [.int .i64 sp, .int .i64 q, .int .i64 r] _ (CellsAt.range HF.out) Tryz.underlying133 rfl (by kernel_rfl)
  refine bodyPost_ret (v := .agg #[.int .i64 sp, .int .i64 q, .int .i64 r]) ?_ rfl ⟨rfl, HB2.out⟩
  simp [results, Tryz.results51, asAddr, hld]

set_option maxRecDepth 100000 in
set_option maxHeartbeats 1000000 in
theorem progWeights_any (g : Nat) (cf : Cf) (lv : Value) (st : St) (hst : st.Ok) (c : Nat) (hc : c < 4) (w : World) (hR : ProgRun w g cf mk lv st) :
    Calls Tryz.prog 56 #[.pointer (some ⟨g, 0, none⟩), .int .i64 c] w fun e w' => ∃ v, e = .returned (.tuple #[v, .int .i64 0]) ∧ w'.ownsRow w.heap.size 21 1 v 32 (wCells (st.w c) 32) ∧ Below w.heap.size w w' := by
  obtain ⟨i0, hi, hz0, hz1, hz2⟩ := info_parts info_i32
  obtain ⟨rc, Hrc⟩ : ∃ rc, Hid (tabw 32 (st.w c) = rc) := ⟨_, (rfl : _ = _)⟩
  have HRg : Hid (w.rangeAt g (8 + c * 32) rc) := by
    intro j v hv
    rw [← Hrc.out] at hv
    have hj : j < 32 := by
      have := (List.getElem?_eq_some_iff.1 hv).1
      rwa [tabw_length] at this
    rw [tabw_get _ hj] at hv
    rw [CellsAt.cell hR, show 8 + c * 32 + j = (prHead cf mk lv st.steps).length + c * 32 + j from rfl, lrn_w st hc hj]
    exact hv
  have HrI : Hid ((Tryz.prog.info? 60).map (·.size) = some rc.length) := by show _ = _; rw [← Hrc.out, tabw_length]; exact info_w32
  clear hR
  go_enter Tryz.func56, Tryz.ntmps56
  go_wp2_with (refine wpList_load_mid rfl 60 (.tmp 20) rfl _ _ rfl rc _ HRg.out Tryz.underlying60 rfl HrI.out ?_)
  go_loopw [6, 22] (fun v bv wr => ∃ b : Nat, b ≤ 32 ∧ bv = .int .i64 b ∧ wr.ownsRow w.heap.size 21 1 v b (wCells (st.w c) b) ∧ Below w.heap.size w wr) (fun _ b _ => 32 - (intOf b).toNat)
  case atStart => exact ⟨0, by omega, rfl, World.ownsRow_nil _ _ _ _, Below.refl _ _⟩
  case round =>
    obtain ⟨b, hb, rfl, hown, hbel⟩ := hrel
    by_cases hlt : b < 32
    · have HV : Hid (rc.toArray[b]? = some (.int .i32 (st.w c b))) := by show _ = _; simp only [List.getElem?_toArray]; rw [← Hrc.out]; exact tabw_get _ hlt
      have hb4 := hst.w c b hc hlt
      have HS : Hid _ := wCells_snoc (st.w c) b
      generalize st.w c b = z at *
      have hzs := hbel.size
      go_wp2_with (first
        | (refine wpList_index_one rfl 60 (.tmp 21) (.tmp 22) rfl 21 32 _ b _ rfl rfl Tryz.underlying60 _ Tryz.underlying21 rfl info_w1 hlt HV.out ?_)
        | (at_builtin; refine wpList_append_own _ rfl (.tmp 25) (.tmp 27) 85 rfl w.heap.size 21 i0 (.int .i32 0) 1 4 Tryz.underlying85 hi hz0 hz1 hz2 rfl (by decide) _ _ _ rfl (hown.alloc _) ⟨wr.heap.size, 0, none⟩ 1 1 [.int .i32 z] rfl rfl (news_at _ _ rfl _ _ _ rfl) (oneCell_nums _ rfl) (by unfold maxLen; omega) (by omega) (by simp; omega) ?_; intro v' w3 ho3 hgr hxx; clear hxx))
      go_roundw
      case rel => exact ⟨b + 1, by omega, by go_num, by rw [HS.out]; exact ho3, (hbel.alloc hzs _).grown hgr (by simp; omega) (fun j hj => (hown.lt j hj).1)⟩
      case measure => simp [intOf]; omega
    · obtain rfl : b = 32 := by omega
      go_wp2
      go_ret2
      exact ⟨_, rfl, hown, hbel⟩
set_option maxRecDepth 100000 in
theorem progWeights_bad (g : Nat) (c : Int) (hc : ¬ (0 ≤ c ∧ c < 4)) (w : World) :
    Calls Tryz.prog 56 #[.pointer (some ⟨g, 0, none⟩), .int .i64 c] w fun e w' => e = .returned (.tuple #[.slice none 0 0, .int .i64 1]) ∧ w' = w := by
  go_enter Tryz.func56, Tryz.ntmps56
  by_cases h : c < 0
  · go_wp2
    go_ret2
    exact ⟨rfl, rfl⟩
  · go_wp2
    go_ret2
    exact ⟨rfl, rfl⟩
end Go.Proofs.YtfpodnleimhohabGreatDoor

/-
  WALKS: two lists of numbers, of weights held against each other.
-/
namespace Go.Proofs.YtfpodnleimhohabGreatDoor
open Go.RowKit
set_option linter.unusedVariables false

theorem wCells_get {n i : Nat} (f : Nat → Int) (h : i < n) : (wCells f n)[i]? = some (.int .i32 (f i)) := by
  unfold wCells
  rw [List.getElem?_map, List.getElem?_range h]; rfl
theorem intCells_tab (l : List Nat) : intCells l = tab l.length (fun i => ((l.getD i 0 : Nat) : Int)) := by
  apply List.ext_getElem?
  intro i
  by_cases h : i < l.length
  · rw [tab_get _ h, intCells_get (List.getElem?_eq_getElem h), List.getD_eq_getElem?_getD, List.getElem?_eq_getElem h]; rfl
  · rw [List.getElem?_eq_none (by simp [intCells]; omega), List.getElem?_eq_none (by rw [tab_length]; omega)]
set_option maxRecDepth 100000 in
set_option maxHeartbeats 2000000 in
theorem lawInts_any (bA bB : Nat) (vA vB : Value) (f : Nat → Int) (n : Nat) (w : World) (hA : w.ownsRow bA 3 1 vA n (tab n f)) (hB : w.ownsRow bB 3 1 vB n (tab n f)) (hn : n ≤ 100000) :
    Calls Tryz.prog 20 #[vA, vB] w fun e w' => e = .returned (.bool true) ∧ ∃ n, w' = w.drewN n := by
  obtain ⟨aA, cA, rfl, hA1, hA2, HAd⟩ := own_read hA
  obtain ⟨aB, cB, rfl, hB1, hB2, HBd⟩ := own_read hB
  unfold maxLen at hA2 hB2
  have HA : Hid _ := HAd
  have HB : Hid _ := HBd
  clear HAd HBd hA hB
  go_enter Tryz.func20, Tryz.ntmps20
  go_wp2
  go_loopw [5] (fun i wr => ∃ k nq : Nat, k ≤ n ∧ i = .int .i64 k ∧ wr = w.drewN nq) (fun i _ => n - (intOf i).toNat)
  case atStart => exact ⟨0, 0, by omega, rfl, rfl⟩
  case round =>
    obtain ⟨k, nq, hk, rfl, rfl⟩ := hrel
    by_cases hlt : k < n
    · obtain ⟨gA, rfl, _, _, hgA⟩ := HA.out (by omega)
      obtain ⟨gB, rfl, _, _, hgB⟩ := HB.out (by omega)
      have q0 : (tab n f)[k]? = some (.int .i64 (f k)) := tab_get f hlt
      have a0 := (hgA k (by omega)).trans q0
      have b0 := (hgB k (by omega)).trans q0
      clear hgA hgB q0
      generalize f k = x0 at *
      have hki : (k : Int) < (n : Int) := by omega
      go_wp2
      go_quiet (fail)
      go_wp2
      go_roundw
      case rel => exact ⟨k + 1, _, by omega, by go_num, rfl⟩
      case measure => simp [intOf]; omega
    · go_wp2
      go_ret
      exact ⟨rfl, _, rfl⟩
set_option maxRecDepth 100000 in
set_option maxHeartbeats 2000000 in
theorem lawWeights_any (bA bB : Nat) (vA vB : Value) (f : Nat → Int) (n : Nat) (w : World) (hA : w.ownsRow bA 21 1 vA n (wCells f n)) (hB : w.ownsRow bB 21 1 vB n (wCells f n)) (hn : n ≤ 100000) :
    Calls Tryz.prog 58 #[vA, vB] w fun e w' => e = .returned (.bool true) ∧ ∃ n, w' = w.drewN n := by
  obtain ⟨aA, cA, rfl, hA1, hA2, HAd⟩ := own_read hA
  obtain ⟨aB, cB, rfl, hB1, hB2, HBd⟩ := own_read hB
  unfold maxLen at hA2 hB2
  have HA : Hid _ := HAd
  have HB : Hid _ := HBd
  clear HAd HBd hA hB
  go_enter Tryz.func58, Tryz.ntmps58
  go_wp2
  go_loopw [5] (fun i wr => ∃ k nq : Nat, k ≤ n ∧ i = .int .i64 k ∧ wr = w.drewN nq) (fun i _ => n - (intOf i).toNat)
  case atStart => exact ⟨0, 0, by omega, rfl, rfl⟩
  case round =>
    obtain ⟨k, nq, hk, rfl, rfl⟩ := hrel
    by_cases hlt : k < n
    · obtain ⟨gA, rfl, _, _, hgA⟩ := HA.out (by omega)
      obtain ⟨gB, rfl, _, _, hgB⟩ := HB.out (by omega)
      have q0 : (wCells f n)[k]? = some (.int .i32 (f k)) := wCells_get f hlt
      have a0 := (hgA k (by omega)).trans q0
      have b0 := (hgB k (by omega)).trans q0
      clear hgA hgB q0
      generalize f k = x0 at *
      have hki : (k : Int) < (n : Int) := by omega
      go_wp2
      go_quiet (fail)
      go_wp2
      go_roundw
      case rel => exact ⟨k + 1, _, by omega, by go_num, rfl⟩
      case measure => simp [intOf]; omega
    · go_wp2
      go_ret
      exact ⟨rfl, _, rfl⟩
end Go.Proofs.YtfpodnleimhohabGreatDoor

/-
  WALKS: the weights of all classes; two runs that stand together.
-/
namespace Go.Proofs.YtfpodnleimhohabGreatDoor
open Go.RowKit
set_option linter.unusedVariables false
variable {mk : ByteArray}

/-- All weights, one class behind the other: the first k. -/
def wAll (t : Tab) (k : Nat) : List Value := wCells (flat t) k
theorem wAll_snoc (t : Tab) (c b : Nat) (hb : b < 32) : wAll t (c * 32 + b + 1) = wAll t (c * 32 + b) ++ [.int .i32 (t c b)] := by
  unfold wAll
  rw [wCells_snoc, flat_at _ hb]

end Go.Proofs.YtfpodnleimhohabGreatDoor

/-
  WALKS: the program's New.
-/
namespace Go.Proofs.YtfpodnleimhohabGreatDoor
open Go.RowKit
set_option linter.unusedVariables false
variable {mk : ByteArray}

/-- The cells of a run that begins. -/
theorem zero_prun : Tryz.zeroCells67 = (prHead ⟨0, 0, 0, 0, 0⟩ (bs []) (.slice none 0 0) 0 ++ (lrnCells St.zero ++ [])).toArray := by kernel_rfl
theorem prun_new (cf : Cf) (lv : Value) :
    (((((((Tryz.zeroCells67.setIfInBounds 0 (.int .u64 cf.seed)).setIfInBounds 1 (.int .u8 cf.batch)).setIfInBounds 2 (.int .i32 cf.rate)).setIfInBounds 3 (.int .i32 cf.mom)).setIfInBounds 4 (.int .u8 cf.decay)).setIfInBounds 5 (.string mk)).setIfInBounds 6 lv) = (prHead cf mk lv St.zero.steps ++ (lrnCells St.zero ++ [])).toArray := by
  rw [zero_prun, set_left _ (by simp [prHead]), set_left _ (by simp [prHead]), set_left _ (by simp [prHead]), set_left _ (by simp [prHead]), set_left _ (by simp [prHead]), set_left _ (by simp [prHead]), set_left _ (by simp [prHead])]
  rfl

set_option maxRecDepth 100000 in
set_option maxHeartbeats 2000000 in
theorem progNew_ok (r : Raw) (hw : r.Wf) (hr : r.ok = true) (s : ByteArray) (hs : s.size ≤ 600) (hne : 0 < (recs (ls s)).length) (w : World) :
    Calls Tryz.prog 6 #[.agg r.cells.toArray, .string s] w fun e w' => ∃ g vX, e = .returned (.tuple #[.pointer (some ⟨g, 0, none⟩), .int .i64 0]) ∧ w.heap.size ≤ g ∧ ProgRun w' g r.cf (markB r.cf s) vX St.zero ∧ w'.ownsRow w.heap.size 97 2 vX (recs (ls s)).length (exNsCells (exsOf (recs (ls s)))) ∧ Below w.heap.size w w' := by
  have HIn : Hid (∀ w1, Calls Tryz.prog 13 #[.agg r.cells.toArray] w1 fun e w' => e = .returned (.bool true) ∧ Below w1.heap.size w1 w') := fun w1 => by
    have h := inBounds_any r w1
    rw [hr] at h
    exact h
  have HMk : Hid (∀ w1, _) := fun w1 => progMark_any r.cf (Raw.cf_ok hr hw) s hs w1
  obtain ⟨sd, bt, ra, mo, de⟩ := r
  simp only [Raw.ok, decide_eq_true_eq] at hr
  obtain ⟨h1, h2, h3, h4, h5, h6, h7⟩ := hr
  obtain ⟨ra', rfl⟩ := Int.eq_ofNat_of_zero_le h3
  obtain ⟨mo', rfl⟩ := Int.eq_ofNat_of_zero_le h5
  have hl6 : (recs (ls s)).length ≤ 600 := by have := recs_len (ls s); rw [ls_length] at this; omega
  obtain ⟨R, HR0⟩ : ∃ R, Hid (recs (ls s) = R) := ⟨_, (rfl : _ = _)⟩
  rw [HR0.out] at hne hl6 ⊢
  have hn0 : ((R.length : Int) == 0) = false := beq_eq_false_iff_ne.2 (by omega)
  clear hw h4 h6
  have HCf : Hid (Raw.cf ⟨sd, bt, (ra' : Int), (mo' : Int), de⟩ = ⟨sd, bt, ra', mo', de⟩) := rfl
  rw [HCf.out] at HMk ⊢
  obtain ⟨mk, Hmk⟩ : ∃ mk, Hid (markB ⟨sd, bt, ra', mo', de⟩ s = mk) := ⟨_, (rfl : _ = _)⟩
  rw [Hmk.out] at HMk ⊢
  show Calls Tryz.prog 6 #[.agg #[.int .u64 sd, .int .u8 bt, .int .i32 ra', .int .i32 mo', .int .u8 de], .string s] w _
  go_enter Tryz.func6, Tryz.ntmps6
  go_wp2_with fail
  obtain ⟨w0, Hw0⟩ : ∃ w0, Hid (w.alloc (.cells #[.int .u64 sd, .int .u8 bt, .int .i32 ra', .int .i32 mo', .int .u8 de] 24) = w0) := ⟨_, (rfl : _ = _)⟩
  rw [Hw0.out]
  have HB0 : Hid (Below w.heap.size w w0) := by rw [← Hw0.out]; exact (Below.refl _ _).alloc (Nat.le_refl _) _
  have HC0 : Hid (CellsAt w0 w.heap.size 24 [.int .u64 sd, .int .u8 bt, .int .i32 ra', .int .i32 mo', .int .u8 de]) := by rw [← Hw0.out]; exact CellsAt.new w _ _ _ rfl rfl
  clear Hw0
  refine (recScan_any s hs _).mono ?_
  rintro e w1 ⟨vR, vG, rfl, hR, hG, hb1⟩
  rw [HR0.out] at hR
  have HR : Hid (w1.ownsRow w0.heap.size 99 4 vR R.length (recsCells R)) := hR
  obtain ⟨aR, cR, rfl, hc1, hc2, _⟩ := own_read hR
  obtain ⟨aG, cG, rfl, hd1, hd2, _⟩ := own_read hG
  unfold maxLen at hc2 hd2
  have HB1 : Hid (Below w.heap.size w w1) := HB0.out.trans (hb1.mono HB0.out.size)
  have HC1 : Hid (CellsAt w1 w.heap.size 24 [.int .u64 sd, .int .u8 bt, .int .i32 ra', .int .i32 mo', .int .u8 de]) := CellsAt.later HC0.out hb1
  have hsz := HB0.out.size
  clear hR hG hb1 HB0 HC0
  generalize (gaps (ls s)).length = m at *
  have c0 := CellsAt.cell HC1.out 0
  have c1 := CellsAt.cell HC1.out 1
  have c2 := CellsAt.cell HC1.out 2
  have c3 := CellsAt.cell HC1.out 3
  have c4 := CellsAt.cell HC1.out 4
  simp only [List.getElem?_cons_zero, List.getElem?_cons_succ] at c0 c1 c2 c3 c4
  go_wp2_with fail
  refine (HIn.out _).mono ?_
  rintro e w2 ⟨rfl, hb2⟩
  have HB2 : Hid (Below w.heap.size w w2) := HB1.out.trans (hb2.mono HB1.out.size)
  have HR2 : Hid (w2.ownsRow w0.heap.size 99 4 (.slice aR R.length cR) R.length (recsCells R)) := ownsRow_below HR.out hb2
  have HC2 : Hid (CellsAt w2 w.heap.size 24 [.int .u64 sd, .int .u8 bt, .int .i32 ra', .int .i32 mo', .int .u8 de]) := CellsAt.later HC1.out hb2
  clear hb2 HB1 HR HC1 c0 c1 c2 c3 c4
  have c0 := CellsAt.cell HC2.out 0
  have c1 := CellsAt.cell HC2.out 1
  have c2 := CellsAt.cell HC2.out 2
  have c3 := CellsAt.cell HC2.out 3
  have c4 := CellsAt.cell HC2.out 4
  simp only [List.getElem?_cons_zero, List.getElem?_cons_succ] at c0 c1 c2 c3 c4
  go_wp2_with fail
  refine (HMk.out _).mono ?_
  rintro e w2' ⟨rfl, hb2'⟩
  have HB2' : Hid (Below w.heap.size w w2') := HB2.out.trans (hb2'.mono HB2.out.size)
  have HR2' : Hid (w2'.ownsRow w0.heap.size 99 4 (.slice aR R.length cR) R.length (recsCells R)) := ownsRow_below HR2.out hb2'
  have HC2' : Hid (CellsAt w2' w.heap.size 24 [.int .u64 sd, .int .u8 bt, .int .i32 ra', .int .i32 mo', .int .u8 de]) := CellsAt.later HC2.out hb2'
  clear hb2' HB2 HR2 HC2 c0 c1 c2 c3 c4
  go_wp2_with fail
  refine (examplesOf_any _ _ R hl6 _ HR2'.out).mono ?_
  rintro e w3 ⟨vX, rfl, hX, hb3⟩
  obtain ⟨aX, cX, rfl, hx1, hx2, hx3⟩ := own_read hX
  have HX : Hid (w3.ownsRow w2'.heap.size 97 2 (.slice aX R.length cX) R.length (exNsCells (exsOf R))) := hX
  have HB3 : Hid (Below w.heap.size w w3) := HB2'.out.trans (hb3.mono HB2'.out.size)
  have HC3 : Hid (CellsAt w3 w.heap.size 24 [.int .u64 sd, .int .u8 bt, .int .i32 ra', .int .i32 mo', .int .u8 de]) := CellsAt.later HC2'.out hb3
  have c0 := CellsAt.cell HC3.out 0
  have c1 := CellsAt.cell HC3.out 1
  have c2 := CellsAt.cell HC3.out 2
  have c3 := CellsAt.cell HC3.out 3
  have c4 := CellsAt.cell HC3.out 4
  simp only [List.getElem?_cons_zero, List.getElem?_cons_succ] at c0 c1 c2 c3 c4
  clear hX hb3 hx3
  go_wp2_with fail
  rw [prun_new ⟨sd, bt, ra', mo', de⟩ (.slice aX R.length cX)]
  clear c0 c1 c2 c3 c4
  generalize hcl : prHead ⟨sd, bt, ra', mo', de⟩ mk (.slice aX R.length cX) St.zero.steps ++ (lrnCells St.zero ++ []) = cells
  have Hcl : Hid (prHead ⟨sd, bt, ra', mo', de⟩ mk (.slice aX R.length cX) St.zero.steps ++ (lrnCells St.zero ++ []) = cells) := hcl
  clear hcl
  go_wp2
  go_ret2
  refine ⟨w3.heap.size, .slice aX R.length cX, rfl, HB3.out.size, ?_, ?_, HB3.out.alloc HB3.out.size _⟩
  · show CellsAt _ _ _ _
    rw [Hcl.out]
    exact CellsAt.new w3 _ _ _ rfl rfl
  · exact own_base (ownsRow_below HX.out ((Below.refl _ _).alloc (Nat.le_refl _) _)) HB2'.out.size

set_option maxRecDepth 100000 in
set_option maxHeartbeats 2000000 in
theorem progNew_bad (r : Raw) (hr : r.ok = false) (s : ByteArray) (hs : s.size ≤ 600) (w : World) :
    Calls Tryz.prog 6 #[.agg r.cells.toArray, .string s] w fun e w' => e = .returned (.tuple #[.pointer none, .int .i64 4]) ∧ Below w.heap.size w w' := by
  have HIn : Hid (∀ w1, Calls Tryz.prog 13 #[.agg r.cells.toArray] w1 fun e w' => e = .returned (.bool false) ∧ Below w1.heap.size w1 w') := fun w1 => by
    have h := inBounds_any r w1
    rw [hr] at h
    exact h
  obtain ⟨sd, bt, ra, mo, de⟩ := r
  show Calls Tryz.prog 6 #[.agg #[.int .u64 sd, .int .u8 bt, .int .i32 ra, .int .i32 mo, .int .u8 de], .string s] w _
  go_enter Tryz.func6, Tryz.ntmps6
  go_wp2_with fail
  obtain ⟨w0, Hw0⟩ : ∃ w0, Hid (w.alloc (.cells #[.int .u64 sd, .int .u8 bt, .int .i32 ra, .int .i32 mo, .int .u8 de] 24) = w0) := ⟨_, (rfl : _ = _)⟩
  rw [Hw0.out]
  have HB0 : Hid (Below w.heap.size w w0) := by rw [← Hw0.out]; exact (Below.refl _ _).alloc (Nat.le_refl _) _
  have HC0 : Hid (CellsAt w0 w.heap.size 24 [.int .u64 sd, .int .u8 bt, .int .i32 ra, .int .i32 mo, .int .u8 de]) := by rw [← Hw0.out]; exact CellsAt.new w _ _ _ rfl rfl
  clear Hw0
  refine (recScan_any s hs _).mono ?_
  rintro e w1 ⟨vR, vG, rfl, hR, hG, hb1⟩
  obtain ⟨aR, cR, rfl, hc1, hc2, _⟩ := own_read hR
  obtain ⟨aG, cG, rfl, hd1, hd2, _⟩ := own_read hG
  unfold maxLen at hc2 hd2
  have HB1 : Hid (Below w.heap.size w w1) := HB0.out.trans (hb1.mono HB0.out.size)
  have HC1 : Hid (CellsAt w1 w.heap.size 24 [.int .u64 sd, .int .u8 bt, .int .i32 ra, .int .i32 mo, .int .u8 de]) := CellsAt.later HC0.out hb1
  clear hR hG hb1 HB0 HC0
  generalize (gaps (ls s)).length = m at *
  generalize (recs (ls s)).length = n at *
  have c0 := CellsAt.cell HC1.out 0
  have c1 := CellsAt.cell HC1.out 1
  have c2 := CellsAt.cell HC1.out 2
  have c3 := CellsAt.cell HC1.out 3
  have c4 := CellsAt.cell HC1.out 4
  simp only [List.getElem?_cons_zero, List.getElem?_cons_succ] at c0 c1 c2 c3 c4
  go_wp2_with fail
  refine (HIn.out _).mono ?_
  rintro e w2 ⟨rfl, hb2⟩
  have HB2 : Hid (Below w.heap.size w w2) := HB1.out.trans (hb2.mono HB1.out.size)
  clear hb2 HB1 HC1 c0 c1 c2 c3 c4
  go_wp2
  go_ret2
  exact ⟨rfl, HB2.out⟩

set_option maxRecDepth 100000 in
set_option maxHeartbeats 2000000 in
theorem progNew_empty (r : Raw) (hr : r.ok = true) (s : ByteArray) (hs : s.size ≤ 600) (hne : (recs (ls s)).length = 0) (w : World) :
    Calls Tryz.prog 6 #[.agg r.cells.toArray, .string s] w fun e w' => e = .returned (.tuple #[.pointer none, .int .i64 5]) ∧ Below w.heap.size w w' := by
  have HIn : Hid (∀ w1, Calls Tryz.prog 13 #[.agg r.cells.toArray] w1 fun e w' => e = .returned (.bool true) ∧ Below w1.heap.size w1 w') := fun w1 => by
    have h := inBounds_any r w1
    rw [hr] at h
    exact h
  obtain ⟨sd, bt, ra, mo, de⟩ := r
  show Calls Tryz.prog 6 #[.agg #[.int .u64 sd, .int .u8 bt, .int .i32 ra, .int .i32 mo, .int .u8 de], .string s] w _
  go_enter Tryz.func6, Tryz.ntmps6
  go_wp2_with fail
  obtain ⟨w0, Hw0⟩ : ∃ w0, Hid (w.alloc (.cells #[.int .u64 sd, .int .u8 bt, .int .i32 ra, .int .i32 mo, .int .u8 de] 24) = w0) := ⟨_, (rfl : _ = _)⟩
  rw [Hw0.out]
  have HB0 : Hid (Below w.heap.size w w0) := by rw [← Hw0.out]; exact (Below.refl _ _).alloc (Nat.le_refl _) _
  have HC0 : Hid (CellsAt w0 w.heap.size 24 [.int .u64 sd, .int .u8 bt, .int .i32 ra, .int .i32 mo, .int .u8 de]) := by rw [← Hw0.out]; exact CellsAt.new w _ _ _ rfl rfl
  clear Hw0
  refine (recScan_any s hs _).mono ?_
  rintro e w1 ⟨vR, vG, rfl, hR, hG, hb1⟩
  rw [hne] at hR
  obtain ⟨aR, cR, rfl, hc1, hc2, _⟩ := own_read hR
  obtain ⟨aG, cG, rfl, hd1, hd2, _⟩ := own_read hG
  unfold maxLen at hc2 hd2
  have HB1 : Hid (Below w.heap.size w w1) := HB0.out.trans (hb1.mono HB0.out.size)
  have HC1 : Hid (CellsAt w1 w.heap.size 24 [.int .u64 sd, .int .u8 bt, .int .i32 ra, .int .i32 mo, .int .u8 de]) := CellsAt.later HC0.out hb1
  clear hR hG hb1 HB0 HC0 hne
  generalize (gaps (ls s)).length = m at *
  have c0 := CellsAt.cell HC1.out 0
  have c1 := CellsAt.cell HC1.out 1
  have c2 := CellsAt.cell HC1.out 2
  have c3 := CellsAt.cell HC1.out 3
  have c4 := CellsAt.cell HC1.out 4
  simp only [List.getElem?_cons_zero, List.getElem?_cons_succ] at c0 c1 c2 c3 c4
  go_wp2_with fail
  refine (HIn.out _).mono ?_
  rintro e w2 ⟨rfl, hb2⟩
  have HB2 : Hid (Below w.heap.size w w2) := HB1.out.trans (hb2.mono HB1.out.size)
  clear hb2 HB1 HC1 c0 c1 c2 c3 c4
  go_wp2
  go_ret2
  exact ⟨rfl, HB2.out⟩

set_option maxHeartbeats 400000 in
theorem recScan_long (s : ByteArray) (hs : 600 < s.size) (hm : s.size ≤ maxLen) (w : World) :
    Calls Tryz.prog 12 #[.string s] w fun e w' => e = .returned (.tuple #[.slice none 0 0, .slice none 0 0, .int .i64 2]) ∧ w' = w := by
  unfold maxLen at hm
  go_enter Tryz.func12, Tryz.ntmps12
  go_wp2
  go_ret3
  exact ⟨rfl, rfl⟩
set_option maxRecDepth 100000 in
set_option maxHeartbeats 2000000 in
theorem progNew_long (r : Raw) (s : ByteArray) (hs : 600 < s.size) (hm : s.size ≤ maxLen) (w : World) :
    Calls Tryz.prog 6 #[.agg r.cells.toArray, .string s] w fun e w' => e = .returned (.tuple #[.pointer none, .int .i64 2]) ∧ Below w.heap.size w w' := by
  obtain ⟨sd, bt, ra, mo, de⟩ := r
  show Calls Tryz.prog 6 #[.agg #[.int .u64 sd, .int .u8 bt, .int .i32 ra, .int .i32 mo, .int .u8 de], .string s] w _
  go_enter Tryz.func6, Tryz.ntmps6
  go_wp2_with fail
  refine (recScan_long s hs hm _).mono ?_
  rintro e w1 ⟨rfl, hw⟩
  have hw' := hw.symm
  clear hw
  subst hw'
  go_wp2
  go_ret2
  exact ⟨rfl, (Below.refl _ _).alloc (Nat.le_refl _) _⟩
end Go.Proofs.YtfpodnleimhohabGreatDoor

/-
  WALKS: frames of examples; a shard laid of frames and noise.
-/
namespace Go.Proofs.YtfpodnleimhohabGreatDoor
open Go.RowKit
set_option linter.unusedVariables false

theorem info_str : (Tryz.prog.info? 9).map (fun i => (i.zero, i.size, i.bytes)) = some (some (.string ⟨#[]⟩), 1, 16) := by kernel_rfl
/-- An example with a label and a short text. -/
def ExOk (x : Int × List UInt8) : Prop := 0 ≤ x.1 ∧ x.1 ≤ 3 ∧ x.2.length ≤ 40
theorem exsTo_ok (L : Nat → Int) (T : Nat → ByteArray) : ∀ k, ∀ x ∈ exsTo L T k, ExOk x
  | 0 => by simp [exsTo]
  | k + 1 => by
    intro x hx
    simp only [exsTo, List.mem_append, List.mem_singleton] at hx
    rcases hx with hx | rfl
    · exact exsTo_ok L T k x hx
    · refine ⟨?_, ?_, ?_⟩
      · show 0 ≤ L k % 4; omega
      · show L k % 4 ≤ 3; omega
      · show ((ls (T k)).take 40).length ≤ 40; rw [List.length_take]; omega
theorem exs_ok (len : Nat) (L : Nat → Int) (T : Nat → ByteArray) : ∀ x ∈ exs len L T, ExOk x := by
  unfold exs; split
  · intro x hx
    simp at hx
    subst hx
    exact ⟨by decide, by decide, by decide⟩
  · exact exsTo_ok L T _
theorem exs_len (len : Nat) (L : Nat → Int) (T : Nat → ByteArray) : 1 ≤ (exs len L T).length ∧ (exs len L T).length ≤ 8 := by
  unfold exs; split
  · simp
  · rw [exsTo_length]; omega
theorem frame_len (l : Int) (t : List UInt8) (h : t.length ≤ 40) : (frame l t).length = t.length + 7 := by
  unfold frame frameB
  have hl := body_length l t
  rw [hl, var_short _ (by omega)]
  simp [le_length, hl]
theorem frameAns_ex (l : Int) (t : List UInt8) (h1 : l ≤ 3) (h2 : t.length ≤ 40) : frameAns l (bs t) = (bs (frame l t), 0) := by
  rw [frameAns_ok _ _ (by omega) (by rw [bs_size]; omega), ls_bs]
/-- The frames of examples. -/
def framesL (X : List (Int × List UInt8)) : List (List UInt8) := X.map fun x => frame x.1 x.2
def strCells (F : List (List UInt8)) : List Value := F.map fun f => .string (bs f)
theorem ex_get {X : List (Int × List UInt8)} {k : Nat} {x : Int × List UInt8} (h : X[k]? = some x) : (exsCells X)[k * 2]? = some (.int .u8 x.1) ∧ (exsCells X)[k * 2 + 1]? = some (.string (bs x.2)) := by
  have f := flat_get exCells 2 (fun _ => rfl) X k x h
  exact ⟨f 0 (by omega), f 1 (by omega)⟩

/-- Noise and frames, one behind the other. -/
def layFrom (N : Nat → List UInt8) : Nat → List (List UInt8) → List UInt8
  | i, [] => N i
  | i, f :: fs => N i ++ (f ++ layFrom N (i + 1) fs)

end Go.Proofs.YtfpodnleimhohabGreatDoor

/-
  PLAIN MATHEMATICS: the records and gaps of a shard that was laid of noise and frames.
-/
namespace Go.Proofs.YtfpodnleimhohabGreatDoor
open Go.RowKit

def layRecs (N : Nat → List UInt8) : Nat → Nat → List (List UInt8) → List Rc
  | _, _, [] => []
  | i, p, b :: bs => ⟨p + (N i).length, p + (N i).length + (frameB b).length, b⟩ :: layRecs N (i + 1) (p + (N i).length + (frameB b).length) bs
theorem recsAt_skip (L : List UInt8) : ∀ (n : List UInt8) (p : Nat) (rest : List UInt8), (∀ c ∈ n, c ≠ 213) → p ≤ L.length → L.drop p = n ++ rest → p + n.length ≤ L.length ∧ recsAt L p = recsAt L (p + n.length) ∧ L.drop (p + n.length) = rest := by
  intro n
  induction n with
  | nil => intro p rest _ hp h; exact ⟨hp, rfl, by simpa using h⟩
  | cons c n ih =>
    intro p rest hn hp h
    obtain ⟨hlt, _, hd⟩ := drop_head (show L.drop p = c :: (n ++ rest) from h)
    have hs : stand (L.drop p) = none := by
      rw [h]; exact stand_213 (hn c List.mem_cons_self)
    obtain ⟨e1, e2, e3⟩ := ih (p + 1) rest (fun d hd => hn d (List.mem_cons_of_mem _ hd)) hlt hd
    have e : p + 1 + n.length = p + (c :: n).length := by simp; omega
    rw [e] at e1 e2 e3
    exact ⟨e1, by rw [recsAt_none hlt hs]; exact e2, e3⟩
theorem recsAt_lay (L : List UInt8) (N : Nat → List UInt8) (hN : ∀ i, ∀ c ∈ N i, c ≠ 213) : ∀ (bs : List (List UInt8)) (i p : Nat), (∀ b ∈ bs, bodyOk b = true) → p ≤ L.length → L.drop p = layFrom N i (bs.map frameB) → recsAt L p = layRecs N i p bs := by
  intro bs
  induction bs with
  | nil =>
    intro i p _ hp h
    obtain ⟨e1, e2, e3⟩ := recsAt_skip L (N i) p [] (hN i) hp (by rw [h]; simp [layFrom])
    rw [e2]
    have : p + (N i).length = L.length := by
      have := List.drop_eq_nil_iff.1 e3; omega
    rw [this, recsAt_end]; rfl
  | cons b bs ih =>
    intro i p hb hp h
    obtain ⟨e1, e2, e3⟩ := recsAt_skip L (N i) p (frameB b ++ layFrom N (i + 1) (bs.map frameB)) (hN i) hp (by rw [h]; rfl)
    rw [e2]
    have hs : stand (L.drop (p + (N i).length)) = some b := (stand_iff _ _).2 ⟨hb b List.mem_cons_self, by rw [e3]; exact List.prefix_append _ _⟩
    obtain ⟨h1, h2⟩ := recsAt_some hs
    have h3 : L.drop (p + (N i).length + (frameB b).length) = layFrom N (i + 1) (bs.map frameB) := by
      rw [← List.drop_drop, e3, List.drop_left]
    rw [h2]
    show _ = _ :: layRecs N (i + 1) _ bs
    clear h2 hs e2
    generalize p + (N i).length + (frameB b).length = q at *
    rw [ih (i + 1) q (fun d hd => hb d (List.mem_cons_of_mem _ hd)) h1 h3]

/-- The state of one who goes through what was laid. -/
structure FSt (L : List UInt8) (N : Nat → List UInt8) (bs : List (List UInt8)) (R : List Rc) (G : List (Nat × Nat)) (P K I : Nat) : Prop where
  hP : P ≤ L.length
  hI : I ≤ bs.length
  hlay : L.drop P = layFrom N I ((bs.drop I).map frameB)
  hrec : R.drop I = layRecs N I P (bs.drop I)
  hgap : G.drop K = gapsF P L.length (R.drop I)
  hK : K ≤ G.length
theorem FSt.start (N : Nat → List UInt8) (bs : List (List UInt8)) (L : List UInt8) (hL : L = layFrom N 0 (bs.map frameB)) (hN : ∀ i, ∀ c ∈ N i, c ≠ 213) (hb : ∀ b ∈ bs, bodyOk b = true) :
    FSt L N bs (recs L) (gaps L) 0 0 0 :=
  ⟨by omega, by omega, by simpa using hL, recsAt_lay L N hN bs 0 0 hb (by omega) (by simpa using hL), rfl, by omega⟩
theorem layRecs_length (N : Nat → List UInt8) : ∀ (bs : List (List UInt8)) (i p : Nat), (layRecs N i p bs).length = bs.length := by
  intro bs
  induction bs with
  | nil => intro i p; rfl
  | cons b bs ih =>
    intro i p
    show (layRecs N (i + 1) _ bs).length + 1 = bs.length + 1
    rw [ih]
theorem FSt.step {L : List UInt8} {N : Nat → List UInt8} {bs : List (List UInt8)} {R : List Rc} {G : List (Nat × Nat)} {P K I : Nat} (s : FSt L N bs R G P K I) :
    ∃ K', (0 < (N I).length → K < G.length ∧ G[K]? = some (P, P + (N I).length) ∧ K' = K + 1) ∧ (¬ 0 < (N I).length → K' = K) ∧ K' ≤ G.length ∧ P + (N I).length ≤ L.length ∧
      (∀ b, bs[I]? = some b → I < R.length ∧ R[I]? = some ⟨P + (N I).length, P + (N I).length + (frameB b).length, b⟩ ∧ FSt L N bs R G (P + (N I).length + (frameB b).length) K' (I + 1)) ∧
      (I = bs.length → K' = G.length) := by
  have hP := s.hP
  cases hb : bs.drop I with
  | nil =>
    have hI : I = bs.length := by have := List.drop_eq_nil_iff.1 hb; have := s.hI; omega
    have hr := s.hrec
    rw [hb] at hr
    have hl := s.hlay
    rw [hb] at hl
    have hlen : L.length = P + (N I).length := by
      have := congrArg List.length hl
      simp [layFrom] at this
      omega
    have hg := s.hgap
    rw [hr] at hg
    have hnone : ∀ b, bs[I]? ≠ some b := by
      intro b h
      rw [List.getElem?_eq_none (by omega)] at h
      simp at h
    by_cases hn : 0 < (N I).length
    · have hg2 : G.drop K = (P, P + (N I).length) :: [] := by
        rw [hg, ← hlen]
        show gapsF P L.length [] = _
        simp [gapsF]; omega
      obtain ⟨h1, h2, h3⟩ := drop_head hg2
      have h4 := List.drop_eq_nil_iff.1 h3
      exact ⟨K + 1, fun _ => ⟨h1, h2, rfl⟩, fun h => absurd hn h, h1, by omega, fun b h => absurd h (hnone b), fun _ => by omega⟩
    · have hg2 : G.drop K = [] := by
        rw [hg]
        show gapsF P L.length [] = _
        simp [gapsF]; omega
      have h4 := List.drop_eq_nil_iff.1 hg2
      have := s.hK
      exact ⟨K, fun h => absurd h hn, fun _ => rfl, s.hK, by omega, fun b h => absurd h (hnone b), fun _ => by omega⟩
  | cons b bs' =>
    obtain ⟨hI, hbI, hd⟩ := drop_head hb
    have hr := s.hrec
    rw [hb] at hr
    have hr' : R.drop I = ⟨P + (N I).length, P + (N I).length + (frameB b).length, b⟩ :: layRecs N (I + 1) (P + (N I).length + (frameB b).length) bs' := hr
    obtain ⟨r1, r2, r3⟩ := drop_head hr'
    have hl := s.hlay
    rw [hb] at hl
    have hl' : L.drop P = N I ++ (frameB b ++ layFrom N (I + 1) (bs'.map frameB)) := hl
    have hle : P + (N I).length + (frameB b).length ≤ L.length := by
      have := congrArg List.length hl'
      simp at this
      have h6 := frameB_len b
      generalize (frameB b).length = z at *
      omega
    have hl2 : L.drop (P + (N I).length + (frameB b).length) = layFrom N (I + 1) (bs'.map frameB) := by
      rw [← List.drop_drop, ← List.drop_drop, hl', List.drop_left, List.drop_left]
    have hg := s.hgap
    rw [hr'] at hg
    have nxt : ∀ K', K' ≤ G.length → G.drop K' = gapsF (P + (N I).length + (frameB b).length) L.length (layRecs N (I + 1) (P + (N I).length + (frameB b).length) bs') → FSt L N bs R G (P + (N I).length + (frameB b).length) K' (I + 1) := by
      intro K' h1 h2
      exact ⟨hle, hI, by rw [hd]; exact hl2, by rw [hd]; exact r3, by rw [r3]; exact h2, h1⟩
    have uniq : ∀ b', bs[I]? = some b' → b' = b := by
      intro b' h; rw [hbI] at h; simpa using h.symm
    by_cases hn : 0 < (N I).length
    · rw [gapsF, if_pos (show P < P + (N I).length by omega)] at hg
      obtain ⟨h1, h2, h3⟩ := drop_head (show G.drop K = (P, P + (N I).length) :: _ from hg)
      refine ⟨K + 1, fun _ => ⟨h1, h2, rfl⟩, fun h => absurd hn h, h1, by clear nxt hl2 hl' hl hr hr' r2 r3; generalize (frameB b).length = z at *; omega, fun b' h => ?_, fun h => by omega⟩
      rw [uniq b' h]
      exact ⟨r1, r2, nxt (K + 1) h1 h3⟩
    · rw [gapsF, if_neg (show ¬ P < P + (N I).length by omega), List.nil_append] at hg
      refine ⟨K, fun h => absurd h hn, fun _ => rfl, s.hK, by clear nxt hl2 hl' hl hr hr' r2 r3; generalize (frameB b).length = z at *; omega, fun b' h => ?_, fun h => by omega⟩
      rw [uniq b' h]
      exact ⟨r1, r2, nxt K s.hK hg⟩
theorem FSt.rlen {L : List UInt8} {N : Nat → List UInt8} {bs : List (List UInt8)} {R : List Rc} {G : List (Nat × Nat)} (s : FSt L N bs R G 0 0 0) : R.length = bs.length := by
  have := congrArg List.length s.hrec
  rw [layRecs_length] at this
  simpa using this
end Go.Proofs.YtfpodnleimhohabGreatDoor

/-
  FRAMES LAID ONE BEHIND THE OTHER: what is read of them.
-/
namespace Go.Proofs.YtfpodnleimhohabGreatDoor
open Go.RowKit
set_option linter.unusedVariables false

/-- The bodies of examples. -/
def bodies (X : List (Int × List UInt8)) : List (List UInt8) := X.map fun x => body x.1 x.2
theorem bodies_ok {X : List (Int × List UInt8)} (h : ∀ x ∈ X, ExOk x) : ∀ b ∈ bodies X, bodyOk b = true := by
  intro b hb
  obtain ⟨x, hx, rfl⟩ := List.mem_map.1 hb
  obtain ⟨h0, h1, h2⟩ := h x hx
  have t := by8_toNat x.1 h0 (by omega)
  simp [body, bodyOk]
  omega
theorem frames_bodies (X : List (Int × List UInt8)) : framesL X = (bodies X).map frameB := by
  simp [framesL, bodies, frame]
theorem layFrom_len (N : Nat → List UInt8) (hN : ∀ i, (N i).length ≤ 12) : ∀ (F : List (List UInt8)) (i : Nat), (∀ f ∈ F, f.length ≤ 47) → (layFrom N i F).length ≤ 12 + 59 * F.length := by
  intro F
  induction F with
  | nil => intro i _; simp [layFrom]; exact hN i
  | cons f F ih =>
    intro i hF
    have h1 := ih (i + 1) (fun g hg => hF g (List.mem_cons_of_mem _ hg))
    have h2 := hF f List.mem_cons_self
    have h3 := hN i
    simp [layFrom]
    omega
theorem framesL_le {X : List (Int × List UInt8)} (h : ∀ x ∈ X, ExOk x) : ∀ f ∈ framesL X, f.length ≤ 47 := by
  intro f hf
  obtain ⟨x, hx, rfl⟩ := List.mem_map.1 hf
  have := (h x hx).2.2
  rw [frame_len x.1 x.2 this]; omega

theorem IsExs.later {w w' : World} {a : Option Addr} {len cap : Nat} {L : Nat → Int} {T : Nat → ByteArray} (h : IsExs w a len cap L T) (hb : Below w.heap.size w w') : IsExs w' a len cap L T := by
  rcases h with h | ⟨b, off, e1, e2, e3, e4, e5⟩
  · exact .inl h
  · exact .inr ⟨b, off, e1, e2, e3, Nat.lt_of_lt_of_le e4 hb.size, fun i hi => ⟨(hb.cell (p := ⟨b, off + i * 2, none⟩) e4).trans (e5 i hi).1, (hb.cell (p := ⟨b, off + i * 2 + 1, none⟩) e4).trans (e5 i hi).2.1, (e5 i hi).2.2⟩⟩
end Go.Proofs.YtfpodnleimhohabGreatDoor

/-
  WALKS: a run over the frames of examples ('begun').
-/
namespace Go.Proofs.YtfpodnleimhohabGreatDoor
open Go.RowKit
set_option linter.unusedVariables false
variable {mk : ByteArray}

/-- The examples as labelled texts. -/
def exNat (X : List (Int × List UInt8)) : List Ex := X.map fun x => (x.1.toNat, x.2)
theorem exNat_length (X : List (Int × List UInt8)) : (exNat X).length = X.length := by simp [exNat]
theorem exsOf_lay (N : Nat → List UInt8) : ∀ (X : List (Int × List UInt8)) (i p : Nat), (∀ x ∈ X, ExOk x) → exsOf (layRecs N i p (bodies X)) = exNat X := by
  intro X
  induction X with
  | nil => intro i p _; rfl
  | cons x X ih =>
    intro i p h
    have hx := h x List.mem_cons_self
    have h8 := by8_toNat x.1 hx.1 (by have := hx.2.1; omega)
    have e : bodies (x :: X) = body x.1 x.2 :: bodies X := rfl
    rw [e, layRecs]
    simp only [exsOf, List.map_cons, exNat]
    have ih' := ih (i + 1) (p + (N i).length + (frameB (body x.1 x.2)).length) (fun y hy => h y (List.mem_cons_of_mem _ hy))
    simp only [exsOf, exNat] at ih'
    rw [ih']
    congr 1
    simp only [exOf, body, List.headD_cons, List.tail_cons]
    rw [show (by8 x.1).toNat = x.1.toNat by omega]
/-- What is framed is what is read. -/
theorem lay_recs (N : Nat → List UInt8) (hN : ∀ i, ∀ c ∈ N i, c ≠ 213) (X : List (Int × List UInt8)) (hX : ∀ x ∈ X, ExOk x) : exsOf (recs (layFrom N 0 (framesL X))) = exNat X ∧ (recs (layFrom N 0 (framesL X))).length = X.length := by
  have h := recsAt_lay (layFrom N 0 (framesL X)) N hN (bodies X) 0 0 (bodies_ok hX) (by omega) (by rw [List.drop_zero, frames_bodies])
  unfold recs
  rw [h]
  exact ⟨exsOf_lay N X 0 0 hX, by rw [layRecs_length]; simp [bodies]⟩
theorem exNat_ok {X : List (Int × List UInt8)} (h : ∀ x ∈ X, ExOk x) : ∀ x ∈ exNat X, x.1 < 4 ∧ x.2.length ≤ 200 := by
  intro x hx
  obtain ⟨y, hy, rfl⟩ := List.mem_map.1 hx
  obtain ⟨h0, h1, h2⟩ := h y hy
  exact ⟨by show y.1.toNat < 4; omega, by show y.2.length ≤ 200; omega⟩

end Go.Proofs.YtfpodnleimhohabGreatDoor

/-
  WALKS: runs as the statements hold them.
-/
namespace Go.Proofs.YtfpodnleimhohabGreatDoor
open Go.RowKit
set_option linter.unusedVariables false
variable {mk : ByteArray}

/-- A run of the program's, with its examples. -/
def RunIs (w : World) (g : Nat) (cf : Cf) (mk : ByteArray) (X : List Ex) (st : St) : Prop :=
  ∃ aX cX bX, ProgRun w g cf mk (.slice aX X.length cX) st ∧ w.ownsRow bX 97 2 (.slice aX X.length cX) X.length (exNsCells X)
theorem RunIs.lt {w : World} {g : Nat} {cf : Cf} {X : List Ex} {st : St} (h : RunIs w g cf mk X st) : g < w.heap.size := by
  obtain ⟨_, _, _, h, _⟩ := h
  exact CellsAt.lt h
theorem RunIs.cells {w : World} {g : Nat} {cf : Cf} {X : List Ex} {st : St} (h : RunIs w g cf mk X st) : ∃ l, CellsAt w g 67 l := by
  obtain ⟨_, _, _, h, _⟩ := h
  exact ⟨_, h⟩
theorem RunIs.later {w w' : World} {g : Nat} {cf : Cf} {X : List Ex} {st : St} (h : RunIs w g cf mk X st) (hb : Below w.heap.size w w') : RunIs w' g cf mk X st := by
  obtain ⟨a, c, b, h1, h2⟩ := h
  exact ⟨a, c, b, CellsAt.later h1 hb, ownsRow_below h2 hb⟩
theorem RunIs.other {mk' : ByteArray} {w w' : World} {g g' : Nat} {cf cf' : Cf} {X X' : List Ex} {st st' : St} (h : RunIs w g cf mk X st) (hs : Spared w w' (fun j => j = g')) (hne : g ≠ g') (h' : RunIs w g' cf' mk' X' st') : RunIs w' g cf mk X st := by
  obtain ⟨a, c, b, h1, h2⟩ := h
  obtain ⟨l, hl⟩ := h'.cells
  refine ⟨a, c, b, (hs.block g (CellsAt.lt h1) hne).trans h1, ownsRow_spared h2 hs (fun j hj e => ?_)⟩
  subst e
  exact own_ne h2 hl (by decide) hj
/-- A list of numbers is no run. -/
theorem ints_other {w w' : World} {g b n : Nat} {cf : Cf} {X : List Ex} {st : St} {v : Value} {xs : List Value} (h : w.ownsRow b 3 1 v n xs) (hs : Spared w w' (fun j => j = g)) (hr : RunIs w g cf mk X st) : w'.ownsRow b 3 1 v n xs := by
  obtain ⟨l, hl⟩ := hr.cells
  refine ownsRow_spared h hs (fun j hj e => ?_)
  subst e
  exact own_ne h hl (by decide) hj
theorem conf_other {w w' : World} {g k : Nat} {cf : Cf} {X : List Ex} {st : St} {l : List Value} (h : CellsAt w k 24 l) (hs : Spared w w' (fun j => j = g)) (hr : RunIs w g cf mk X st) : CellsAt w' k 24 l := by
  obtain ⟨l', hl⟩ := hr.cells
  refine (hs.block k h.lt (fun e => ?_)).trans h
  have e' : k = g := e
  subst e'
  unfold CellsAt at h hl
  rw [h] at hl
  simp at hl

theorem status_run (cf : Cf) (hcf : cf.Ok) (X : List Ex) (hn1 : 1 ≤ X.length) (hn2 : X.length ≤ 600) (st : St) (hst : st.Ok) (g : Nat) (w : World) (h : RunIs w g cf mk X st) :
    Calls Tryz.prog 51 #[.pointer (some ⟨g, 0, none⟩)] w fun e w' => e = .returned (.agg (statusAns cf X.length st).toArray) ∧ Below w.heap.size w w' := by
  obtain ⟨a1, c1, b1, h1, _⟩ := h
  exact progStatus_any g cf hcf a1 X.length c1 hn1 (by omega) st hst w h1
end Go.Proofs.YtfpodnleimhohabGreatDoor

/-
  WALKS: the program's Guess.
-/
namespace Go.Proofs.YtfpodnleimhohabGreatDoor
open Go.RowKit
set_option linter.unusedVariables false
variable {mk : ByteArray}

set_option maxRecDepth 100000 in
set_option maxHeartbeats 4000000 in
theorem lguess_any (g : Nat) (t : TypeId) (hd tl : List Value) (o : Nat) (ho : hd.length = o) (st : St) (hst : st.Ok) (s : ByteArray) (hs : s.size ≤ 200) (w : World) (hR : LrnAt w g t hd tl st) :
    Calls Tryz.prog 77 #[.pointer (some ⟨g, o, none⟩), .string s] w fun e w' => e = .returned (.tuple #[.int .i64 ((guessAns st.w (ls s)).1 : Nat), .int .i64 (guessAns st.w (ls s)).2]) ∧ Below w.heap.size w w' := by
  have hgl := CellsAt.lt hR
  have HR : Hid (LrnAt w g t hd tl st) := hR
  clear hR
  obtain ⟨sc, Hsc⟩ : ∃ sc, Hid (scoreN (countsN (ls s)) st.w = sc) := ⟨_, (rfl : _ = _)⟩
  have HA : Hid (guessAns st.w (ls s) = (bestN sc (-1), sc (bestN sc (-1)))) := by show _ = _; unfold guessAns; rw [Hsc.out]
  rw [HA.out]
  have hbl := bestN_lt sc (-1)
  obtain ⟨q, Hq⟩ : ∃ q, Hid (bestN sc (-1) = q) := ⟨_, (rfl : _ = _)⟩
  rw [Hq.out] at hbl ⊢
  go_enter Tryz.func77, Tryz.ntmps77
  go_wp2_with fail
  refine (countsOf_any s (by omega) _).mono ?_
  rintro e w2 ⟨rfl, hb2⟩
  have HB2 : Hid (Below w.heap.size w w2) := hb2
  clear hb2
  obtain ⟨cN, HcN⟩ : ∃ cN, Hid (tab 32 (fun b => ((countsN (ls s) b : Nat) : Int)) = cN) := ⟨_, (rfl : _ = _)⟩
  rw [HcN.out]
  have HNl : Hid (cN.length = 32) := by show _ = _; rw [← HcN.out]; exact tab_length _ _
  have HNo : Hid (∀ u ∈ cN, u.oneCell' = true) := by show ∀ u ∈ cN, _; rw [← HcN.out]; exact tab_one _ _
  have HNi : Hid ((Tryz.prog.info? 171).map (·.size) = some cN.length) := by show _ = _; rw [HNl.out]; exact info_counts
  have HB3 : Hid (Below w.heap.size w (w2.alloc (.cells cN.toArray 171))) := HB2.out.alloc HB2.out.size _
  have HN3 : Hid (CellsAt (w2.alloc (.cells cN.toArray 171)) w2.heap.size 171 cN) := CellsAt.new _ _ _ _ rfl rfl
  go_wp2_with (first
    | (refine wpList_store_new rfl 171 (.tmp 6) (.tmp 10) rfl _ cN rfl rfl HNi.out HNl.out.symm HNo.out ?_)
    | (refine wpList_load_mid rfl 171 (.tmp 6) rfl _ _ rfl cN _ (CellsAt.range HN3.out) Tryz.underlying171 rfl HNi.out ?_))
  generalize hw3 : w2.alloc (.cells cN.toArray 171) = w3 at *
  clear hw3 HB2
  generalize w2.heap.size = gN at *
  rw [← HcN.out]
  refine (lscores_any g t hd tl o ho st hst (countsN (ls s)) (countsN_le (ls s)) _ (CellsAt.kept HR.out HB3.out hgl)).mono ?_
  rintro e w4 ⟨rfl, hb4⟩
  have HB4 : Hid (Below w.heap.size w w4) := HB3.out.trans (hb4.mono HB3.out.size)
  clear hb4 HB3 HN3
  rw [Hsc.out]
  obtain ⟨cS, HcS⟩ : ∃ cS, Hid (tab 4 sc = cS) := ⟨_, (rfl : _ = _)⟩
  rw [HcS.out]
  have HSl : Hid (cS.length = 4) := by show _ = _; rw [← HcS.out]; exact tab_length _ _
  have HSo : Hid (∀ u ∈ cS, u.oneCell' = true) := by show ∀ u ∈ cS, _; rw [← HcS.out]; exact tab_one _ _
  have HSi : Hid ((Tryz.prog.info? 119).map (·.size) = some cS.length) := by show _ = _; rw [HSl.out]; exact info_s4
  have HB5 : Hid (Below w.heap.size w (w4.alloc (.cells cS.toArray 119))) := HB4.out.alloc HB4.out.size _
  have HC5 : Hid (CellsAt (w4.alloc (.cells cS.toArray 119)) w4.heap.size 119 cS) := CellsAt.new _ _ _ _ rfl rfl
  go_wp2_with (first
    | (refine wpList_store_new rfl 119 (.tmp 7) (.tmp 13) rfl _ cS rfl rfl HSi.out HSl.out.symm HSo.out ?_)
    | (refine wpList_load_mid rfl 119 (.tmp 7) rfl _ _ rfl cS _ (CellsAt.range HC5.out) Tryz.underlying119 rfl HSi.out ?_))
  generalize hw5 : w4.alloc (.cells cS.toArray 119) = w5 at *
  clear hw5 HB4
  generalize w4.heap.size = gS at *
  rw [← HcS.out]
  refine (greatest_any sc (-1) (by omega) _).mono ?_
  rintro e w6 ⟨rfl, hb6⟩
  rw [Hq.out]
  have HB6 : Hid (Below w.heap.size w w6) := HB5.out.trans (hb6.mono HB5.out.size)
  have s1 := (CellsAt.cell (CellsAt.later HC5.out hb6) q).trans (by rw [← HcS.out]; exact tab_get sc hbl : cS[q]? = some (.int .i64 (sc q)))
  clear hb6 HB5 HC5
  go_wp2_with fail
  go_quiet (fail)
  go_wp2
  go_ret2
  exact ⟨rfl, below_drewN HB6.out _⟩
set_option maxRecDepth 100000 in
set_option maxHeartbeats 1000000 in
theorem progGuess_any (g : Nat) (cf : Cf) (lv : Value) (st : St) (hst : st.Ok) (s : ByteArray) (hs : s.size ≤ 200) (w : World) (hR : ProgRun w g cf mk lv st) :
    Calls Tryz.prog 53 #[.pointer (some ⟨g, 0, none⟩), .string s] w fun e w' => e = .returned (.tuple #[.int .i64 ((guessAns st.w (ls s)).1 : Nat), .int .i64 (guessAns st.w (ls s)).2, .int .i64 0]) ∧ Below w.heap.size w w' := by
  have HR : Hid (ProgRun w g cf mk lv st) := hR
  clear hR
  obtain ⟨x, Hx⟩ : ∃ x, Hid (guessAns st.w (ls s) = x) := ⟨_, (rfl : _ = _)⟩
  rw [Hx.out]
  go_enter Tryz.func53, Tryz.ntmps53
  go_wp2_with fail
  refine (lguess_any g 67 (prHead cf mk lv st.steps) [] 8 rfl st hst s hs _ HR.out).mono ?_
  rintro e w1 ⟨rfl, hb1⟩
  rw [Hx.out]
  go_wp2
  go_ret3
  exact ⟨rfl, hb1⟩
set_option maxRecDepth 100000 in
theorem progGuess_long (g : Nat) (s : ByteArray) (hs : 200 < s.size) (hm : s.size ≤ maxLen) (w : World) :
    Calls Tryz.prog 53 #[.pointer (some ⟨g, 0, none⟩), .string s] w fun e w' => e = .returned (.tuple #[.int .i64 0, .int .i64 0, .int .i64 2]) ∧ w' = w := by
  unfold maxLen at hm
  go_enter Tryz.func53, Tryz.ntmps53
  go_wp2
  go_ret3
  exact ⟨rfl, rfl⟩
end Go.Proofs.YtfpodnleimhohabGreatDoor
