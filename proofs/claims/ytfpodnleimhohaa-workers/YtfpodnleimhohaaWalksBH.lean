/-
  WALKS: the program's New.
-/
import Derived.Test.YtfpodnleimhohaaWalksBG
import Derived.Test.YtfpodnleimhohaaWalksSA
namespace Go.Proofs.Ytfpodnleimhohaa
open Go.RowKit
set_option linter.unusedVariables false
variable {mk : ByteArray}

/-- The cells of a run that begins. -/
theorem zero_prun : Try.zeroCells115 = (prHead ⟨0, 0, 0, 0, 0⟩ (bs []) (.slice none 0 0) 0 ++ (lrnCells St.zero ++ [])).toArray := by kernel_rfl
theorem prun_new (cf : Cf) (lv : Value) :
    (((((((Try.zeroCells115.setIfInBounds 0 (.int .u64 cf.seed)).setIfInBounds 1 (.int .u8 cf.batch)).setIfInBounds 2 (.int .i32 cf.rate)).setIfInBounds 3 (.int .i32 cf.mom)).setIfInBounds 4 (.int .u8 cf.decay)).setIfInBounds 5 (.string mk)).setIfInBounds 6 lv) = (prHead cf mk lv St.zero.steps ++ (lrnCells St.zero ++ [])).toArray := by
  rw [zero_prun, set_left _ (by simp [prHead]), set_left _ (by simp [prHead]), set_left _ (by simp [prHead]), set_left _ (by simp [prHead]), set_left _ (by simp [prHead]), set_left _ (by simp [prHead]), set_left _ (by simp [prHead])]
  rfl

set_option maxRecDepth 100000 in
set_option maxHeartbeats 2000000 in
theorem progNew_ok (r : Raw) (hw : r.Wf) (hr : r.ok = true) (s : ByteArray) (hs : s.size ≤ 600) (hne : 0 < (recs (ls s)).length) (w : World) :
    Calls Try.prog 52 #[.agg r.cells.toArray, .string s] w fun e w' => ∃ g vX, e = .returned (.tuple #[.pointer (some ⟨g, 0, none⟩), .int .i64 0]) ∧ w.heap.size ≤ g ∧ ProgRun w' g r.cf (markB r.cf s) vX St.zero ∧ w'.ownsRow w.heap.size 27 2 vX (recs (ls s)).length (exNsCells (exsOf (recs (ls s)))) ∧ Below w.heap.size w w' := by
  have HIn : Hid (∀ w1, Calls Try.prog 73 #[.agg r.cells.toArray] w1 fun e w' => e = .returned (.bool true) ∧ Below w1.heap.size w1 w') := fun w1 => by
    have h := inBounds_any r w1
    rw [hr] at h
    exact h
  have HMk : Hid (∀ w1, _) := fun w1 => progMark_any r.cf (Raw.cf_ok hr hw) s hs w1
  obtain ⟨sd, bt, ra, mo, de⟩ := r
  simp only [Raw.ok, decide_eq_true_eq] at hr
  obtain ⟨h1, h2, h3, h4, h5, h6, h7⟩ := hr
  obtain ⟨ra', rfl⟩ := Int.eq_ofNat_of_zero_le h3
  obtain ⟨mo', rfl⟩ := Int.eq_ofNat_of_zero_le h5
  have hl6 : (recs (ls s)).length ≤ 600 := by have := recs_len (ls s); rw [ls_length] at this; omega
  obtain ⟨R, HR0⟩ : ∃ R, Hid (recs (ls s) = R) := ⟨_, (rfl : _ = _)⟩
  rw [HR0.out] at hne hl6 ⊢
  have hn0 : ((R.length : Int) == 0) = false := beq_eq_false_iff_ne.2 (by omega)
  clear hw h4 h6
  have HCf : Hid (Raw.cf ⟨sd, bt, (ra' : Int), (mo' : Int), de⟩ = ⟨sd, bt, ra', mo', de⟩) := rfl
  rw [HCf.out] at HMk ⊢
  obtain ⟨mk, Hmk⟩ : ∃ mk, Hid (markB ⟨sd, bt, ra', mo', de⟩ s = mk) := ⟨_, (rfl : _ = _)⟩
  rw [Hmk.out] at HMk ⊢
  show Calls Try.prog 52 #[.agg #[.int .u64 sd, .int .u8 bt, .int .i32 ra', .int .i32 mo', .int .u8 de], .string s] w _
  go_enter Try.func52, Try.ntmps52
  go_wp2_with fail
  obtain ⟨w0, Hw0⟩ : ∃ w0, Hid (w.alloc (.cells #[.int .u64 sd, .int .u8 bt, .int .i32 ra', .int .i32 mo', .int .u8 de] 70) = w0) := ⟨_, (rfl : _ = _)⟩
  rw [Hw0.out]
  have HB0 : Hid (Below w.heap.size w w0) := by rw [← Hw0.out]; exact (Below.refl _ _).alloc (Nat.le_refl _) _
  have HC0 : Hid (CellsAt w0 w.heap.size 70 [.int .u64 sd, .int .u8 bt, .int .i32 ra', .int .i32 mo', .int .u8 de]) := by rw [← Hw0.out]; exact CellsAt.new w _ _ _ rfl rfl
  clear Hw0
  refine (recScan_any s hs _).mono ?_
  rintro e w1 ⟨vR, vG, rfl, hR, hG, hb1⟩
  rw [HR0.out] at hR
  have HR : Hid (w1.ownsRow w0.heap.size 52 4 vR R.length (recsCells R)) := hR
  obtain ⟨aR, cR, rfl, hc1, hc2, _⟩ := own_read hR
  obtain ⟨aG, cG, rfl, hd1, hd2, _⟩ := own_read hG
  unfold maxLen at hc2 hd2
  have HB1 : Hid (Below w.heap.size w w1) := HB0.out.trans (hb1.mono HB0.out.size)
  have HC1 : Hid (CellsAt w1 w.heap.size 70 [.int .u64 sd, .int .u8 bt, .int .i32 ra', .int .i32 mo', .int .u8 de]) := CellsAt.later HC0.out hb1
  have hsz := HB0.out.size
  clear hR hG hb1 HB0 HC0
  generalize (gaps (ls s)).length = m at *
  have c0 := CellsAt.cell HC1.out 0
  have c1 := CellsAt.cell HC1.out 1
  have c2 := CellsAt.cell HC1.out 2
  have c3 := CellsAt.cell HC1.out 3
  have c4 := CellsAt.cell HC1.out 4
  simp only [List.getElem?_cons_zero, List.getElem?_cons_succ] at c0 c1 c2 c3 c4
  go_wp2_with fail
  refine (HIn.out _).mono ?_
  rintro e w2 ⟨rfl, hb2⟩
  have HB2 : Hid (Below w.heap.size w w2) := HB1.out.trans (hb2.mono HB1.out.size)
  have HR2 : Hid (w2.ownsRow w0.heap.size 52 4 (.slice aR R.length cR) R.length (recsCells R)) := ownsRow_below HR.out hb2
  have HC2 : Hid (CellsAt w2 w.heap.size 70 [.int .u64 sd, .int .u8 bt, .int .i32 ra', .int .i32 mo', .int .u8 de]) := CellsAt.later HC1.out hb2
  clear hb2 HB1 HR HC1 c0 c1 c2 c3 c4
  have c0 := CellsAt.cell HC2.out 0
  have c1 := CellsAt.cell HC2.out 1
  have c2 := CellsAt.cell HC2.out 2
  have c3 := CellsAt.cell HC2.out 3
  have c4 := CellsAt.cell HC2.out 4
  simp only [List.getElem?_cons_zero, List.getElem?_cons_succ] at c0 c1 c2 c3 c4
  go_wp2_with fail
  refine (HMk.out _).mono ?_
  rintro e w2' ⟨rfl, hb2'⟩
  have HB2' : Hid (Below w.heap.size w w2') := HB2.out.trans (hb2'.mono HB2.out.size)
  have HR2' : Hid (w2'.ownsRow w0.heap.size 52 4 (.slice aR R.length cR) R.length (recsCells R)) := ownsRow_below HR2.out hb2'
  have HC2' : Hid (CellsAt w2' w.heap.size 70 [.int .u64 sd, .int .u8 bt, .int .i32 ra', .int .i32 mo', .int .u8 de]) := CellsAt.later HC2.out hb2'
  clear hb2' HB2 HR2 HC2 c0 c1 c2 c3 c4
  go_wp2_with fail
  refine (examplesOf_any _ _ R hl6 _ HR2'.out).mono ?_
  rintro e w3 ⟨vX, rfl, hX, hb3⟩
  obtain ⟨aX, cX, rfl, hx1, hx2, hx3⟩ := own_read hX
  have HX : Hid (w3.ownsRow w2'.heap.size 27 2 (.slice aX R.length cX) R.length (exNsCells (exsOf R))) := hX
  have HB3 : Hid (Below w.heap.size w w3) := HB2'.out.trans (hb3.mono HB2'.out.size)
  have HC3 : Hid (CellsAt w3 w.heap.size 70 [.int .u64 sd, .int .u8 bt, .int .i32 ra', .int .i32 mo', .int .u8 de]) := CellsAt.later HC2'.out hb3
  have c0 := CellsAt.cell HC3.out 0
  have c1 := CellsAt.cell HC3.out 1
  have c2 := CellsAt.cell HC3.out 2
  have c3 := CellsAt.cell HC3.out 3
  have c4 := CellsAt.cell HC3.out 4
  simp only [List.getElem?_cons_zero, List.getElem?_cons_succ] at c0 c1 c2 c3 c4
  clear hX hb3 hx3
  go_wp2_with fail
  rw [prun_new ⟨sd, bt, ra', mo', de⟩ (.slice aX R.length cX)]
  clear c0 c1 c2 c3 c4
  generalize hcl : prHead ⟨sd, bt, ra', mo', de⟩ mk (.slice aX R.length cX) St.zero.steps ++ (lrnCells St.zero ++ []) = cells
  have Hcl : Hid (prHead ⟨sd, bt, ra', mo', de⟩ mk (.slice aX R.length cX) St.zero.steps ++ (lrnCells St.zero ++ []) = cells) := hcl
  clear hcl
  go_wp2
  go_ret2
  refine ⟨w3.heap.size, .slice aX R.length cX, rfl, HB3.out.size, ?_, ?_, HB3.out.alloc HB3.out.size _⟩
  · show CellsAt _ _ _ _
    rw [Hcl.out]
    exact CellsAt.new w3 _ _ _ rfl rfl
  · exact own_base (ownsRow_below HX.out ((Below.refl _ _).alloc (Nat.le_refl _) _)) HB2'.out.size

set_option maxRecDepth 100000 in
set_option maxHeartbeats 2000000 in
theorem progNew_bad (r : Raw) (hr : r.ok = false) (s : ByteArray) (hs : s.size ≤ 600) (w : World) :
    Calls Try.prog 52 #[.agg r.cells.toArray, .string s] w fun e w' => e = .returned (.tuple #[.pointer none, .int .i64 4]) ∧ Below w.heap.size w w' := by
  have HIn : Hid (∀ w1, Calls Try.prog 73 #[.agg r.cells.toArray] w1 fun e w' => e = .returned (.bool false) ∧ Below w1.heap.size w1 w') := fun w1 => by
    have h := inBounds_any r w1
    rw [hr] at h
    exact h
  obtain ⟨sd, bt, ra, mo, de⟩ := r
  show Calls Try.prog 52 #[.agg #[.int .u64 sd, .int .u8 bt, .int .i32 ra, .int .i32 mo, .int .u8 de], .string s] w _
  go_enter Try.func52, Try.ntmps52
  go_wp2_with fail
  obtain ⟨w0, Hw0⟩ : ∃ w0, Hid (w.alloc (.cells #[.int .u64 sd, .int .u8 bt, .int .i32 ra, .int .i32 mo, .int .u8 de] 70) = w0) := ⟨_, (rfl : _ = _)⟩
  rw [Hw0.out]
  have HB0 : Hid (Below w.heap.size w w0) := by rw [← Hw0.out]; exact (Below.refl _ _).alloc (Nat.le_refl _) _
  have HC0 : Hid (CellsAt w0 w.heap.size 70 [.int .u64 sd, .int .u8 bt, .int .i32 ra, .int .i32 mo, .int .u8 de]) := by rw [← Hw0.out]; exact CellsAt.new w _ _ _ rfl rfl
  clear Hw0
  refine (recScan_any s hs _).mono ?_
  rintro e w1 ⟨vR, vG, rfl, hR, hG, hb1⟩
  obtain ⟨aR, cR, rfl, hc1, hc2, _⟩ := own_read hR
  obtain ⟨aG, cG, rfl, hd1, hd2, _⟩ := own_read hG
  unfold maxLen at hc2 hd2
  have HB1 : Hid (Below w.heap.size w w1) := HB0.out.trans (hb1.mono HB0.out.size)
  have HC1 : Hid (CellsAt w1 w.heap.size 70 [.int .u64 sd, .int .u8 bt, .int .i32 ra, .int .i32 mo, .int .u8 de]) := CellsAt.later HC0.out hb1
  clear hR hG hb1 HB0 HC0
  generalize (gaps (ls s)).length = m at *
  generalize (recs (ls s)).length = n at *
  have c0 := CellsAt.cell HC1.out 0
  have c1 := CellsAt.cell HC1.out 1
  have c2 := CellsAt.cell HC1.out 2
  have c3 := CellsAt.cell HC1.out 3
  have c4 := CellsAt.cell HC1.out 4
  simp only [List.getElem?_cons_zero, List.getElem?_cons_succ] at c0 c1 c2 c3 c4
  go_wp2_with fail
  refine (HIn.out _).mono ?_
  rintro e w2 ⟨rfl, hb2⟩
  have HB2 : Hid (Below w.heap.size w w2) := HB1.out.trans (hb2.mono HB1.out.size)
  clear hb2 HB1 HC1 c0 c1 c2 c3 c4
  go_wp2
  go_ret2
  exact ⟨rfl, HB2.out⟩

set_option maxRecDepth 100000 in
set_option maxHeartbeats 2000000 in
theorem progNew_empty (r : Raw) (hr : r.ok = true) (s : ByteArray) (hs : s.size ≤ 600) (hne : (recs (ls s)).length = 0) (w : World) :
    Calls Try.prog 52 #[.agg r.cells.toArray, .string s] w fun e w' => e = .returned (.tuple #[.pointer none, .int .i64 5]) ∧ Below w.heap.size w w' := by
  have HIn : Hid (∀ w1, Calls Try.prog 73 #[.agg r.cells.toArray] w1 fun e w' => e = .returned (.bool true) ∧ Below w1.heap.size w1 w') := fun w1 => by
    have h := inBounds_any r w1
    rw [hr] at h
    exact h
  obtain ⟨sd, bt, ra, mo, de⟩ := r
  show Calls Try.prog 52 #[.agg #[.int .u64 sd, .int .u8 bt, .int .i32 ra, .int .i32 mo, .int .u8 de], .string s] w _
  go_enter Try.func52, Try.ntmps52
  go_wp2_with fail
  obtain ⟨w0, Hw0⟩ : ∃ w0, Hid (w.alloc (.cells #[.int .u64 sd, .int .u8 bt, .int .i32 ra, .int .i32 mo, .int .u8 de] 70) = w0) := ⟨_, (rfl : _ = _)⟩
  rw [Hw0.out]
  have HB0 : Hid (Below w.heap.size w w0) := by rw [← Hw0.out]; exact (Below.refl _ _).alloc (Nat.le_refl _) _
  have HC0 : Hid (CellsAt w0 w.heap.size 70 [.int .u64 sd, .int .u8 bt, .int .i32 ra, .int .i32 mo, .int .u8 de]) := by rw [← Hw0.out]; exact CellsAt.new w _ _ _ rfl rfl
  clear Hw0
  refine (recScan_any s hs _).mono ?_
  rintro e w1 ⟨vR, vG, rfl, hR, hG, hb1⟩
  rw [hne] at hR
  obtain ⟨aR, cR, rfl, hc1, hc2, _⟩ := own_read hR
  obtain ⟨aG, cG, rfl, hd1, hd2, _⟩ := own_read hG
  unfold maxLen at hc2 hd2
  have HB1 : Hid (Below w.heap.size w w1) := HB0.out.trans (hb1.mono HB0.out.size)
  have HC1 : Hid (CellsAt w1 w.heap.size 70 [.int .u64 sd, .int .u8 bt, .int .i32 ra, .int .i32 mo, .int .u8 de]) := CellsAt.later HC0.out hb1
  clear hR hG hb1 HB0 HC0 hne
  generalize (gaps (ls s)).length = m at *
  have c0 := CellsAt.cell HC1.out 0
  have c1 := CellsAt.cell HC1.out 1
  have c2 := CellsAt.cell HC1.out 2
  have c3 := CellsAt.cell HC1.out 3
  have c4 := CellsAt.cell HC1.out 4
  simp only [List.getElem?_cons_zero, List.getElem?_cons_succ] at c0 c1 c2 c3 c4
  go_wp2_with fail
  refine (HIn.out _).mono ?_
  rintro e w2 ⟨rfl, hb2⟩
  have HB2 : Hid (Below w.heap.size w w2) := HB1.out.trans (hb2.mono HB1.out.size)
  clear hb2 HB1 HC1 c0 c1 c2 c3 c4
  go_wp2
  go_ret2
  exact ⟨rfl, HB2.out⟩

set_option maxHeartbeats 400000 in
theorem recScan_long (s : ByteArray) (hs : 600 < s.size) (hm : s.size ≤ maxLen) (w : World) :
    Calls Try.prog 47 #[.string s] w fun e w' => e = .returned (.tuple #[.slice none 0 0, .slice none 0 0, .int .i64 2]) ∧ w' = w := by
  unfold maxLen at hm
  go_enter Try.func47, Try.ntmps47
  go_wp2
  go_ret3
  exact ⟨rfl, rfl⟩
set_option maxRecDepth 100000 in
set_option maxHeartbeats 2000000 in
theorem progNew_long (r : Raw) (s : ByteArray) (hs : 600 < s.size) (hm : s.size ≤ maxLen) (w : World) :
    Calls Try.prog 52 #[.agg r.cells.toArray, .string s] w fun e w' => e = .returned (.tuple #[.pointer none, .int .i64 2]) ∧ Below w.heap.size w w' := by
  obtain ⟨sd, bt, ra, mo, de⟩ := r
  show Calls Try.prog 52 #[.agg #[.int .u64 sd, .int .u8 bt, .int .i32 ra, .int .i32 mo, .int .u8 de], .string s] w _
  go_enter Try.func52, Try.ntmps52
  go_wp2_with fail
  refine (recScan_long s hs hm _).mono ?_
  rintro e w1 ⟨rfl, hw⟩
  have hw' := hw.symm
  clear hw
  subst hw'
  go_wp2
  go_ret2
  exact ⟨rfl, (Below.refl _ _).alloc (Nat.le_refl _) _⟩
end Go.Proofs.Ytfpodnleimhohaa
