import Derived.Test.YtfpodnleimhohabGreatDoorWalksSC
import Derived.Test.YtfpodnleimhohabGreatDoorSEF
/-
  WALKS: a save read back (the program's Read).
-/
namespace Go.Proofs.YtfpodnleimhohabGreatDoor
open Go.RowKit
set_option linter.unusedVariables false
set_option linter.unusedSimpArgs false

/-- The cells of what a save tells. -/
def rdCells (S : Sv) : List Value := [.string (bs S.m4), .int .i64 S.n] ++ ((tabw 128 S.w ++ tab 128 S.v) ++ [])
def zsCells : List Value := svHead (bs []) 0 ++ (lrnCells St.zero ++ [])
theorem head_beq (A : ByteArray) : (A.toList == [68, 82, 76, 49]) = decide (ls A = headL) := by
  rw [ByteArray.toList_eq]
  show (ls A == headL) = _
  by_cases h : ls A = headL
  · rw [h]; simp
  · simp [h]
theorem zero_lrn : Tryz.zeroCells65 = (lrnCells St.zero).toArray := by kernel_rfl
theorem zero_state : Tryz.zeroCells157 = (svHead (bs []) 0 ++ (lrnCells St.zero ++ [])).toArray := by kernel_rfl
theorem info_state : (Tryz.prog.info? 157).map (·.size) = some 258 := by kernel_rfl
theorem lrn_zero : (Tryz.prog.info? 65).bind (·.zero) = some (.agg ((tabw 128 fun _ => 0) ++ (tab 128 fun _ => 0)).toArray) := by kernel_rfl
theorem lrn_places : ((Tryz.prog.underlying 65).bind fun d => match d with | .struct fields => fields.toList.mapM (fun f => (Tryz.prog.info? f.type).map fun i => (f.offset, i.size)) | _ => none) = some [(0, 128), (128, 128)] := by kernel_rfl
theorem lrn_built (a b : List Value) (ha : a.length = 128) (hb : b.length = 128) : Tryz.prog.built 65 [(0, .agg a.toArray), (1, .agg b.toArray)] = some (a ++ b).toArray := by
  rw [built_of lrn_zero lrn_places]
  have e0 := fill_put (place := ([(0, 128), (128, 128)].toArray[·]?)) (i := 0) (off := 0) (v := .agg a.toArray) (cs := a) [] (tabw 128 fun _ => 0) (tab 128 fun _ => 0) (rest := [(1, .agg b.toArray)]) (by rw [ha]; rfl) rfl rfl (by rw [tabw_length, ha])
  have e1 := fill_put (place := ([(0, 128), (128, 128)].toArray[·]?)) (i := 1) (off := 128) (v := .agg b.toArray) (cs := b) a (tab 128 fun _ => 0) [] (rest := []) (by rw [hb]; rfl) ha rfl (by rw [tab_length, hb])
  simp only [List.append_nil] at e1
  exact (e0.trans e1).trans rfl
theorem cells_one (l : List Value) (h : ∀ u ∈ l, u.oneCell' = true) (m : ByteArray) (n : Int) : ∀ u ∈ ([.string m, .int .i64 n] : List Value) ++ (l ++ []), u.oneCell' = true := by
  intro u hu
  simp only [List.append_nil, List.mem_append, List.mem_cons, List.not_mem_nil, or_false] at hu
  rcases hu with (rfl | rfl) | hu
  · rfl
  · rfl
  · exact h u hu
/-- Reading, in the program's order. -/
theorem pRead_short {l : List UInt8} (h : l.length < 8 ∨ l.take 4 ≠ headL) : pRead l = none := by unfold pRead; rw [if_pos h]
theorem pRead_no {l : List UInt8} (h : rdNums (l.drop 8) = none) : pRead l = none := by unfold pRead; rw [h]; split <;> rfl
theorem rdNums_no {l : List UInt8} (h : rv l = none) : rdNums l = none := by unfold rdNums; rw [h]
theorem rdNums_big {l : List UInt8} {v : Int} {k : Nat} (h : rv l = some (v, k)) (h4 : 400 < v) : rdNums l = none := by unfold rdNums; rw [h]; simp only; rw [if_pos h4]
theorem rdNums_now {l : List UInt8} {v : Int} {k : Nat} (h : rv l = some (v, k)) (h1 : rt 16777216 128 0 (fun _ => 0) (l.drop k) = none) : rdNums l = none := by
  unfold rdNums; rw [h]; simp only; rw [h1]; split <;> rfl
theorem rdNums_nov {l : List UInt8} {v : Int} {k : Nat} (h : rv l = some (v, k)) {F : Nat → Int} {r : List UInt8} (h1 : rt 16777216 128 0 (fun _ => 0) (l.drop k) = some (F, r)) (h2 : rt 1073741824 128 0 (fun _ => 0) r = none) : rdNums l = none := by
  unfold rdNums; rw [h]; simp only; rw [h1]; simp only; rw [h2]; split <;> rfl
theorem rdNums_yes {l : List UInt8} {v : Int} {k : Nat} (h : rv l = some (v, k)) (h4 : ¬ 400 < v) {F G : Nat → Int} {r q : List UInt8} (h1 : rt 16777216 128 0 (fun _ => 0) (l.drop k) = some (F, r)) (h2 : rt 1073741824 128 0 (fun _ => 0) r = some (G, q)) : rdNums l = some (v.toNat, F, G, q) := by
  unfold rdNums; rw [h]; simp only; rw [if_neg h4, h1]; simp only; rw [h2]
theorem pRead_end {l : List UInt8} (h : ¬ (l.length < 8 ∨ l.take 4 ≠ headL)) {n : Nat} {F G : Nat → Int} {p : Nat} (hp : p ≤ l.length) (h1 : rdNums (l.drop 8) = some (n, F, G, l.drop p)) :
    pRead l = if le (crc (l.take p)) 4 = l.drop p then some ⟨(l.drop 4).take 4, n, F, G⟩ else none := by
  unfold pRead
  rw [if_neg h, h1]
  simp only
  rw [List.length_drop, show l.length - (l.length - p) = p by omega]

set_option maxRecDepth 100000 in
set_option maxHeartbeats 8000000 in
theorem read_any (s : ByteArray) (hs : s.size ≤ maxLen) (w : World) :
    Calls Tryz.prog 73 #[.string s] w fun e w' => ((∃ S, pRead (ls s) = some S ∧ e = .returned (.tuple #[.agg (rdCells S).toArray, .bool true])) ∨ (pRead (ls s) = none ∧ ∃ zc : List Value, zc.length = 258 ∧ (∀ u ∈ zc, u.oneCell' = true) ∧ e = .returned (.tuple #[.agg zc.toArray, .bool false]))) ∧ Below w.heap.size w w' := by
  have hsm := hs
  unfold maxLen at hs
  obtain ⟨w0, Hw0⟩ : ∃ w0, Hid (w.alloc (.cells Tryz.zeroCells157 157) = w0) := ⟨_, (rfl : _ = _)⟩
  obtain ⟨zs, Hzs⟩ : ∃ zs, Hid (zsCells = zs) := ⟨_, (rfl : _ = _)⟩
  have HzL : Hid (zs.length = 258) := by show _ = _; rw [← Hzs.out]; simp [zsCells, svHead, lrnCells_length]
  have HzO : Hid (∀ u ∈ zs, u.oneCell' = true) := by
    show ∀ u ∈ zs, _
    rw [← Hzs.out]
    refine cells_one (lrnCells St.zero) (fun u hu => ?_) _ _
    unfold lrnCells at hu
    rcases List.mem_append.1 hu with hu | hu
    · exact tabw_one _ _ u hu
    · exact tab_one _ _ u hu
  have HzI : Hid ((Tryz.prog.info? 157).map (·.size) = some zs.toArray.size) := by show _ = _; rw [List.size_toArray, HzL.out]; exact info_state
  have HzT : Hid (Tryz.zeroCells157 = zs.toArray) := by show _ = _; rw [← Hzs.out]; exact zero_state
  have HB0 : Hid (Below w.heap.size w w0) := by rw [← Hw0.out]; exact (Below.refl _ _).alloc (Nat.le_refl _) _
  have HC0 : Hid (CellsAt w0 w.heap.size 157 zs) := by rw [← Hw0.out]; exact CellsAt.new w _ _ _ HzT.out rfl
  obtain ⟨zt, Hzt⟩ : ∃ zt, Hid (tab 128 (fun _ => (0 : Int)) = zt) := ⟨_, (rfl : _ = _)⟩
  have HztL : Hid (zt.length = 128) := by show _ = _; rw [← Hzt.out, tab_length]
  have HztO : Hid (∀ u ∈ zt, u.oneCell' = true) := by show ∀ u ∈ zt, _; rw [← Hzt.out]; exact tab_one _ _
  have HztI : Hid ((Tryz.prog.info? 177).map (·.size) = some zt.length) := by show _ = _; rw [HztL.out]; exact info_table
  by_cases h8 : s.size < 8
  · have Hno : Hid (pRead (ls s) = none) := pRead_short (.inl (by rw [ls_length]; exact h8))
    go_enter Tryz.func73, Tryz.ntmps73
    have HTh : Hid (w0.there w.heap.size 0 zs.toArray.size) := by
      have := CellsAt.there HC0.out
      rw [List.size_toArray]
      exact this
    go_wp2_with (first
      | rw [Hw0.out]
      | rw [HzT.out]
      | (refine wpList_store_mid rfl 157 (.tmp 2) (.tmp 23) rfl _ _ zs.toArray rfl rfl HTh.out HzI.out (all_oneCell_toArray HzO.out) ?_))
    have hld := run_loadVar_mid (P := Tryz.prog) (w0.setCells w.heap.size 0 zs) w.heap.size 0 157 zs _ (World.rangeAt_setCells_same _ _ _ _ (by have := HTh.out; rw [List.size_toArray] at this; exact this)) Tryz.underlying157 rfl (by have := HzI.out; rw [List.size_toArray] at this; exact this)
    refine bodyPost_ret (v := .tuple #[.agg zs.toArray, .bool false]) ?_ rfl ⟨.inr ⟨Hno.out, zs, HzL.out, HzO.out, rfl⟩, below_setCells (Nat.le_refl _) zs 0 HB0.out⟩
    simp [results, Tryz.results73, asAddr, hld, Act.put]
  obtain ⟨A, HA, hAz⟩ : ∃ A : ByteArray, Hid (s.extract 0 4 = A ∧ ls A = (ls s).take 4) ∧ A.size = 4 := ⟨s.extract 0 4, ⟨rfl, by rw [ls_cut]; simp⟩, by rw [ByteArray.size_extract]; omega⟩
  by_cases hh : ls A = headL
  case neg =>
    have Hno : Hid (pRead (ls s) = none) := pRead_short (.inr (by rw [← HA.out.2]; exact hh))
    have hne : (!A.toList == [68, 82, 76, 49]) = true := by
      rw [head_beq, decide_eq_false hh]
      rfl
    clear hh
    go_enter Tryz.func73, Tryz.ntmps73
    have HTh : Hid (w0.there w.heap.size 0 zs.toArray.size) := by
      have := CellsAt.there HC0.out
      rw [List.size_toArray]
      exact this
    go_wp2_with (first
      | rw [Hw0.out]
      | rw [HA.out.1]
      | rw [HzT.out]
      | (refine wpList_store_mid rfl 157 (.tmp 2) (.tmp 23) rfl _ _ zs.toArray rfl rfl HTh.out HzI.out (all_oneCell_toArray HzO.out) ?_))
    have hld := run_loadVar_mid (P := Tryz.prog) (w0.setCells w.heap.size 0 zs) w.heap.size 0 157 zs _ (World.rangeAt_setCells_same _ _ _ _ (by have := HTh.out; rw [List.size_toArray] at this; exact this)) Tryz.underlying157 rfl (by have := HzI.out; rw [List.size_toArray] at this; exact this)
    refine bodyPost_ret (v := .tuple #[.agg zs.toArray, .bool false]) ?_ rfl ⟨.inr ⟨Hno.out, zs, HzL.out, HzO.out, rfl⟩, below_setCells (Nat.le_refl _) zs 0 HB0.out⟩
    simp [results, Tryz.results73, asAddr, hld, Act.put]
  have heq : (!A.toList == [68, 82, 76, 49]) = false := by
    rw [head_beq, decide_eq_true hh]
    rfl
  have HHd : Hid (¬ ((ls s).length < 8 ∨ (ls s).take 4 ≠ headL)) := by
    show ¬ _
    rw [ls_length, ← HA.out.2]
    intro h
    rcases h with h | h
    · exact h8 h
    · exact h hh
  clear hh
  have HRV : Hid (∀ w1, _) := fun w1 => readVarint_any s 8 hsm (by unfold maxLen; omega) w1
  cases hv : rv ((ls s).drop 8) with
  | none =>
    rw [rvAns_none 8 hv] at HRV
    have Hno : Hid (pRead (ls s) = none) := pRead_no (rdNums_no hv)
    clear hv
    go_enter Tryz.func73, Tryz.ntmps73
    go_wp2_with (first | rw [Hw0.out] | rw [HA.out.1])
    refine (HRV.out _).mono ?_
    rintro e w1 ⟨rfl, hw⟩
    have hw' := hw.symm
    clear hw
    subst hw'
    have HTh : Hid (w0.there w.heap.size 0 zs.toArray.size) := by
      have := CellsAt.there HC0.out
      rw [List.size_toArray]
      exact this
    go_wp2_with (first
      | rw [HzT.out]
      | (refine wpList_store_mid rfl 157 (.tmp 2) (.tmp 37) rfl _ _ zs.toArray rfl rfl HTh.out HzI.out (all_oneCell_toArray HzO.out) ?_))
    have hld := run_loadVar_mid (P := Tryz.prog) (w0.setCells w.heap.size 0 zs) w.heap.size 0 157 zs _ (World.rangeAt_setCells_same _ _ _ _ (by have := HTh.out; rw [List.size_toArray] at this; exact this)) Tryz.underlying157 rfl (by have := HzI.out; rw [List.size_toArray] at this; exact this)
    refine bodyPost_ret (v := .tuple #[.agg zs.toArray, .bool false]) ?_ rfl ⟨.inr ⟨Hno.out, zs, HzL.out, HzO.out, rfl⟩, below_setCells (Nat.le_refl _) zs 0 HB0.out⟩
    simp [results, Tryz.results73, asAddr, hld, Act.put]
  | some y =>
    obtain ⟨v, k⟩ := y
    obtain ⟨h0, h1, hk, r, hr⟩ := rv_some hv
    have hv2 : v ≤ 9223372036854775807 := by
      have e : (128 : Int) ^ 9 = 9223372036854775808 := by decide
      omega
    have hkl : 8 + k ≤ s.size := by
      have := congrArg List.length hr
      rw [List.length_drop, ls_length, List.length_append, ← hk] at this
      omega
    have HV : Hid (rv ((ls s).drop 8) = some (v, k)) := hv
    obtain ⟨p1, Hp1⟩ : ∃ p1, Hid (8 + k = p1) := ⟨_, (rfl : _ = _)⟩
    rw [rvAns_some' (b := (p1 : Int)) 8 hv rfl (by rw [← Hp1.out]; omega)] at HRV
    rw [Hp1.out] at hkl
    have Hd1 : Hid (((ls s).drop 8).drop k = (ls s).drop p1) := by show _ = _; rw [List.drop_drop, Hp1.out]
    clear hv h1 hk hr
    by_cases h4 : 400 < v
    · have Hno : Hid (pRead (ls s) = none) := pRead_no (rdNums_big HV.out h4)
      go_enter Tryz.func73, Tryz.ntmps73
      go_wp2_with (first | rw [Hw0.out] | rw [HA.out.1])
      refine (HRV.out _).mono ?_
      rintro e w1 ⟨rfl, hw⟩
      have hw' := hw.symm
      clear hw
      subst hw'
      have HTh : Hid (w0.there w.heap.size 0 zs.toArray.size) := by
        have := CellsAt.there HC0.out
        rw [List.size_toArray]
        exact this
      go_wp2_with (first
        | rw [HzT.out]
        | (refine wpList_store_mid rfl 157 (.tmp 2) (.tmp 37) rfl _ _ zs.toArray rfl rfl HTh.out HzI.out (all_oneCell_toArray HzO.out) ?_))
      have hld := run_loadVar_mid (P := Tryz.prog) (w0.setCells w.heap.size 0 zs) w.heap.size 0 157 zs _ (World.rangeAt_setCells_same _ _ _ _ (by have := HTh.out; rw [List.size_toArray] at this; exact this)) Tryz.underlying157 rfl (by have := HzI.out; rw [List.size_toArray] at this; exact this)
      refine bodyPost_ret (v := .tuple #[.agg zs.toArray, .bool false]) ?_ rfl ⟨.inr ⟨Hno.out, zs, HzL.out, HzO.out, rfl⟩, below_setCells (Nat.le_refl _) zs 0 HB0.out⟩
      simp [results, Tryz.results73, asAddr, hld, Act.put]
    go_enter Tryz.func73, Tryz.ntmps73
    go_wp2_with (first | rw [Hw0.out] | rw [HA.out.1])
    refine (HRV.out _).mono ?_
    rintro e w1 ⟨rfl, hw⟩
    have hw' := hw.symm
    clear hw
    subst hw'
    go_wp2_with fail
    refine (readTable_any s p1 hsm hkl 16777216 (by decide) (by decide) _).mono ?_
    rintro e w2 ⟨hcase, hb2⟩
    have HB2 : Hid (Below w.heap.size w w2) := HB0.out.trans (hb2.mono HB0.out.size)
    have HC2 : Hid (CellsAt w2 w.heap.size 157 zs) := CellsAt.later HC0.out hb2
    clear hb2
    rcases hcase with ⟨F, p2, hF, hp2, rfl⟩ | ⟨hF, rfl⟩
    case inr =>
      have Hno : Hid (pRead (ls s) = none) := pRead_no (rdNums_now HV.out (by rw [Hd1.out]; exact hF))
      clear hF
      rw [Hzt.out]
      have HB3 : Hid (Below w.heap.size w (w2.alloc (.cells zt.toArray 177))) := HB2.out.alloc HB2.out.size _
      have HC3 : Hid (CellsAt (w2.alloc (.cells zt.toArray 177)) w.heap.size 157 zs) := CellsAt.alloc HC2.out _
      have HTh : Hid ((w2.alloc (.cells zt.toArray 177)).there w.heap.size 0 zs.toArray.size) := by
        have := CellsAt.there HC3.out
        rw [List.size_toArray]
        exact this
      go_wp2_with (first
        | (refine wpList_store_new rfl 177 (.tmp 8) (.tmp 42) rfl _ zt rfl rfl HztI.out HztL.out.symm HztO.out ?_)
        | rw [HzT.out]
        | (refine wpList_store_mid rfl 157 (.tmp 2) (.tmp 47) rfl _ _ zs.toArray rfl rfl HTh.out HzI.out (all_oneCell_toArray HzO.out) ?_))
      have hld := run_loadVar_mid (P := Tryz.prog) ((w2.alloc (.cells zt.toArray 177)).setCells w.heap.size 0 zs) w.heap.size 0 157 zs _ (World.rangeAt_setCells_same _ _ _ _ (by have := HTh.out; rw [List.size_toArray] at this; exact this)) Tryz.underlying157 rfl (by have := HzI.out; rw [List.size_toArray] at this; exact this)
      refine bodyPost_ret (v := .tuple #[.agg zs.toArray, .bool false]) ?_ rfl ⟨.inr ⟨Hno.out, zs, HzL.out, HzO.out, rfl⟩, below_setCells (Nat.le_refl _) zs 0 HB3.out⟩
      simp [results, Tryz.results73, asAddr, hld, Act.put]
    have HF : Hid (rt 16777216 128 0 (fun _ => 0) (((ls s).drop 8).drop k) = some (F, (ls s).drop p2)) := by rw [Hd1.out]; exact hF
    obtain ⟨_, HFb, _⟩ := rt_some 128 _ _ _ _ _ hF
    have HFB : Hid (∀ i, i < 128 → -16777216 ≤ F i ∧ F i ≤ 16777216) := fun i hi => HFb i (by omega) (by omega)
    clear hF HFb
    obtain ⟨xt, Hxt⟩ : ∃ xt, Hid (tab 128 F = xt) := ⟨_, (rfl : _ = _)⟩
    have HxtL : Hid (xt.length = 128) := by show _ = _; rw [← Hxt.out, tab_length]
    have HxtO : Hid (∀ u ∈ xt, u.oneCell' = true) := by show ∀ u ∈ xt, _; rw [← Hxt.out]; exact tab_one _ _
    have HxtI : Hid ((Tryz.prog.info? 177).map (·.size) = some xt.length) := by show _ = _; rw [HxtL.out]; exact info_table
    rw [Hxt.out]
    have HB3 : Hid (Below w.heap.size w (w2.alloc (.cells xt.toArray 177))) := HB2.out.alloc HB2.out.size _
    have HC3 : Hid (CellsAt (w2.alloc (.cells xt.toArray 177)) w.heap.size 157 zs) := CellsAt.alloc HC2.out _
    have HX3 : Hid (CellsAt (w2.alloc (.cells xt.toArray 177)) w2.heap.size 177 xt) := CellsAt.new _ _ _ _ rfl rfl
    go_wp2_with (refine wpList_store_new rfl 177 (.tmp 8) (.tmp 42) rfl _ xt rfl rfl HxtI.out HxtL.out.symm HxtO.out ?_)
    generalize w2.alloc (.cells xt.toArray 177) = w3 at *
    generalize w2.heap.size = gW at *
    refine (readTable_any s p2 hsm hp2 1073741824 (by decide) (by decide) _).mono ?_
    rintro e w4 ⟨hcase, hb4⟩
    have HB4 : Hid (Below w.heap.size w w4) := HB3.out.trans (hb4.mono HB3.out.size)
    have HC4 : Hid (CellsAt w4 w.heap.size 157 zs) := CellsAt.later HC3.out hb4
    have HX4 : Hid (CellsAt w4 gW 177 xt) := CellsAt.later HX3.out hb4
    clear hb4 HB3 HC3 HX3
    rcases hcase with ⟨G, p3, hG, hp3, rfl⟩ | ⟨hG, rfl⟩
    case inr =>
      have Hno : Hid (pRead (ls s) = none) := pRead_no (rdNums_nov HV.out HF.out hG)
      clear hG
      rw [Hzt.out]
      have HB5 : Hid (Below w.heap.size w (w4.alloc (.cells zt.toArray 177))) := HB4.out.alloc HB4.out.size _
      have HC5 : Hid (CellsAt (w4.alloc (.cells zt.toArray 177)) w.heap.size 157 zs) := CellsAt.alloc HC4.out _
      have HTh : Hid ((w4.alloc (.cells zt.toArray 177)).there w.heap.size 0 zs.toArray.size) := by
        have := CellsAt.there HC5.out
        rw [List.size_toArray]
        exact this
      go_wp2_with (first
        | (refine wpList_store_new rfl 177 (.tmp 10) (.tmp 52) rfl _ zt rfl rfl HztI.out HztL.out.symm HztO.out ?_)
        | rw [HzT.out]
        | (refine wpList_store_mid rfl 157 (.tmp 2) (.tmp 63) rfl _ _ zs.toArray rfl rfl HTh.out HzI.out (all_oneCell_toArray HzO.out) ?_))
      have hld := run_loadVar_mid (P := Tryz.prog) ((w4.alloc (.cells zt.toArray 177)).setCells w.heap.size 0 zs) w.heap.size 0 157 zs _ (World.rangeAt_setCells_same _ _ _ _ (by have := HTh.out; rw [List.size_toArray] at this; exact this)) Tryz.underlying157 rfl (by have := HzI.out; rw [List.size_toArray] at this; exact this)
      refine bodyPost_ret (v := .tuple #[.agg zs.toArray, .bool false]) ?_ rfl ⟨.inr ⟨Hno.out, zs, HzL.out, HzO.out, rfl⟩, below_setCells (Nat.le_refl _) zs 0 HB5.out⟩
      simp [results, Tryz.results73, asAddr, hld, Act.put]
    have HN : Hid (rdNums ((ls s).drop 8) = some (v.toNat, F, G, (ls s).drop p3)) := rdNums_yes HV.out (by omega) HF.out hG
    have HE : Hid _ := pRead_end HHd.out (by rw [ls_length]; exact hp3) HN.out
    clear hG
    obtain ⟨xv, Hxv⟩ : ∃ xv, Hid (tab 128 G = xv) := ⟨_, (rfl : _ = _)⟩
    have HxvL : Hid (xv.length = 128) := by show _ = _; rw [← Hxv.out, tab_length]
    have HxvO : Hid (∀ u ∈ xv, u.oneCell' = true) := by show ∀ u ∈ xv, _; rw [← Hxv.out]; exact tab_one _ _
    have HxvI : Hid ((Tryz.prog.info? 177).map (·.size) = some xv.length) := by show _ = _; rw [HxvL.out]; exact info_table
    rw [Hxv.out]
    have HB5 : Hid (Below w.heap.size w (w4.alloc (.cells xv.toArray 177))) := HB4.out.alloc HB4.out.size _
    have HC5 : Hid (CellsAt (w4.alloc (.cells xv.toArray 177)) w.heap.size 157 zs) := CellsAt.alloc HC4.out _
    have HX5 : Hid (CellsAt (w4.alloc (.cells xv.toArray 177)) gW 177 xt) := CellsAt.alloc HX4.out _
    have HV5 : Hid (CellsAt (w4.alloc (.cells xv.toArray 177)) w4.heap.size 177 xv) := CellsAt.new _ _ _ _ rfl rfl
    have HES : Hid (∀ w1, _) := fun w1 => endsInSum_any s p3 hsm hp3 w1
    go_wp2_with (refine wpList_store_new rfl 177 (.tmp 10) (.tmp 52) rfl _ xv rfl rfl HxvI.out HxvL.out.symm HxvO.out ?_)
    generalize w4.alloc (.cells xv.toArray 177) = w5 at *
    generalize w4.heap.size = gV at *
    refine (HES.out _).mono ?_
    rintro e w6 ⟨rfl, hb6⟩
    have HB6 : Hid (Below w.heap.size w w6) := HB5.out.trans (hb6.mono HB5.out.size)
    have HC6 : Hid (CellsAt w6 w.heap.size 157 zs) := CellsAt.later HC5.out hb6
    have HX6 : Hid (CellsAt w6 gW 177 xt) := CellsAt.later HX5.out hb6
    have HV6 : Hid (CellsAt w6 gV 177 xv) := CellsAt.later HV5.out hb6
    clear hb6 HB5 HC5 HX5 HV5 HES
    by_cases hsum : le (crc ((ls s).take p3)) 4 = (ls s).drop p3
    case neg =>
      have Hno : Hid (pRead (ls s) = none) := by show _ = _; rw [HE.out, if_neg hsum]
      rw [decide_eq_false hsum]
      clear hsum
      have HTh : Hid (w6.there w.heap.size 0 zs.toArray.size) := by
        have := CellsAt.there HC6.out
        rw [List.size_toArray]
        exact this
      go_wp2_with (first
        | rw [HzT.out]
        | (refine wpList_store_mid rfl 157 (.tmp 2) (.tmp 63) rfl _ _ zs.toArray rfl rfl HTh.out HzI.out (all_oneCell_toArray HzO.out) ?_))
      have hld := run_loadVar_mid (P := Tryz.prog) (w6.setCells w.heap.size 0 zs) w.heap.size 0 157 zs _ (World.rangeAt_setCells_same _ _ _ _ (by have := HTh.out; rw [List.size_toArray] at this; exact this)) Tryz.underlying157 rfl (by have := HzI.out; rw [List.size_toArray] at this; exact this)
      refine bodyPost_ret (v := .tuple #[.agg zs.toArray, .bool false]) ?_ rfl ⟨.inr ⟨Hno.out, zs, HzL.out, HzO.out, rfl⟩, below_setCells (Nat.le_refl _) zs 0 HB6.out⟩
      simp [results, Tryz.results73, asAddr, hld, Act.put]
    rw [decide_eq_true hsum]
    have Hyes : Hid (pRead (ls s) = some ⟨((ls s).drop 4).take 4, v.toNat, F, G⟩) := by show _ = _; rw [HE.out, if_pos hsum]
    clear hsum HE HN
    obtain ⟨M, HM, hMz⟩ : ∃ M : ByteArray, Hid (s.extract 4 8 = M ∧ ls M = ((ls s).drop 4).take 4) ∧ M.size = 4 := ⟨s.extract 4 8, ⟨rfl, by rw [ls_cut]⟩, by rw [ByteArray.size_extract]; omega⟩
    go_wp2_with (rw [HM.out.1])
    have HRx : Hid (∀ w', Below w6.heap.size w6 w' → w'.rangeAt gW 0 xt ∧ w'.rangeAt gV 0 xv) := fun w' hb => ⟨CellsAt.range (CellsAt.later HX6.out hb), CellsAt.range (CellsAt.later HV6.out hb)⟩
    have HK0 : Hid _ := HRx.out _ (Below.refl _ _).drew
    have HxvI2 : Hid ((Tryz.prog.info? 63).map (·.size) = some xv.length) := by show _ = _; rw [HxvL.out]; exact info_t128
    have HNa : Hid (∀ w1, _) := fun w1 => narrowed_any F HFB.out w1
    rw [Hxt.out] at HNa
    obtain ⟨xw, Hxw⟩ : ∃ xw, Hid (tabw 128 F = xw) := ⟨_, (rfl : _ = _)⟩
    have HxwL : Hid (xw.length = 128) := by show _ = _; rw [← Hxw.out, tabw_length]
    rw [Hxw.out] at HNa
    obtain ⟨lc, Hlc⟩ : ∃ lc, Hid (xw ++ xv = lc) := ⟨_, (rfl : _ = _)⟩
    have HlB : Hid (Tryz.prog.built 65 [(0, .agg xw.toArray), (1, .agg xv.toArray)] = some lc.toArray) := by show _ = _; rw [← Hlc.out]; exact lrn_built xw xv HxwL.out HxvL.out
    have HlL : Hid (lc.length = 256) := by show _ = _; rw [← Hlc.out, List.length_append, HxwL.out, HxvL.out]
    have HlO : Hid (∀ u ∈ lc, u.oneCell' = true) := by
      show ∀ u ∈ lc, _
      rw [← Hlc.out]
      intro u hu
      rcases List.mem_append.1 hu with hu | hu
      · rw [← Hxw.out] at hu; exact tabw_one _ _ u hu
      · exact HxvO.out u hu
    have HlI : Hid ((Tryz.prog.info? 65).map (·.size) = some lc.length) := by show _ = _; rw [HlL.out]; exact info_lrn
    go_cut [13] (fun pv wc => ∃ gL, pv = .pointer (some ⟨gL, 0, none⟩) ∧ Hid (CellsAt wc gL 65 lc ∧ CellsAt wc w.heap.size 157 zs ∧ Below w.heap.size w wc))
    case first =>
      refine wp_region_held_drew (S := fun w' => w'.rangeAt gW 0 xt ∧ w'.rangeAt gV 0 xv) (by kernel_rfl) HK0.out (fun hHeld => ?_)
      refine takeTo (i := 0) (v := .agg xt.toArray) (some 67) rfl (by kernel_rfl) (by kernel_rfl) (by kernel_rfl) (fun _ _ _ h => h) rfl (yieldsIf_load_mid (by rfl) 177 (.tmp 8) rfl gW 0 rfl xt _ (fun w' h => h.1) Tryz.underlying177 rfl HxtI.out) hHeld ?_
      simp only [Act.put, List.setIfInBounds_toArray, List.set_cons_zero, List.set_cons_succ]
      refine takeTo (i := 2) (v := (.pointer (some ⟨gV, 0, none⟩))) (some 69) rfl (by kernel_rfl) (by kernel_rfl) (by kernel_rfl) (fun _ _ _ h => h) rfl (Or.inl ⟨by rfl, ?_⟩) hHeld ?_
      · intro w' hSw
        (try dsimp only at hSw)
        clear hSw
        go_simp
      simp only [Act.put, List.setIfInBounds_toArray, List.set_cons_zero, List.set_cons_succ]
      refine takeTo (i := 3) (v := .agg xv.toArray) (some 70) rfl (by kernel_rfl) (by kernel_rfl) (by kernel_rfl) (fun _ _ _ h => h) rfl (yieldsIf_load_mid (by rfl) 63 (.tmp 69) rfl gV 0 rfl xv _ (fun w' h => h.2) Tryz.underlying63 rfl HxvI2.out) hHeld ?_
      simp only [Act.put, List.setIfInBounds_toArray, List.set_cons_zero, List.set_cons_succ]
      refine wpAnyH_ready (rs := [1, 5]) (by kernel_rfl) (by simp) ?_
      refine AllReadyH.cons rfl (fun K hK => ?_) (AllReadyH.cons rfl (fun K hK => ?_) AllReadyH.nil)
      · go_simp
        go_at_call 90
        refine (HNa.out _).mono ?_
        rintro e w7 ⟨rfl, hb7⟩
        have HB7 : Hid (Below w6.heap.size w6 w7) := ⟨hb7.os, hb7.tape, hb7.output, hb7.size, hb7.block⟩
        clear hb7
        refine hK.out _ _ (HRx.out _ HB7.out) (fun hHeld7 => ?_)
        clear hK K hHeld
        refine takeTo (i := 4) (v := .agg lc.toArray) (some 71) rfl (by kernel_rfl) (by kernel_rfl) (by kernel_rfl) (fun _ _ _ h => h) rfl (yieldsIf_build (by rfl) 65 _ rfl [(0, .agg xw.toArray), (1, .agg xv.toArray)] rfl _ HlB.out) hHeld7 ?_
        simp only [Act.put, List.setIfInBounds_toArray, List.set_cons_zero, List.set_cons_succ]
        refine wpAnyH_ready (rs := [5]) (by kernel_rfl) (by simp) ?_
        refine AllReadyH.cons rfl (fun K hK => ?_) AllReadyH.nil
        go_simp
        refine hK.out _ _ (HRx.out _ (HB7.out.alloc HB7.out.size _)) (fun hHeld8 => ?_)
        clear hK K hHeld7
        refine wpAnyH_ready (rs := [6]) (by kernel_rfl) (by simp) ?_
        refine AllReadyH.cons rfl (fun K hK => ?_) AllReadyH.nil
        rw [if_pos (by rfl)]
        refine wp_store_new 65 _ _ rfl _ lc rfl rfl HlI.out (by rw [zero_lrn, List.size_toArray, lrnCells_length, HlL.out]) HlO.out ?_
        simp only [Act.put, List.setIfInBounds_toArray, List.set_cons_zero, List.set_cons_succ]
        refine hK.out _ _ (HRx.out _ (HB7.out.alloc HB7.out.size _)) (fun hHeld9 => ?_)
        clear hK K hHeld8 hHeld9
        refine wpAnyH_done (by kernel_rfl) ?_ _
        go_wp2_with fail
        go_meet
        case rel => exact ⟨w7.heap.size, rfl, ⟨CellsAt.new _ _ _ _ rfl rfl, CellsAt.alloc (CellsAt.later HC6.out HB7.out) _, (HB6.out.trans (HB7.out.mono HB6.out.size)).alloc (HB6.out.trans (HB7.out.mono HB6.out.size)).size _⟩⟩
      · go_simp
        have HB8 : Hid (Below w6.heap.size w6 ((w6.alloc (.cells Tryz.zeroCells65 65)).drew)) := ((Below.refl _ _).alloc (Nat.le_refl _) _).drew
        have HZ8 : Hid (CellsAt ((w6.alloc (.cells Tryz.zeroCells65 65)).drew) w6.heap.size 65 (lrnCells St.zero)) := show CellsAt (w6.alloc (.cells Tryz.zeroCells65 65)) _ _ _ from CellsAt.new _ _ _ _ zero_lrn rfl
        refine hK.out _ _ (HRx.out _ HB8.out) (fun hHeld7 => ?_)
        clear hK K hHeld
        generalize (w6.alloc (.cells Tryz.zeroCells65 65)).drew = w8 at *
        refine wpAnyH_ready (rs := [1]) (by kernel_rfl) (by simp) ?_
        refine AllReadyH.cons rfl (fun K hK => ?_) AllReadyH.nil
        go_simp
        go_at_call 90
        refine (HNa.out _).mono ?_
        rintro e w7 ⟨rfl, hb7⟩
        have HB7 : Hid (Below w6.heap.size w6 w7) := HB8.out.trans (hb7.mono HB8.out.size)
        have HZ7 : Hid (CellsAt w7 w6.heap.size 65 (lrnCells St.zero)) := CellsAt.later HZ8.out hb7
        clear hb7 HB8 HZ8
        refine hK.out _ _ (HRx.out _ HB7.out) (fun hHeld8 => ?_)
        clear hK K hHeld7
        refine takeTo (i := 4) (v := .agg lc.toArray) (some 71) rfl (by kernel_rfl) (by kernel_rfl) (by kernel_rfl) (fun _ _ _ h => h) rfl (yieldsIf_build (by rfl) 65 _ rfl [(0, .agg xw.toArray), (1, .agg xv.toArray)] rfl _ HlB.out) hHeld8 ?_
        simp only [Act.put, List.setIfInBounds_toArray, List.set_cons_zero, List.set_cons_succ]
        refine wpAnyH_ready (rs := [6]) (by kernel_rfl) (by simp) ?_
        refine AllReadyH.cons rfl (fun K hK => ?_) AllReadyH.nil
        rw [if_pos (by rfl)]
        have HTh : Hid (w7.there w6.heap.size 0 lc.toArray.size) := by
          have := CellsAt.there HZ7.out
          rw [lrnCells_length] at this
          show w7.there w6.heap.size 0 lc.length
          rw [HlL.out]
          exact this
        have HSt : Hid (CellsAt (w7.setCells w6.heap.size 0 lc) w6.heap.size 65 lc) := by
          have h := CellsAt.sets lc [] (lrnCells St.zero) [] (by rw [lrnCells_length, HlL.out]) (by rw [List.append_nil]; exact HZ7.out)
          rw [List.append_nil] at h
          exact h
        have HBs : Hid (Below w6.heap.size w6 (w7.setCells w6.heap.size 0 lc)) := below_sets HB7.out (Nat.le_refl _) 0 lc
        refine wp_store_mid 65 _ _ rfl _ _ lc.toArray rfl rfl HTh.out (by rw [List.size_toArray]; exact HlI.out) (all_oneCell_toArray HlO.out) ?_
        simp only [Act.put, List.setIfInBounds_toArray, List.set_cons_zero, List.set_cons_succ]
        refine hK.out _ _ (HRx.out _ HBs.out) (fun hHeld9 => ?_)
        clear hK K hHeld8 hHeld9
        refine wpAnyH_done (by kernel_rfl) ?_ _
        go_wp2_with fail
        go_meet
        case rel => exact ⟨w6.heap.size, rfl, ⟨HSt.out, CellsAt.later HC6.out HBs.out, HB6.out.trans (HBs.out.mono HB6.out.size)⟩⟩
    case rest =>
      obtain ⟨gL, rfl, HZ⟩ := hcut
      have HLi : Hid (wc.rangeAt gL 0 lc) := CellsAt.range HZ.out.1
      obtain ⟨sc, Hsc⟩ : ∃ sc, Hid (rdCells ⟨((ls s).drop 4).take 4, v.toNat, F, G⟩ = sc) := ⟨_, (rfl : _ = _)⟩
      have HsE : Hid ((([.string M, .int .i64 v] : List Value) ++ (lc ++ [])) = sc) := by
        show _ = _
        rw [← Hsc.out]
        unfold rdCells
        simp only
        rw [← HM.out.2, bs_ls, show ((v.toNat : Nat) : Int) = v by omega, Hxw.out, Hxv.out, Hlc.out]
      have HsB : Hid (Tryz.prog.built 157 [(0, .string M), (1, .int .i64 v), (2, .agg lc.toArray)] = some sc.toArray) := by
        show _ = _
        rw [← HsE.out]
        exact state_built M v lc HlL.out
      have HsL : Hid (sc.length = 258) := by show _ = _; rw [← HsE.out]; simp [HlL.out]
      have HsO : Hid (∀ u ∈ sc, u.oneCell' = true) := by show ∀ u ∈ sc, _; rw [← HsE.out]; exact cells_one lc HlO.out M v
      have HsI : Hid ((Tryz.prog.info? 157).map (·.size) = some sc.length) := by show _ = _; rw [HsL.out]; exact info_state
      have HTh : Hid (wc.there w.heap.size 0 sc.toArray.size) := by
        have := CellsAt.there HZ.out.2.1
        rw [HzL.out] at this
        show wc.there w.heap.size 0 sc.length
        rw [HsL.out]
        exact this
      have HBz : Hid (Below w.heap.size w wc) := HZ.out.2.2
      have hv63 : v ≤ 400 := by omega
      clear HZ
      go_wp2_with (first
        | (refine wpList_load_mid rfl 65 (.tmp 13) rfl _ _ rfl lc _ HLi.out Tryz.underlying65 rfl HlI.out ?_)
        | (refine wpList_buildL rfl 157 _ rfl (some 76) rfl [(0, .string M), (1, .int .i64 v), (2, .agg lc.toArray)] rfl sc.toArray HsB.out ?_)
        | (refine wpList_store_mid rfl 157 (.tmp 2) (.tmp 76) rfl _ _ sc.toArray rfl rfl HTh.out (by rw [List.size_toArray]; exact HsI.out) (all_oneCell_toArray HsO.out) ?_))
      have hld := run_loadVar_mid (P := Tryz.prog) (wc.setCells w.heap.size 0 sc) w.heap.size 0 157 sc _ (World.rangeAt_setCells_same _ _ _ _ (by have := HTh.out; rw [List.size_toArray] at this; exact this)) Tryz.underlying157 rfl HsI.out
      refine bodyPost_ret (v := .tuple #[.agg sc.toArray, .bool true]) ?_ rfl ⟨.inl ⟨_, Hyes.out, by rw [Hsc.out]⟩, below_setCells (Nat.le_refl _) sc 0 HBz.out⟩
      simp [results, Tryz.results73, asAddr, hld, Act.put]
end Go.Proofs.YtfpodnleimhohabGreatDoor
