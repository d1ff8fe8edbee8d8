import Derived.Test.YtfpodnleimhohabGreatDoorWalksSB
import Derived.Test.YtfpodnleimhohabGreatDoorGK
/-
  WALKS: Save (the program's).
-/
namespace Go.Proofs.YtfpodnleimhohabGreatDoor
open Go.RowKit
set_option linter.unusedVariables false

/-- What a save tells of a run. -/
def svOf (mk : ByteArray) (st : St) : Sv := ⟨ls mk, st.steps, flat st.w, flat st.v⟩
def svHead (mk : ByteArray) (n : Nat) : List Value := [.string mk, .int .i64 n]
def stCells (mk : ByteArray) (st : St) : List Value := svHead mk st.steps ++ (lrnCells st ++ [])
abbrev SvAt (w : World) (g : Nat) (mk : ByteArray) (st : St) : Prop := LrnAt w g 157 (svHead mk st.steps) [] st
theorem flat_bd {t : Tab} {m : Int} (h : ∀ c b, c < 4 → b < 32 → -m ≤ t c b ∧ t c b ≤ m) : ∀ i, i < 128 → -m ≤ flat t i ∧ flat t i ≤ m := fun i hi => h (i / 32) (i % 32) (by omega) (Nat.mod_lt _ (by decide))
theorem LrnAt.rangeV {w : World} {g : Nat} {t : TypeId} {hd tl : List Value} {st : St} (h : LrnAt w g t hd tl st) : w.rangeAt g (hd.length + 128) (tab 128 (flat st.v)) := fun j v hv => by
  have hj : j < 128 := by
    have := (List.getElem?_eq_some_iff.1 hv).1
    rwa [tab_length] at this
  rw [CellsAt.cell h, show hd.length + 128 + j = hd.length + (128 + j) by omega, lrn_mid st (by omega)]
  unfold lrnCells
  rw [List.getElem?_append_right (by rw [tabw_length]; omega), tabw_length, show 128 + j - 128 = j by omega]
  exact hv
theorem save_parts {mk V X Y : ByteArray} {st : St} (hV : bs (var (st.steps : Int)) = V) (hX : bs (tabL (flat st.w) 128) = X) (hY : bs (tabL (flat st.v) 128) = Y) :
    ls (⟨#[68, 82, 76, 49]⟩ ++ mk ++ V ++ X ++ Y) = bodyL (svOf mk st) := by
  simp only [ls_append, ← hV, ← hX, ← hY, ls_bs]
  unfold bodyL numsL svOf
  simp only [List.append_assoc]
  rfl

set_option maxRecDepth 100000 in
set_option maxHeartbeats 4000000 in
theorem write_any (mk : ByteArray) (hmk : mk.size ≤ 100) (st : St) (hst : st.Ok) (w : World) :
    Calls Tryz.prog 78 #[.agg (stCells mk st).toArray] w fun e w' => e = .returned (.string (bs (saveL (svOf mk st)))) ∧ Below w.heap.size w w' := by
  have hs4 := hst.steps
  obtain ⟨V, HV, hVz⟩ : ∃ V, Hid (bs (var (st.steps : Int)) = V) ∧ V.size ≤ 10 := ⟨_, (rfl : _ = _), by rw [bs_size]; exact (var_length _).2⟩
  obtain ⟨X, HX, hXz⟩ : ∃ X, Hid (bs (tabL (flat st.w) 128) = X) ∧ X.size ≤ 1280 := ⟨_, (rfl : _ = _), by rw [bs_size]; exact (tabL_length _ 128).2⟩
  obtain ⟨Y, HY, hYz⟩ : ∃ Y, Hid (bs (tabL (flat st.v) 128) = Y) ∧ Y.size ≤ 1280 := ⟨_, (rfl : _ = _), by rw [bs_size]; exact (tabL_length _ 128).2⟩
  have HS : Hid (bs (saveL (svOf mk st)) = ⟨#[68, 82, 76, 49]⟩ ++ mk ++ V ++ X ++ Y ++ bs (le (crc (ls (⟨#[68, 82, 76, 49]⟩ ++ mk ++ V ++ X ++ Y))) 4)) := by
    show _ = _
    rw [save_parts HV.out HX.out HY.out]
    unfold saveL
    rw [← bs_append]
    congr 1
    rw [← save_parts HV.out HX.out HY.out, bs_ls]
  rw [HS.out]
  have HWW : Hid (∀ w1, _) := fun w1 => widened_any (flat st.w) (fun i hi => by have := flat_bd hst.w i hi; omega) w1
  have HTW : Hid (∀ w1, _) := fun w1 => tableBytes_any (flat st.w) (fun i hi => by have := flat_bd hst.w i hi; omega) w1
  have HTV : Hid (∀ w1, _) := fun w1 => tableBytes_any (flat st.v) (fun i hi => by have := flat_bd hst.v i hi; omega) w1
  rw [HX.out] at HTW
  rw [HY.out] at HTV
  obtain ⟨w0, Hw0⟩ : ∃ w0, Hid (w.alloc (.cells (stCells mk st).toArray 157) = w0) := ⟨w.alloc (.cells (stCells mk st).toArray 157), (rfl : _ = _)⟩
  have HB0 : Hid (Below w.heap.size w w0) := by rw [← Hw0.out]; exact (Below.refl _ _).alloc (Nat.le_refl _) _
  have HC0 : Hid (SvAt w0 w.heap.size mk st) := by rw [← Hw0.out]; exact CellsAt.new w _ _ _ rfl rfl
  have d1 : w0.cell? ⟨w.heap.size, 1, none⟩ = some (.int .i64 st.steps) := CellsAt.cell HC0.out 1
  obtain ⟨cells, Hcl⟩ : ∃ cells, Hid ((stCells mk st).toArray = cells) := ⟨(stCells mk st).toArray, (rfl : _ = _)⟩
  rw [Hcl.out] at Hw0 ⊢
  obtain ⟨xw, Hxw⟩ : ∃ xw, Hid (tabw 128 (flat st.w) = xw) := ⟨_, (rfl : _ = _)⟩
  obtain ⟨xt, Hxt⟩ : ∃ xt, Hid (tab 128 (flat st.w) = xt) := ⟨_, (rfl : _ = _)⟩
  obtain ⟨xv, Hxv⟩ : ∃ xv, Hid (tab 128 (flat st.v) = xv) := ⟨_, (rfl : _ = _)⟩
  have HxwI : Hid ((Tryz.prog.info? 61).map (·.size) = some xw.length) := by show _ = _; rw [← Hxw.out, tabw_length]; exact info_w128
  have HxtL : Hid (xt.length = 128) := by show _ = _; rw [← Hxt.out, tab_length]
  have HxtO : Hid (∀ u ∈ xt, u.oneCell' = true) := by show ∀ u ∈ xt, _; rw [← Hxt.out]; exact tab_one _ _
  have HxtI : Hid ((Tryz.prog.info? 177).map (·.size) = some xt.length) := by show _ = _; rw [HxtL.out]; exact info_table
  have HxvL : Hid (xv.length = 128) := by show _ = _; rw [← Hxv.out, tab_length]
  have HxvI : Hid ((Tryz.prog.info? 63).map (·.size) = some xv.length) := by show _ = _; rw [HxvL.out]; exact info_t128
  have HxvF : Hid (xv.zipIdx.foldl (fun (acc : Array Value) (p : Value × Nat) => acc.setIfInBounds p.2 p.1) Tryz.zeroCells177 = xv.toArray) := by
    have h := fold_at0 xv (tab 128 fun _ => 0) [] Tryz.zeroCells177 (by rw [List.append_nil]; exact zero_table) (by rw [tab_length, HxvL.out])
    rw [List.append_nil] at h
    exact h
  have HRw : Hid (∀ w', Below w0.heap.size w0 w' → w'.rangeAt w.heap.size 2 xw) := fun w' hb => by rw [← Hxw.out]; exact LrnAt.range (CellsAt.later HC0.out hb)
  have HRv : Hid (∀ w', Below w0.heap.size w0 w' → w'.rangeAt w.heap.size 130 xv) := fun w' hb => by rw [← Hxv.out]; exact LrnAt.rangeV (CellsAt.later HC0.out hb)
  rw [Hxw.out] at HWW
  rw [Hxt.out] at HWW HTW
  rw [Hxv.out] at HTV
  have hz0 : w.heap.size < w0.heap.size := CellsAt.lt HC0.out
  generalize hsp : st.steps = sp at *
  go_enter Tryz.func78, Tryz.ntmps78
  go_wp2_with (rw [Hw0.out])
  refine (Varint_any _ (by omega) (by omega) _).mono ?_
  rintro e w1 ⟨rfl, hb1⟩
  rw [HV.out]
  have HB1 : Hid (Below w0.heap.size w0 w1) := hb1
  have HR1 : Hid (w1.rangeAt w.heap.size 2 xw) := HRw.out _ hb1
  clear hb1 d1
  go_wp2_with (refine wpList_load_mid rfl 61 (.tmp 14) rfl _ _ rfl xw _ HR1.out Tryz.underlying61 rfl HxwI.out ?_)
  refine (HWW.out _).mono ?_
  rintro e w2 ⟨rfl, hb2⟩
  have HB3 : Hid (Below w0.heap.size w0 (w2.alloc (.cells xt.toArray 177))) := (HB1.out.trans (hb2.mono HB1.out.size)).alloc (HB1.out.trans (hb2.mono HB1.out.size)).size _
  have HT3 : Hid (CellsAt (w2.alloc (.cells xt.toArray 177)) w2.heap.size 177 xt) := CellsAt.new _ _ _ _ rfl rfl
  clear hb2 HB1 HR1
  go_wp2_with (first
    | (refine wpList_store_new rfl 177 (.tmp 4) (.tmp 16) rfl _ xt rfl rfl HxtI.out HxtL.out.symm HxtO.out ?_)
    | (refine wpList_load_mid rfl 177 (.tmp 4) rfl _ _ rfl xt _ (CellsAt.range HT3.out) Tryz.underlying177 rfl HxtI.out ?_))
  generalize w2.alloc (.cells xt.toArray 177) = w3 at *
  generalize w2.heap.size = gT at *
  refine (HTW.out _).mono ?_
  rintro e w4 ⟨rfl, hb4⟩
  have HB4 : Hid (Below w0.heap.size w0 w4) := HB3.out.trans (hb4.mono HB3.out.size)
  have HR4 : Hid (w4.rangeAt w.heap.size 130 xv) := HRv.out _ HB4.out
  have hxl : xv.length = 128 := HxvL.out
  clear hb4 HB3 HT3
  go_wp2_with (refine wpList_load_mid rfl 63 (.tmp 20) rfl _ _ rfl xv _ HR4.out Tryz.underlying63 rfl HxvI.out ?_)
  rw [HxvF.out]
  refine (HTV.out _).mono ?_
  rintro e w5 ⟨rfl, hb5⟩
  have HB5 : Hid (Below w0.heap.size w0 w5) := HB4.out.trans (hb5.mono HB4.out.size)
  have d0 : w5.cell? ⟨w.heap.size, 0, none⟩ = some (.string mk) := CellsAt.cell (CellsAt.later HC0.out HB5.out) 0
  clear hb5 HB4 HR4 hxl HxvF
  have q0 : (⟨#[68, 82, 76, 49]⟩ : ByteArray).size = 4 := rfl
  have q1 : ((⟨#[68, 82, 76, 49]⟩ : ByteArray) ++ mk).size ≤ 104 := by rw [ByteArray.size_append]; omega
  have q2 : ((⟨#[68, 82, 76, 49]⟩ : ByteArray) ++ mk ++ V).size ≤ 114 := by rw [ByteArray.size_append]; omega
  have q3 : ((⟨#[68, 82, 76, 49]⟩ : ByteArray) ++ mk ++ V ++ X).size ≤ 1394 := by rw [ByteArray.size_append]; omega
  have q4 : ((⟨#[68, 82, 76, 49]⟩ : ByteArray) ++ mk ++ V ++ X ++ Y).size ≤ 2674 := by rw [ByteArray.size_append]; omega
  go_wp2_with fail
  refine (sumBytes_any _ (by unfold maxLen; omega) _).mono ?_
  rintro e w6 ⟨rfl, hb6⟩
  have HB6 : Hid (Below w.heap.size w w6) := HB0.out.trans ((HB5.out.trans (hb6.mono HB5.out.size)).mono HB0.out.size)
  clear hb6 HB5
  obtain ⟨C, HC, hCz⟩ : ∃ C, Hid (bs (le (crc (ls ((⟨#[68, 82, 76, 49]⟩ : ByteArray) ++ mk ++ V ++ X ++ Y))) 4) = C) ∧ C.size = 4 := ⟨_, (rfl : _ = _), by rw [bs_size, le_length]⟩
  rw [HC.out]
  go_wp2
  go_ret
  exact ⟨ret_str (by rw [HC.out]), HB6.out⟩

variable {mk : ByteArray}
theorem info_lrn : (Tryz.prog.info? 65).map (·.size) = some 256 := by kernel_rfl
theorem state_zero : (Tryz.prog.info? 157).bind (·.zero) = some (.agg (svHead (bs []) 0 ++ (lrnCells St.zero ++ [])).toArray) := by kernel_rfl
theorem state_places : ((Tryz.prog.underlying 157).bind fun d => match d with | .struct fields => fields.toList.mapM (fun f => (Tryz.prog.info? f.type).map fun i => (f.offset, i.size)) | _ => none) = some [(0, 1), (1, 1), (2, 256)] := by kernel_rfl
theorem state_built (m : ByteArray) (n : Int) (lc : List Value) (h : lc.length = 256) : Tryz.prog.built 157 [(0, .string m), (1, .int .i64 n), (2, .agg lc.toArray)] = some (([.string m, .int .i64 n] : List Value) ++ (lc ++ [])).toArray := by
  rw [built_of state_zero state_places]
  have e0 := fill_put (place := ([(0, 1), (1, 1), (2, 256)].toArray[·]?)) (i := 0) (off := 0) (v := .string m) (cs := [.string m]) [] [.string (bs [])] ([.int .i64 0] ++ (lrnCells St.zero ++ [])) (rest := [(1, .int .i64 n), (2, .agg lc.toArray)]) rfl rfl rfl rfl
  have e1 := fill_put (place := ([(0, 1), (1, 1), (2, 256)].toArray[·]?)) (i := 1) (off := 1) (v := .int .i64 n) (cs := [.int .i64 n]) [.string m] [.int .i64 0] (lrnCells St.zero ++ []) (rest := [(2, .agg lc.toArray)]) rfl rfl rfl rfl
  have e2 := fill_put (place := ([(0, 1), (1, 1), (2, 256)].toArray[·]?)) (i := 2) (off := 2) (v := .agg lc.toArray) (cs := lc) [.string m, .int .i64 n] (lrnCells St.zero) [] (rest := []) (by rw [h]; rfl) rfl rfl (by rw [lrnCells_length, h])
  exact (e0.trans (e1.trans e2)).trans rfl

set_option maxRecDepth 100000 in
set_option maxHeartbeats 4000000 in
theorem progSave_any (g : Nat) (cf : Cf) (hmk : mk.size ≤ 100) (lv : Value) (st : St) (hst : st.Ok) (w : World) (hR : ProgRun w g cf mk lv st) :
    Calls Tryz.prog 55 #[.pointer (some ⟨g, 0, none⟩)] w fun e w' => e = .returned (.string (bs (saveL (svOf mk st)))) ∧ Below w.heap.size w w' := by
  have hgl := CellsAt.lt hR
  have HW : Hid (∀ w1, _) := fun w1 => write_any mk hmk st hst w1
  obtain ⟨SV, HSV⟩ : ∃ SV, Hid (bs (saveL (svOf mk st)) = SV) := ⟨_, (rfl : _ = _)⟩
  rw [HSV.out] at HW ⊢
  obtain ⟨lc, Hlc⟩ : ∃ lc, Hid (lrnCells st = lc) := ⟨_, (rfl : _ = _)⟩
  obtain ⟨sc, Hsc⟩ : ∃ sc, Hid (stCells mk st = sc) := ⟨_, (rfl : _ = _)⟩
  rw [Hsc.out] at HW
  have HlL : Hid (lc.length = 256) := by show _ = _; rw [← Hlc.out]; exact lrnCells_length st
  have HlI : Hid ((Tryz.prog.info? 65).map (·.size) = some lc.length) := by show _ = _; rw [HlL.out]; exact info_lrn
  have HBd : Hid (Tryz.prog.built 157 [(0, .string mk), (1, .int .i64 st.steps), (2, .agg lc.toArray)] = some sc.toArray) := by
    have h := state_built mk (st.steps : Int) lc HlL.out
    rw [← Hsc.out]
    unfold stCells
    rw [Hlc.out]
    exact h
  have HK : Hid (∀ w', Below w.heap.size w w' → w'.cell? ⟨g, 5, none⟩ = some (.string mk) ∧ w'.cell? ⟨g, 7, none⟩ = some (.int .i64 st.steps) ∧ w'.rangeAt g 8 lc) := fun w' hb => by
    have h := CellsAt.later hR hb
    refine ⟨CellsAt.cell h 5, CellsAt.cell h 7, fun j v hv => ?_⟩
    have hj : j < 256 := by
      have := (List.getElem?_eq_some_iff.1 hv).1
      rwa [HlL.out] at this
    rw [CellsAt.cell h, show 8 + j = (prHead cf mk lv st.steps).length + j from rfl, lrn_mid st hj, Hlc.out]
    exact hv
  have HK0 : Hid _ := HK.out _ (Below.refl _ _).drew
  clear hR
  obtain ⟨sp, Hsp⟩ : ∃ sp, Hid (st.steps = sp) := ⟨_, (rfl : _ = _)⟩
  rw [Hsp.out] at HBd HK HK0
  go_enter Tryz.func55, Tryz.ntmps55
  go_wp2_with fail
  refine wp_region_held_drew (S := fun w' => w'.cell? ⟨g, 5, none⟩ = some (.string mk) ∧ w'.cell? ⟨g, 7, none⟩ = some (.int .i64 sp) ∧ w'.rangeAt g 8 lc) (by kernel_rfl) HK0.out (fun hHeld => ?_)
  refine takeTo (i := 0) (v := (.pointer (some ⟨g, 0, none⟩))) (some 3) rfl (by kernel_rfl) (by kernel_rfl) (by kernel_rfl) (fun _ _ _ h => h) rfl (Or.inl ⟨by rfl, ?_⟩) hHeld ?_
  · intro w' hSw
    (try dsimp only at hSw)
    go_simp
  simp only [Act.put, List.setIfInBounds_toArray, List.set_cons_zero, List.set_cons_succ]
  refine takeTo (i := 1) (v := (.pointer (some ⟨g, 0, none⟩))) (some 4) rfl (by kernel_rfl) (by kernel_rfl) (by kernel_rfl) (fun _ _ _ h => h) rfl (Or.inl ⟨by rfl, ?_⟩) hHeld ?_
  · intro w' hSw
    (try dsimp only at hSw)
    go_simp
  simp only [Act.put, List.setIfInBounds_toArray, List.set_cons_zero, List.set_cons_succ]
  refine takeTo (i := 2) (v := (.pointer (some ⟨g, 5, none⟩))) (some 5) rfl (by kernel_rfl) (by kernel_rfl) (by kernel_rfl) (fun _ _ _ h => h) rfl (Or.inl ⟨by rfl, ?_⟩) hHeld ?_
  · intro w' hSw
    (try dsimp only at hSw)
    go_simp
  simp only [Act.put, List.setIfInBounds_toArray, List.set_cons_zero, List.set_cons_succ]
  refine takeTo (i := 3) (v := (.string mk)) (some 6) rfl (by kernel_rfl) (by kernel_rfl) (by kernel_rfl) (fun _ _ _ h => h) rfl (Or.inl ⟨by rfl, ?_⟩) hHeld ?_
  · intro w' hSw
    (try dsimp only at hSw)
    go_simp
  simp only [Act.put, List.setIfInBounds_toArray, List.set_cons_zero, List.set_cons_succ]
  refine takeTo (i := 4) (v := (.pointer (some ⟨g, 0, none⟩))) (some 7) rfl (by kernel_rfl) (by kernel_rfl) (by kernel_rfl) (fun _ _ _ h => h) rfl (Or.inl ⟨by rfl, ?_⟩) hHeld ?_
  · intro w' hSw
    (try dsimp only at hSw)
    go_simp
  simp only [Act.put, List.setIfInBounds_toArray, List.set_cons_zero, List.set_cons_succ]
  refine takeTo (i := 5) (v := (.pointer (some ⟨g, 0, none⟩))) (some 8) rfl (by kernel_rfl) (by kernel_rfl) (by kernel_rfl) (fun _ _ _ h => h) rfl (Or.inl ⟨by rfl, ?_⟩) hHeld ?_
  · intro w' hSw
    (try dsimp only at hSw)
    go_simp
  simp only [Act.put, List.setIfInBounds_toArray, List.set_cons_zero, List.set_cons_succ]
  refine takeTo (i := 6) (v := (.pointer (some ⟨g, 7, none⟩))) (some 9) rfl (by kernel_rfl) (by kernel_rfl) (by kernel_rfl) (fun _ _ _ h => h) rfl (Or.inl ⟨by rfl, ?_⟩) hHeld ?_
  · intro w' hSw
    (try dsimp only at hSw)
    go_simp
  simp only [Act.put, List.setIfInBounds_toArray, List.set_cons_zero, List.set_cons_succ]
  refine takeTo (i := 7) (v := (.int .i64 sp)) (some 10) rfl (by kernel_rfl) (by kernel_rfl) (by kernel_rfl) (fun _ _ _ h => h) rfl (Or.inl ⟨by rfl, ?_⟩) hHeld ?_
  · intro w' hSw
    (try dsimp only at hSw)
    go_simp
  simp only [Act.put, List.setIfInBounds_toArray, List.set_cons_zero, List.set_cons_succ]
  refine takeTo (i := 8) (v := (.pointer (some ⟨g, 0, none⟩))) (some 11) rfl (by kernel_rfl) (by kernel_rfl) (by kernel_rfl) (fun _ _ _ h => h) rfl (Or.inl ⟨by rfl, ?_⟩) hHeld ?_
  · intro w' hSw
    (try dsimp only at hSw)
    go_simp
  simp only [Act.put, List.setIfInBounds_toArray, List.set_cons_zero, List.set_cons_succ]
  refine takeTo (i := 9) (v := (.pointer (some ⟨g, 0, none⟩))) (some 12) rfl (by kernel_rfl) (by kernel_rfl) (by kernel_rfl) (fun _ _ _ h => h) rfl (Or.inl ⟨by rfl, ?_⟩) hHeld ?_
  · intro w' hSw
    (try dsimp only at hSw)
    go_simp
  simp only [Act.put, List.setIfInBounds_toArray, List.set_cons_zero, List.set_cons_succ]
  refine takeTo (i := 10) (v := (.pointer (some ⟨g, 8, none⟩))) (some 13) rfl (by kernel_rfl) (by kernel_rfl) (by kernel_rfl) (fun _ _ _ h => h) rfl (Or.inl ⟨by rfl, ?_⟩) hHeld ?_
  · intro w' hSw
    (try dsimp only at hSw)
    go_simp
  simp only [Act.put, List.setIfInBounds_toArray, List.set_cons_zero, List.set_cons_succ]
  refine takeTo (i := 11) (v := (.agg lc.toArray)) (some 14) rfl (by kernel_rfl) (by kernel_rfl) (by kernel_rfl) (fun _ _ _ h => h) rfl (yieldsIf_load_mid (by rfl) 65 (.tmp 13) rfl g 8 rfl lc _ (fun w' h => h.2.2) Tryz.underlying65 rfl HlI.out) hHeld ?_
  simp only [Act.put, List.setIfInBounds_toArray, List.set_cons_zero, List.set_cons_succ]
  refine takeTo (i := 12) (v := (.agg sc.toArray)) (some 15) rfl (by kernel_rfl) (by kernel_rfl) (by kernel_rfl) (fun _ _ _ h => h) rfl (yieldsIf_build (by rfl) 157 _ rfl [(0, .string mk), (1, .int .i64 sp), (2, .agg lc.toArray)] rfl _ HBd.out) hHeld ?_
  simp only [Act.put, List.setIfInBounds_toArray, List.set_cons_zero, List.set_cons_succ]
  refine wpAnyH_ready (rs := [13]) (by kernel_rfl) (by simp) ?_
  refine AllReadyH.cons rfl (fun K hK => ?_) AllReadyH.nil
  go_simp
  go_at_call 78
  refine (HW.out _).mono ?_
  rintro e w5 ⟨rfl, hb5⟩
  have HB5 : Hid (Below w.heap.size w w5) := ⟨hb5.os, hb5.tape, hb5.output, hb5.size, hb5.block⟩
  refine hK.out _ _ (HK.out _ HB5.out) (fun hHeld5 => ?_)
  clear hK K hHeld
  refine takeTo (i := 14) (v := (.string SV)) (some 2) rfl (by kernel_rfl) (by kernel_rfl) (by kernel_rfl) (fun _ _ _ h => h) rfl (Or.inl ⟨by rfl, ?_⟩) hHeld5 ?_
  · intro w' hSw
    (try dsimp only at hSw)
    go_simp
  simp only [Act.put, List.setIfInBounds_toArray, List.set_cons_zero, List.set_cons_succ]
  refine wpAnyH_done (by kernel_rfl) ?_ _
  clear hHeld5
  go_wp2
  go_ret
  exact ⟨rfl, HB5.out⟩
end Go.Proofs.YtfpodnleimhohabGreatDoor
