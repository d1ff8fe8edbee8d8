import Derived.Test.YtfpodnleimhohabGreatDoorWalksSG
import Derived.Test.YtfpodnleimhohabGreatDoorGA
import Derived.Test.YtfpodnleimhohabGreatDoorSDK
import Derived.Test.YtfpodnleimhohabGreatDoorSvA
/-
  WALKS: Load (the program's).
-/
namespace Go.Proofs.YtfpodnleimhohabGreatDoor
open Go.RowKit
set_option linter.unusedVariables false
set_option linter.unusedSimpArgs false

/-- How a run stands by a save. -/
def svSt (S : Sv) : St := ⟨S.n, fun c b => S.w (c * 32 + b), fun c b => S.v (c * 32 + b)⟩
theorem flat_un (f : Nat → Int) : flat (fun c b => f (c * 32 + b)) = f := by
  funext i
  show f (i / 32 * 32 + i % 32) = f i
  congr 1
  omega
theorem svSt_ok {S : Sv} (h : S.Ok) : (svSt S).Ok := ⟨h.n, fun c b hc hb => h.w _ (by omega), fun c b hc hb => h.v _ (by omega)⟩
theorem rdCells_st (S : Sv) : rdCells S = stCells (bs S.m4) (svSt S) := by
  unfold rdCells stCells svHead lrnCells svSt
  simp only [flat_un]
/-- What Load answers, where New gives a run. -/
def LoadIs (w w' : World) (e : Ending) (cf : Cf) (s : ByteArray) (sv : ByteArray) (is : Nat → St → Prop) : Prop :=
  (pRead (ls sv) = none ∧ e = .returned (.tuple #[.pointer none, .int .i64 8])) ∨
  (∃ S, pRead (ls sv) = some S ∧ bs S.m4 ≠ markB cf s ∧ e = .returned (.tuple #[.pointer none, .int .i64 9])) ∨
  (∃ S g, pRead (ls sv) = some S ∧ bs S.m4 = markB cf s ∧ e = .returned (.tuple #[.pointer (some ⟨g, 0, none⟩), .int .i64 0]) ∧ w.heap.size ≤ g ∧ is g (svSt S))

set_option maxRecDepth 100000 in
set_option maxHeartbeats 8000000 in
theorem progLoad_any (cf : Cf) (hcf : cf.Ok) (s : ByteArray) (hs : s.size ≤ 600) (hne : 0 < (recs (ls s)).length) (sv : ByteArray) (hsv : sv.size ≤ maxLen) (w : World) :
    Calls Tryz.prog 48 #[.agg #[.int .u64 cf.seed, .int .u8 cf.batch, .int .i32 cf.rate, .int .i32 cf.mom, .int .u8 cf.decay], .string s, .string sv] w fun e w' => LoadIs w w' e cf s sv (fun g st => RunIs w' g cf (markB cf s) (exsOf (recs (ls s))) st) ∧ Below w.heap.size w w' := by
  have HNew : Hid (∀ w1, Calls Tryz.prog 6 #[.agg #[.int .u64 cf.seed, .int .u8 cf.batch, .int .i32 cf.rate, .int .i32 cf.mom, .int .u8 cf.decay], .string s] w1 fun e w' => ∃ g aX cX, e = .returned (.tuple #[.pointer (some ⟨g, 0, none⟩), .int .i64 0]) ∧ w1.heap.size ≤ g ∧ ProgRun w' g cf (markB cf s) (.slice aX (exsOf (recs (ls s))).length cX) St.zero ∧ w'.ownsRow w1.heap.size 97 2 (.slice aX (exsOf (recs (ls s))).length cX) (exsOf (recs (ls s))).length (exNsCells (exsOf (recs (ls s)))) ∧ Below w1.heap.size w1 w') := fun w1 => by
    have q := progNew_ok cf.raw (Cf.raw_wf hcf) (Cf.raw_ok hcf) s hs hne w1
    rw [Cf.raw_cf] at q
    refine Calls.mono q ?_
    rintro e w' ⟨g, vX, rfl, hg, hP, hO, hb⟩
    obtain ⟨aX, cX, rfl, _, _, _⟩ := own_read hO
    have el : (exsOf (recs (ls s))).length = (recs (ls s)).length := by simp [exsOf]
    refine ⟨g, aX, cX, rfl, hg, ?_, ?_, hb⟩
    · rw [el]; exact hP
    · rw [el]; exact hO
  have HRd : Hid (∀ w1, _) := fun w1 => read_any sv hsv w1
  obtain ⟨mk, Hmk⟩ : ∃ mk, Hid (markB cf s = mk) := ⟨_, (rfl : _ = _)⟩
  obtain ⟨X, HX⟩ : ∃ X, Hid (exsOf (recs (ls s)) = X) := ⟨_, (rfl : _ = _)⟩
  rw [Hmk.out, HX.out] at HNew
  unfold LoadIs
  rw [Hmk.out, HX.out]
  obtain ⟨O, HO⟩ : ∃ O, Hid (pRead (ls sv) = O) := ⟨_, (rfl : _ = _)⟩
  have HOk : Hid (∀ S, O = some S → S.Ok) := fun S hS => (pRead_some (HO.out.trans hS)).1
  rw [HO.out] at HRd ⊢
  clear hcf hs hne hsv HO
  obtain ⟨sd, bt, ra, mo, de⟩ := cf
  simp only at HNew ⊢
  obtain ⟨w0, Hw0⟩ : ∃ w0, Hid (w.alloc (.cells #[.int .u64 sd, .int .u8 bt, .int .i32 ra, .int .i32 mo, .int .u8 de] 24) = w0) := ⟨_, (rfl : _ = _)⟩
  have HB0 : Hid (Below w.heap.size w w0) := by rw [← Hw0.out]; exact (Below.refl _ _).alloc (Nat.le_refl _) _
  have HC0 : Hid (CellsAt w0 w.heap.size 24 [.int .u64 sd, .int .u8 bt, .int .i32 ra, .int .i32 mo, .int .u8 de]) := by rw [← Hw0.out]; exact CellsAt.new w _ _ _ rfl rfl
  have hz0 := HB0.out.size
  have c0 := CellsAt.cell HC0.out 0
  have c1 := CellsAt.cell HC0.out 1
  have c2 := CellsAt.cell HC0.out 2
  have c3 := CellsAt.cell HC0.out 3
  have c4 := CellsAt.cell HC0.out 4
  simp only [List.getElem?_cons_zero, List.getElem?_cons_succ] at c0 c1 c2 c3 c4
  go_enter Tryz.func48, Tryz.ntmps48
  go_wp2_with fail
  rw [Hw0.out]
  refine (HNew.out _).mono ?_
  rintro e w1 ⟨g, aX, cX, rfl, hg, hP, hO, hb1⟩
  have HP1 : Hid (ProgRun w1 g ⟨sd, bt, ra, mo, de⟩ mk (.slice aX X.length cX) St.zero) := hP
  have HO1 : Hid (w1.ownsRow w0.heap.size 97 2 (.slice aX X.length cX) X.length (exNsCells X)) := hO
  have HB1 : Hid (Below w.heap.size w w1) := HB0.out.trans (hb1.mono HB0.out.size)
  have Hg : Hid (w.heap.size ≤ g) := Nat.le_trans hz0 hg
  clear hP hO hb1 hg c0 c1 c2 c3 c4 HC0 HB0 Hw0
  go_wp2_with fail
  refine (HRd.out _).mono ?_
  rintro e w2 ⟨hcase, hb2⟩
  have HP2 : Hid (ProgRun w2 g ⟨sd, bt, ra, mo, de⟩ mk (.slice aX X.length cX) St.zero) := CellsAt.later HP1.out hb2
  have HO2 : Hid (w2.ownsRow w0.heap.size 97 2 (.slice aX X.length cX) X.length (exNsCells X)) := ownsRow_below HO1.out hb2
  have HB2 : Hid (Below w.heap.size w w2) := HB1.out.trans (hb2.mono HB1.out.size)
  clear hb2 HP1 HO1 HB1
  rcases hcase with ⟨S, hS, rfl⟩ | ⟨hS, zc, hzl, hzo, rfl⟩
  case inr =>
    have HzL : Hid (zc.length = 258) := hzl
    have HzO : Hid (∀ u ∈ zc, u.oneCell' = true) := hzo
    have HzI : Hid ((Tryz.prog.info? 157).map (·.size) = some zc.length) := by show _ = _; rw [HzL.out]; exact info_state
    have HzZ : Hid (Tryz.zeroCells157.size = zc.length) := by show _ = _; rw [zero_state, List.size_toArray, HzL.out]; simp [svHead, lrnCells_length]
    have Hno : Hid (O = none) := hS
    clear hzl hzo hS
    have HB3 : Hid (Below w.heap.size w (w2.alloc (.cells zc.toArray 157))) := HB2.out.alloc HB2.out.size _
    go_wp2_with (refine wpList_store_new rfl 157 (.tmp 10) (.tmp 24) rfl _ zc rfl rfl HzI.out HzZ.out HzO.out ?_)
    go_ret2
    exact ⟨.inl ⟨Hno.out, rfl⟩, HB3.out⟩
  have HSo : Hid (S.Ok) := HOk.out S hS
  have HS : Hid (O = some S) := hS
  clear hS
  rw [rdCells_st]
  obtain ⟨st, Hst⟩ : ∃ st, Hid (svSt S = st) := ⟨_, (rfl : _ = _)⟩
  obtain ⟨m, Hm⟩ : ∃ m, Hid (bs S.m4 = m) := ⟨_, (rfl : _ = _)⟩
  rw [Hst.out, Hm.out]
  have hmz : m.size = 4 := by rw [← Hm.out, bs_size]; exact HSo.out.m4
  have hst4 : st.steps ≤ 400 := by rw [← Hst.out]; exact HSo.out.n
  obtain ⟨zc, Hzc⟩ : ∃ zc, Hid (stCells m st = zc) := ⟨_, (rfl : _ = _)⟩
  have HzL : Hid (zc.length = 258) := by show _ = _; rw [← Hzc.out]; simp [stCells, svHead, lrnCells_length]
  have HzO : Hid (∀ u ∈ zc, u.oneCell' = true) := by
    show ∀ u ∈ zc, _
    rw [← Hzc.out]
    refine cells_one (lrnCells st) (fun u hu => ?_) _ _
    unfold lrnCells at hu
    rcases List.mem_append.1 hu with hu | hu
    · exact tabw_one _ _ u hu
    · exact tab_one _ _ u hu
  have HzI : Hid ((Tryz.prog.info? 157).map (·.size) = some zc.length) := by show _ = _; rw [HzL.out]; exact info_state
  have HzZ : Hid (Tryz.zeroCells157.size = zc.length) := by show _ = _; rw [zero_state, List.size_toArray, HzL.out]; simp [svHead, lrnCells_length]
  rw [Hzc.out]
  have HB3 : Hid (Below w.heap.size w (w2.alloc (.cells zc.toArray 157))) := HB2.out.alloc HB2.out.size _
  have HP3 : Hid (ProgRun (w2.alloc (.cells zc.toArray 157)) g ⟨sd, bt, ra, mo, de⟩ mk (.slice aX X.length cX) St.zero) := CellsAt.alloc HP2.out _
  have HO3 : Hid ((w2.alloc (.cells zc.toArray 157)).ownsRow w0.heap.size 97 2 (.slice aX X.length cX) X.length (exNsCells X)) := ownsRow_below HO2.out ((Below.refl _ _).alloc (Nat.le_refl _) _)
  have HZ3 : Hid (SvAt (w2.alloc (.cells zc.toArray 157)) w2.heap.size m st) := by
    have h := CellsAt.new w2 zc.toArray zc 157 rfl rfl
    rw [← Hzc.out] at h ⊢
    exact h
  have hgne : Hid (g ≠ w2.heap.size) := by have := CellsAt.lt HP2.out; show g ≠ w2.heap.size; omega
  clear HB2 HP2 HO2
  go_wp2_with (refine wpList_store_new rfl 157 (.tmp 10) (.tmp 24) rfl _ zc rfl rfl HzI.out HzZ.out HzO.out ?_)
  generalize w2.alloc (.cells zc.toArray 157) = w3 at *
  generalize w2.heap.size = gT at *
  have e0 : w3.cell? ⟨gT, 0, none⟩ = some (.string m) := CellsAt.cell HZ3.out 0
  have e5 : w3.cell? ⟨g, 5, none⟩ = some (.string mk) := CellsAt.cell HP3.out 5
  by_cases hmm : m = mk
  case neg =>
    have hne : (!m.toList == mk.toList) = true := by
      rw [str_beq, decide_eq_false (fun h => hmm (ls_inj h))]
      rfl
    have Hne : Hid (bs S.m4 ≠ mk) := by show _ ≠ _; rw [Hm.out]; exact hmm
    clear hmm
    go_quiet (fail)
    go_wp2
    go_ret2
    exact ⟨.inr (.inl ⟨S, HS.out, Hne.out, rfl⟩), below_drewN HB3.out _⟩
  have HEq : Hid (bs S.m4 = mk) := by show _ = _; rw [Hm.out]; exact hmm
  have heq : (!m.toList == mk.toList) = false := by rw [hmm]; simp
  clear hmm
  go_quiet (fail)
  have HB4 : Hid (Below w.heap.size w (w3.drewN nq)) := below_drewN HB3.out _
  have HP4 : Hid (ProgRun (w3.drewN nq) g ⟨sd, bt, ra, mo, de⟩ mk (.slice aX X.length cX) St.zero) := HP3.out
  have HO4 : Hid ((w3.drewN nq).ownsRow w0.heap.size 97 2 (.slice aX X.length cX) X.length (exNsCells X)) := HO3.out
  have HZ4 : Hid (SvAt (w3.drewN nq) gT m st) := HZ3.out
  generalize w3.drewN nq = w4 at *
  clear HB3 HP3 HO3 HZ3 e0 e5 heq
  have e1 : w4.cell? ⟨gT, 1, none⟩ = some (.int .i64 st.steps) := CellsAt.cell HZ4.out 1
  have e7 : w4.cell? ⟨g, 7, none⟩ = some (.int .i64 0) := CellsAt.cell HP4.out 7
  have f7 : w4.frozen? ⟨g, 7, none⟩ = false := CellsAt.frozen HP4.out 7
  obtain ⟨lc, Hlc⟩ : ∃ lc, Hid (lrnCells st = lc) := ⟨_, (rfl : _ = _)⟩
  have HlL : Hid (lc.length = 256) := by show _ = _; rw [← Hlc.out]; exact lrnCells_length st
  have HlI : Hid ((Tryz.prog.info? 65).map (·.size) = some lc.length) := by show _ = _; rw [HlL.out]; exact info_lrn
  have HlO : Hid (∀ u ∈ lc, u.oneCell' = true) := by
    show ∀ u ∈ lc, _
    rw [← Hlc.out]
    intro u hu
    unfold lrnCells at hu
    rcases List.mem_append.1 hu with hu | hu
    · exact tabw_one _ _ u hu
    · exact tab_one _ _ u hu
  have HP5 : Hid (CellsAt (w4.setCell ⟨g, 7, none⟩ (.int .i64 st.steps)) g 67 (prHead ⟨sd, bt, ra, mo, de⟩ mk (.slice aX X.length cX) st.steps ++ (lrnCells St.zero ++ []))) := by
    have h := CellsAt.set HP4.out 7 (.int .i64 st.steps)
    rw [pr_steps] at h
    exact h
  have HR5 : Hid ((w4.setCell ⟨g, 7, none⟩ (.int .i64 st.steps)).rangeAt gT 2 lc) := by
    have h := CellsAt.rangeAt (A := svHead m st.steps) (B := lrnCells st) (C := []) (CellsAt.other HZ4.out (fun e => hgne.out e.symm) 7 (.int .i64 st.steps))
    rw [Hlc.out] at h
    exact h
  have HT5 : Hid ((w4.setCell ⟨g, 7, none⟩ (.int .i64 st.steps)).there g 8 lc.toArray.size) := by
    show World.there _ _ _ lc.length
    rw [HlL.out]
    exact CellsAt.thereAt HP5.out 8 256 (by simp [prHead, lrnCells_length])
  have HP6 : Hid (ProgRun ((w4.setCell ⟨g, 7, none⟩ (.int .i64 st.steps)).setCells g 8 lc) g ⟨sd, bt, ra, mo, de⟩ mk (.slice aX X.length cX) st) := by
    have h := CellsAt.sets lc (prHead ⟨sd, bt, ra, mo, de⟩ mk (.slice aX X.length cX) st.steps) (lrnCells St.zero) [] (by rw [lrnCells_length, HlL.out]) HP5.out
    rw [← Hlc.out] at h ⊢
    exact h
  have HB6 : Hid (Below w.heap.size w ((w4.setCell ⟨g, 7, none⟩ (.int .i64 st.steps)).setCells g 8 lc)) := below_sets (HB4.out.setCell (p := ⟨g, 7, none⟩) Hg.out _) Hg.out 8 lc
  have HO6 : Hid (((w4.setCell ⟨g, 7, none⟩ (.int .i64 st.steps)).setCells g 8 lc).ownsRow w0.heap.size 97 2 (.slice aX X.length cX) X.length (exNsCells X)) := by
    have hne : ∀ j, (Value.slice aX X.length cX).ownBlock = some j → ¬ j = g := fun j hj e => by
      subst e
      exact own_ne HO4.out HP4.out (by decide) hj
    exact ownsRow_spared (S := fun j => j = g) HO4.out ((Spared.of_set w4 g 7 (.int .i64 st.steps)).trans (spared_sets g lc 8 _) (fun _ _ h => h)) hne
  generalize st.steps = sp at *
  go_wp2_with (first
    | (refine wpList_load_mid rfl 65 (.tmp 41) rfl _ _ rfl lc _ HR5.out Tryz.underlying65 rfl HlI.out ?_)
    | (refine wpList_store_mid rfl 65 (.tmp 44) (.tmp 42) rfl _ _ lc.toArray rfl rfl HT5.out (by rw [List.size_toArray]; exact HlI.out) (all_oneCell_toArray HlO.out) ?_))
  go_ret2
  refine ⟨.inr (.inr ⟨S, g, HS.out, HEq.out, rfl, Hg.out, ?_⟩), HB6.out⟩
  rw [Hst.out]
  exact ⟨aX, cX, w0.heap.size, HP6.out, HO6.out⟩
end Go.Proofs.YtfpodnleimhohabGreatDoor

/-
  WALKS: Load (the document's).
-/
namespace Go.Proofs.YtfpodnleimhohabGreatDoor
open Go.RowKit
set_option linter.unusedVariables false
set_option linter.unusedSimpArgs false

theorem dRead_bad {l : List UInt8} (h : l.length < 12 ∨ l.take 4 ≠ headL ∨ le (crc (l.take (l.length - 4))) 4 ≠ l.drop (l.length - 4)) : pRead l = none := by
  rw [← read_same]; unfold dRead; rw [if_pos h]
theorem dRead_no {l : List UInt8} (h : rdNums ((l.take (l.length - 4)).drop 8) = none) : pRead l = none := by
  rw [← read_same]; unfold dRead; rw [h]; split <;> rfl
theorem dRead_end {l : List UInt8} (h : ¬ (l.length < 12 ∨ l.take 4 ≠ headL ∨ le (crc (l.take (l.length - 4))) 4 ≠ l.drop (l.length - 4))) {n : Nat} {F G : Nat → Int} {q : List UInt8} (h1 : rdNums ((l.take (l.length - 4)).drop 8) = some (n, F, G, q)) :
    pRead l = if q = [] then some ⟨(l.drop 4).take 4, n, F, G⟩ else none := by
  rw [← read_same]; unfold dRead; rw [if_neg h, h1]
theorem rdNums_no6 {l : List UInt8} (h : rv6 l = none) : rdNums l = none := by
  cases hv : rv l with
  | none => exact rdNums_no hv
  | some p =>
    obtain ⟨v, k⟩ := p
    exact rdNums_big hv (by have := rv6_none h hv; omega)
theorem rdNums_badw {l : List UInt8} {v : Int} {k : Nat} (h : rv l = some (v, k)) (h1 : rt 16777216 128 0 (fun _ => 0) (l.drop k) = none) : rdNums l = none := rdNums_now h h1

set_option maxRecDepth 100000 in
set_option maxHeartbeats 8000000 in
theorem refLoad_any (cf : Cf) (hcf : cf.Ok) (s : ByteArray) (hs : s.size ≤ 600) (hne : 0 < (recs (ls s)).length) (sv : ByteArray) (hsv : sv.size ≤ maxLen) (w : World) :
    Calls Tryz.prog 49 #[.agg #[.int .u64 cf.seed, .int .u8 cf.batch, .int .i32 cf.rate, .int .i32 cf.mom, .int .u8 cf.decay], .string s, .string sv] w fun e w' => LoadIs w w' e cf s sv (fun g st => RefIs w' g cf s (recs (ls s)) st) ∧ Below w.heap.size w w' := by
  have hsm := hsv
  unfold maxLen at hsv
  have HNew : Hid (∀ w1, Calls Tryz.prog 7 #[.agg #[.int .u64 cf.seed, .int .u8 cf.batch, .int .i32 cf.rate, .int .i32 cf.mom, .int .u8 cf.decay], .string s] w1 fun e w' => ∃ g aL cL, e = .returned (.tuple #[.pointer (some ⟨g, 0, none⟩), .int .i64 0]) ∧ w1.heap.size ≤ g ∧ RefRun w' g cf s (.slice aL (recs (ls s)).length cL) St.zero ∧ w'.ownsRow w1.heap.size 99 4 (.slice aL (recs (ls s)).length cL) (recs (ls s)).length (recsCells (recs (ls s))) ∧ Below w1.heap.size w1 w') := fun w1 => by
    have q := refNew_ok cf.raw (Cf.raw_wf hcf) (Cf.raw_ok hcf) s hs hne w1
    rw [Cf.raw_cf] at q
    refine Calls.mono q ?_
    rintro e w' ⟨g, vR, rfl, hg, hP, hO, hb⟩
    obtain ⟨aX, cX, rfl, _, _, _⟩ := own_read hO
    exact ⟨g, aX, cX, rfl, hg, hP, hO, hb⟩
  have HMk : Hid (∀ w1, _) := fun w1 => refMark_any cf hcf s hs w1
  have HMb : Hid _ := crc_bd (markL cf (ls s))
  have HMe : Hid (markB cf s = bs (le (crc (markL cf (ls s))) 4)) := rfl
  obtain ⟨mn, Hmn⟩ : ∃ mn, Hid (crc (markL cf (ls s)) = mn) := ⟨_, (rfl : _ = _)⟩
  rw [Hmn.out] at HMk HMb HMe
  obtain ⟨mk, Hmk⟩ : ∃ mk, Hid (markB cf s = mk) := ⟨_, (rfl : _ = _)⟩
  have hmz : mk.size = 4 := by rw [← Hmk.out]; exact markB_size cf s
  rw [Hmk.out] at HMe
  obtain ⟨rs, Hrs⟩ : ∃ rs, Hid (recs (ls s) = rs) := ⟨_, (rfl : _ = _)⟩
  rw [Hrs.out] at HNew
  unfold LoadIs
  rw [Hmk.out, Hrs.out]
  have hlen := ls_length sv
  obtain ⟨O, HO⟩ : ∃ O, Hid (pRead (ls sv) = O) := ⟨_, (rfl : _ = _)⟩
  rw [HO.out]
  clear hcf hs hne
  obtain ⟨sd, bt, ra, mo, de⟩ := cf
  simp only at HNew HMk ⊢
  obtain ⟨w0, Hw0⟩ : ∃ w0, Hid (w.alloc (.cells #[.int .u64 sd, .int .u8 bt, .int .i32 ra, .int .i32 mo, .int .u8 de] 24) = w0) := ⟨_, (rfl : _ = _)⟩
  have HB0 : Hid (Below w.heap.size w w0) := by rw [← Hw0.out]; exact (Below.refl _ _).alloc (Nat.le_refl _) _
  have HC0 : Hid (CellsAt w0 w.heap.size 24 [.int .u64 sd, .int .u8 bt, .int .i32 ra, .int .i32 mo, .int .u8 de]) := by rw [← Hw0.out]; exact CellsAt.new w _ _ _ rfl rfl
  have hz0 := HB0.out.size
  have c0 := CellsAt.cell HC0.out 0
  have c1 := CellsAt.cell HC0.out 1
  have c2 := CellsAt.cell HC0.out 2
  have c3 := CellsAt.cell HC0.out 3
  have c4 := CellsAt.cell HC0.out 4
  simp only [List.getElem?_cons_zero, List.getElem?_cons_succ] at c0 c1 c2 c3 c4
  go_enter Tryz.func49, Tryz.ntmps49
  go_wp2_with fail
  rw [Hw0.out]
  refine (HNew.out _).mono ?_
  rintro e w1 ⟨g, aX, cX, rfl, hg, hP, hOw, hb1⟩
  have HP1 : Hid (RefRun w1 g ⟨sd, bt, ra, mo, de⟩ s (.slice aX rs.length cX) St.zero) := hP
  have HO1 : Hid (w1.ownsRow w0.heap.size 99 4 (.slice aX rs.length cX) rs.length (recsCells rs)) := hOw
  have HB1 : Hid (Below w.heap.size w w1) := HB0.out.trans (hb1.mono HB0.out.size)
  have HC1 : Hid (CellsAt w1 w.heap.size 24 [.int .u64 sd, .int .u8 bt, .int .i32 ra, .int .i32 mo, .int .u8 de]) := CellsAt.later HC0.out hb1
  have Hg : Hid (w.heap.size ≤ g) := Nat.le_trans hz0 hg
  clear hP hOw hb1 hg c0 c1 c2 c3 c4 HC0 HB0 Hw0 HNew
  go_wp2_with fail
  by_cases h12 : sv.size < 12
  · have Hno : Hid (O = none) := by show _ = _; rw [← HO.out]; exact dRead_bad (.inl (by omega))
    have e12 : decide ((sv.size : Int) < 12) = true := decide_eq_true (by omega)
    go_quiet (fail)
    go_wp2
    go_ret2
    exact ⟨.inl ⟨Hno.out, rfl⟩, below_drewN HB1.out _⟩
  have e12 : decide ((sv.size : Int) < 12) = false := decide_eq_false (by omega)
  have HA : Hid (ls (sv.extract 0 4) = (ls sv).take 4) := by show _ = _; rw [ls_cut]; simp
  by_cases hh : ls (sv.extract 0 4) = headL
  case neg =>
    have Hno : Hid (O = none) := by show _ = _; rw [← HO.out]; exact dRead_bad (.inr (.inl (by rw [← HA.out]; exact hh)))
    have hne : (!(sv.extract 0 4).toList == [68, 82, 76, 49]) = true := by rw [head_beq, decide_eq_false hh]; rfl
    clear hh
    go_quiet (fail)
    go_wp2
    go_ret2
    exact ⟨.inl ⟨Hno.out, rfl⟩, below_drewN HB1.out _⟩
  have heq : (!(sv.extract 0 4).toList == [68, 82, 76, 49]) = false := by rw [head_beq, decide_eq_true hh]; rfl
  have HHd : Hid ((ls sv).take 4 = headL) := by show _ = _; rw [← HA.out]; exact hh
  clear hh HA
  obtain ⟨n4, Hn4⟩ : ∃ n4, Hid (sv.size - 4 = n4) := ⟨_, (rfl : _ = _)⟩
  have hn4 : (sv.size : Int) - 4 = (n4 : Int) := by rw [← Hn4.out]; omega
  have hn4l : n4 ≤ sv.size := by rw [← Hn4.out]; omega
  have hwn1 : IntKind.i64.wrap (n4 : Int) = (n4 : Int) := wrap_small _ (by omega) (by omega)
  have hn40 : ¬ ((n4 : Int) < 0) := by omega
  have hn41 : ¬ ((sv.size : Int) < (n4 : Int)) := by omega
  have hn42 : decide ((n4 : Int) < 0) = false := decide_eq_false (by omega)
  have hn43 : decide ((sv.size : Int) < (n4 : Int)) = false := decide_eq_false (by omega)
  have hn48 : 8 ≤ n4 := by rw [← Hn4.out]; omega
  have HTk : Hid (ls (sv.extract 0 n4) = (ls sv).take ((ls sv).length - 4)) := by show _ = _; rw [ls_cut, hlen, Hn4.out]; simp
  have HDp : Hid (ls (sv.extract n4 sv.size) = (ls sv).drop ((ls sv).length - 4)) := by show _ = _; rw [ls_extract, hlen, Hn4.out]
  obtain ⟨sm, Hsm⟩ : ∃ sm, Hid (crc (ls (sv.extract 0 n4)) = sm) := ⟨_, (rfl : _ = _)⟩
  have hsb := crc_bd (ls (sv.extract 0 n4))
  rw [Hsm.out] at hsb
  have HSum : Hid (∀ w1, Calls Tryz.prog 47 #[.string (sv.extract 0 n4)] w1 fun e w' => e = .returned (.int .u32 sm) ∧ w' = w1) := fun w1 => by
    have h := refSum_any (sv.extract 0 n4) (by rw [ByteArray.size_extract]; unfold maxLen; omega) w1
    rw [Hsm.out] at h
    exact h
  obtain ⟨Z, HZ, hZz⟩ : ∃ Z, Hid (bs (le sm 4) = Z) ∧ Z.size = 4 := ⟨_, (rfl : _ = _), by rw [bs_size, le_length]⟩
  have HLit : Hid (∀ w1, Calls Tryz.prog 44 #[.int .u64 sm, .int .i64 4] w1 fun e w' => e = .returned (.string Z) ∧ Below w1.heap.size w1 w') := fun w1 => by
    have h := little_any sm 4 (by omega) (by omega) (by omega) w1
    rw [HZ.out] at h
    exact h
  have hwm : IntKind.u64.wrap sm = sm := by rw [IntKind.wrap_u64]; omega
  have qe1 : (sv.extract 0 n4).size = n4 := by rw [ByteArray.size_extract]; omega
  have qe2 : (sv.extract n4 sv.size).size = sv.size - n4 := by rw [ByteArray.size_extract]; omega
  obtain ⟨bq, Hbq⟩ : ∃ bq, Hid ((!Z.toList == (sv.extract n4 sv.size).toList) = bq) := ⟨_, (rfl : _ = _)⟩
  have hbq : (!Z.toList == (sv.extract n4 sv.size).toList) = bq := Hbq.out
  have HSq : Hid (bq = !decide (le (crc ((ls sv).take ((ls sv).length - 4))) 4 = (ls sv).drop ((ls sv).length - 4))) := by
    show _ = _
    rw [← Hbq.out, str_beq, ← HZ.out, ls_bs, ← Hsm.out, HTk.out, HDp.out]
  go_cut [49] (fun bv wc => bv = .bool bq ∧ Hid (Below w1.heap.size w1 wc))
  case first =>
    go_region_held_law (fun w' => Hid (Below w1.heap.size w1 w')) (first | exact hB | exact (Below.refl _ _).drew | assumption) (first | (go_at_call 47; refine (HSum.out _).mono ?_; rintro e w' ⟨rfl, rfl⟩) | (go_at_call 44; refine (HLit.out _).mono ?_; rintro e w' ⟨rfl, hb⟩; have hB : Hid (Below w1.heap.size w1 w') := (‹Hid (Below w1.heap.size w1 _)›).out.trans (hb.mono (‹Hid (Below w1.heap.size w1 _)›).out.size); clear hb))
    all_goals
      go_wp2_with fail
      go_meet
      case rel => exact ⟨rfl, by assumption⟩
  case rest =>
    obtain ⟨rfl, HBc⟩ := hcut
    have hb2 := HBc.out
    have HP2 : Hid (RefRun wc g ⟨sd, bt, ra, mo, de⟩ s (.slice aX rs.length cX) St.zero) := CellsAt.later HP1.out hb2
    have HO2 : Hid (wc.ownsRow w0.heap.size 99 4 (.slice aX rs.length cX) rs.length (recsCells rs)) := ownsRow_below HO1.out hb2
    have HC2 : Hid (CellsAt wc w.heap.size 24 [.int .u64 sd, .int .u8 bt, .int .i32 ra, .int .i32 mo, .int .u8 de]) := CellsAt.later HC1.out hb2
    have HB2 : Hid (Below w.heap.size w wc) := HB1.out.trans (hb2.mono HB1.out.size)
    clear hb2 HBc HP1 HO1 HC1 HB1 HSum HLit hbq Hbq HZ hZz qe1 qe2 hwm hsb
    cases bq with
    | true =>
      have Hno : Hid (O = none) := by
        show _ = _
        rw [← HO.out]
        refine dRead_bad (.inr (.inr (fun h => ?_)))
        have q := HSq.out
        rw [decide_eq_true h] at q
        simp at q
      go_wp2
      go_ret2
      exact ⟨.inl ⟨Hno.out, rfl⟩, HB2.out⟩
    | false =>
    have HGd : Hid (¬ ((ls sv).length < 12 ∨ (ls sv).take 4 ≠ headL ∨ le (crc ((ls sv).take ((ls sv).length - 4))) 4 ≠ (ls sv).drop ((ls sv).length - 4))) := by
      show ¬ _
      rintro (h | h | h)
      · omega
      · exact h HHd.out
      · have q := HSq.out
        rw [decide_eq_false h] at q
        simp at q
    obtain ⟨T, HT, hTz⟩ : ∃ T, Hid (sv.extract 8 n4 = T ∧ ls T = ((ls sv).take ((ls sv).length - 4)).drop 8) ∧ T.size ≤ sv.size := ⟨sv.extract 8 n4, ⟨rfl, by rw [ls_cut, hlen, Hn4.out, List.drop_take]⟩, by rw [ByteArray.size_extract]; omega⟩
    clear HSq HTk HDp Hsm
    go_wp2_with (rw [HT.out.1])
    refine (refNumber_any T (by unfold maxLen; omega) _).mono ?_
    rintro e w3 ⟨⟨N, R, ok, rfl, hN0, hN1, hR, hok⟩, n3, rfl⟩
    have Hok : Hid _ := hok
    clear hok
    have hb3 : Below wc.heap.size wc (wc.drewN n3) := below_drewN (Below.refl _ _) n3
    have HP3 : Hid (RefRun (wc.drewN n3) g ⟨sd, bt, ra, mo, de⟩ s (.slice aX rs.length cX) St.zero) := CellsAt.later HP2.out hb3
    have HO3 : Hid ((wc.drewN n3).ownsRow w0.heap.size 99 4 (.slice aX rs.length cX) rs.length (recsCells rs)) := ownsRow_below HO2.out hb3
    have HC3 : Hid (CellsAt (wc.drewN n3) w.heap.size 24 [.int .u64 sd, .int .u8 bt, .int .i32 ra, .int .i32 mo, .int .u8 de]) := CellsAt.later HC2.out hb3
    have HB3 : Hid (Below w.heap.size w (wc.drewN n3)) := HB2.out.trans (hb3.mono HB2.out.size)
    clear hb3 HP2 HO2 HC2 HB2
    generalize wc.drewN n3 = w3 at *
    go_wp2_with fail
    refine (table_any R (by unfold maxLen; omega) 16777216 (by decide) (by decide) _).mono ?_
    rintro e w4 ⟨⟨F, R2, fine, rfl, hR2, hfine⟩, hb4⟩
    have Hfine : Hid _ := hfine
    clear hfine
    have HP4 : Hid (RefRun w4 g ⟨sd, bt, ra, mo, de⟩ s (.slice aX rs.length cX) St.zero) := CellsAt.later HP3.out hb4
    have HO4 : Hid (w4.ownsRow w0.heap.size 99 4 (.slice aX rs.length cX) rs.length (recsCells rs)) := ownsRow_below HO3.out hb4
    have HC4 : Hid (CellsAt w4 w.heap.size 24 [.int .u64 sd, .int .u8 bt, .int .i32 ra, .int .i32 mo, .int .u8 de]) := CellsAt.later HC3.out hb4
    have HB4 : Hid (Below w.heap.size w w4) := HB3.out.trans (hb4.mono HB3.out.size)
    clear hb4 HP3 HO3 HC3 HB3
    obtain ⟨xt, Hxt⟩ : ∃ xt, Hid (tab 128 F = xt) := ⟨_, (rfl : _ = _)⟩
    have HxtL : Hid (xt.length = 128) := by show _ = _; rw [← Hxt.out, tab_length]
    have HxtO : Hid (∀ u ∈ xt, u.oneCell' = true) := by show ∀ u ∈ xt, _; rw [← Hxt.out]; exact tab_one _ _
    have HxtI : Hid ((Tryz.prog.info? 63).map (·.size) = some xt.length) := by show _ = _; rw [HxtL.out]; exact info_t128
    have HxtZ : Hid (Tryz.zeroCells63.size = xt.length) := by show _ = _; rw [zero_t128, List.size_toArray, tab_length, HxtL.out]
    rw [Hxt.out]
    have hb5 : Below w4.heap.size w4 (w4.alloc (.cells xt.toArray 63)) := (Below.refl _ _).alloc (Nat.le_refl _) _
    have HP5 : Hid (RefRun (w4.alloc (.cells xt.toArray 63)) g ⟨sd, bt, ra, mo, de⟩ s (.slice aX rs.length cX) St.zero) := CellsAt.later HP4.out hb5
    have HO5 : Hid ((w4.alloc (.cells xt.toArray 63)).ownsRow w0.heap.size 99 4 (.slice aX rs.length cX) rs.length (recsCells rs)) := ownsRow_below HO4.out hb5
    have HC5 : Hid (CellsAt (w4.alloc (.cells xt.toArray 63)) w.heap.size 24 [.int .u64 sd, .int .u8 bt, .int .i32 ra, .int .i32 mo, .int .u8 de]) := CellsAt.later HC4.out hb5
    have HB5 : Hid (Below w.heap.size w (w4.alloc (.cells xt.toArray 63))) := HB4.out.trans (hb5.mono HB4.out.size)
    have HX5 : Hid (CellsAt (w4.alloc (.cells xt.toArray 63)) w4.heap.size 63 xt) := CellsAt.new _ _ _ _ rfl rfl
    have Hgw : Hid (g ≠ w4.heap.size) := by have := CellsAt.lt HP4.out; show g ≠ _; omega
    clear hb5 HP4 HO4 HC4 HB4
    go_wp2_with (refine wpList_store_new rfl 63 (.tmp 13) (.tmp 64) rfl _ xt rfl rfl HxtI.out HxtZ.out HxtO.out ?_)
    generalize w4.alloc (.cells xt.toArray 63) = w5 at *
    generalize w4.heap.size = gW at *
    refine (table_any R2 (by unfold maxLen; omega) 1073741824 (by decide) (by decide) _).mono ?_
    rintro e w6 ⟨⟨G, R3, good, rfl, hR3, hgood⟩, hb6⟩
    have Hgood : Hid _ := hgood
    clear hgood
    have HP6 : Hid (RefRun w6 g ⟨sd, bt, ra, mo, de⟩ s (.slice aX rs.length cX) St.zero) := CellsAt.later HP5.out hb6
    have HO6 : Hid (w6.ownsRow w0.heap.size 99 4 (.slice aX rs.length cX) rs.length (recsCells rs)) := ownsRow_below HO5.out hb6
    have HC6 : Hid (CellsAt w6 w.heap.size 24 [.int .u64 sd, .int .u8 bt, .int .i32 ra, .int .i32 mo, .int .u8 de]) := CellsAt.later HC5.out hb6
    have HB6 : Hid (Below w.heap.size w w6) := HB5.out.trans (hb6.mono HB5.out.size)
    have HX6 : Hid (CellsAt w6 gW 63 xt) := CellsAt.later HX5.out hb6
    clear hb6 HP5 HO5 HC5 HB5 HX5
    obtain ⟨xv, Hxv⟩ : ∃ xv, Hid (tab 128 G = xv) := ⟨_, (rfl : _ = _)⟩
    have HxvL : Hid (xv.length = 128) := by show _ = _; rw [← Hxv.out, tab_length]
    have HxvO : Hid (∀ u ∈ xv, u.oneCell' = true) := by show ∀ u ∈ xv, _; rw [← Hxv.out]; exact tab_one _ _
    have HxvI : Hid ((Tryz.prog.info? 63).map (·.size) = some xv.length) := by show _ = _; rw [HxvL.out]; exact info_t128
    have HxvZ : Hid (Tryz.zeroCells63.size = xv.length) := by show _ = _; rw [zero_t128, List.size_toArray, tab_length, HxvL.out]
    rw [Hxv.out]
    have hb7 : Below w6.heap.size w6 (w6.alloc (.cells xv.toArray 63)) := (Below.refl _ _).alloc (Nat.le_refl _) _
    have HP7 : Hid (RefRun (w6.alloc (.cells xv.toArray 63)) g ⟨sd, bt, ra, mo, de⟩ s (.slice aX rs.length cX) St.zero) := CellsAt.later HP6.out hb7
    have HO7 : Hid ((w6.alloc (.cells xv.toArray 63)).ownsRow w0.heap.size 99 4 (.slice aX rs.length cX) rs.length (recsCells rs)) := ownsRow_below HO6.out hb7
    have HC7 : Hid (CellsAt (w6.alloc (.cells xv.toArray 63)) w.heap.size 24 [.int .u64 sd, .int .u8 bt, .int .i32 ra, .int .i32 mo, .int .u8 de]) := CellsAt.later HC6.out hb7
    have HB7 : Hid (Below w.heap.size w (w6.alloc (.cells xv.toArray 63))) := HB6.out.trans (hb7.mono HB6.out.size)
    have HX7 : Hid (CellsAt (w6.alloc (.cells xv.toArray 63)) gW 63 xt) := CellsAt.later HX6.out hb7
    have HV7 : Hid (CellsAt (w6.alloc (.cells xv.toArray 63)) w6.heap.size 63 xv) := CellsAt.new _ _ _ _ rfl rfl
    have Hgv : Hid (g ≠ w6.heap.size) := by have := CellsAt.lt HP6.out; show g ≠ _; omega
    clear hb7 HP6 HO6 HC6 HB6 HX6
    cases ok with
    | false =>
      have Hno : Hid (O = none) := by
        show _ = _
        rw [← HO.out]
        refine dRead_no ?_
        rw [← HT.out.2]
        rcases Hok.out with ⟨h, _⟩ | ⟨_, h⟩
        · simp at h
        · exact rdNums_no6 h
      go_wp2_with (refine wpList_store_new rfl 63 (.tmp 15) (.tmp 70) rfl _ xv rfl rfl HxvI.out HxvZ.out HxvO.out ?_)
      go_ret2
      exact ⟨.inl ⟨Hno.out, rfl⟩, HB7.out⟩
    | true =>
    obtain ⟨k, hk6, hkR⟩ : ∃ k, rv6 (ls T) = some (N, k) ∧ ls R = (ls T).drop k := by
      rcases Hok.out with ⟨_, h⟩ | ⟨h, _⟩
      · exact h
      · simp at h
    have HV : Hid (rv (ls T) = some (N, k) ∧ ls R = (ls T).drop k) := ⟨rv6_some hk6, hkR⟩
    clear hk6 hkR Hok
    cases fine with
    | false =>
      have Hno : Hid (O = none) := by
        show _ = _
        rw [← HO.out]
        refine dRead_no ?_
        rw [← HT.out.2]
        rcases Hfine.out with ⟨h, _⟩ | ⟨_, h⟩
        · simp at h
        · exact rdNums_now HV.out.1 (by rw [← HV.out.2]; exact h)
      go_wp2_with (refine wpList_store_new rfl 63 (.tmp 15) (.tmp 70) rfl _ xv rfl rfl HxvI.out HxvZ.out HxvO.out ?_)
      go_ret2
      exact ⟨.inl ⟨Hno.out, rfl⟩, HB7.out⟩
    | true =>
    have HF : Hid (rt 16777216 128 0 (fun _ => 0) ((ls T).drop k) = some (F, ls R2)) := by
      rcases Hfine.out with ⟨_, h⟩ | ⟨h, _⟩
      · rw [← HV.out.2]; exact h
      · simp at h
    clear Hfine
    cases good with
    | false =>
      have Hno : Hid (O = none) := by
        show _ = _
        rw [← HO.out]
        refine dRead_no ?_
        rw [← HT.out.2]
        rcases Hgood.out with ⟨h, _⟩ | ⟨_, h⟩
        · simp at h
        · exact rdNums_nov HV.out.1 HF.out h
      go_wp2_with (refine wpList_store_new rfl 63 (.tmp 15) (.tmp 70) rfl _ xv rfl rfl HxvI.out HxvZ.out HxvO.out ?_)
      go_ret2
      exact ⟨.inl ⟨Hno.out, rfl⟩, HB7.out⟩
    | true =>
    have HG : Hid (rt 1073741824 128 0 (fun _ => 0) (ls R2) = some (G, ls R3)) := by
      rcases Hgood.out with ⟨_, h⟩ | ⟨h, _⟩
      · exact h
      · simp at h
    clear Hgood
    by_cases h400 : 400 < N
    · have Hno : Hid (O = none) := by
        show _ = _
        rw [← HO.out]
        refine dRead_no ?_
        rw [← HT.out.2]
        exact rdNums_big HV.out.1 h400
      go_wp2_with (refine wpList_store_new rfl 63 (.tmp 15) (.tmp 70) rfl _ xv rfl rfl HxvI.out HxvZ.out HxvO.out ?_)
      go_ret2
      exact ⟨.inl ⟨Hno.out, rfl⟩, HB7.out⟩
    have HE : Hid (O = if ls R3 = [] then some ⟨((ls sv).drop 4).take 4, N.toNat, F, G⟩ else none) := by
      show _ = _
      rw [← HO.out]
      exact dRead_end HGd.out (by rw [← HT.out.2]; exact rdNums_yes HV.out.1 h400 HF.out HG.out)
    by_cases hq3 : ls R3 = []
    case neg =>
      have Hno : Hid (O = none) := by show _ = _; rw [HE.out, if_neg hq3]
      have hq : (!R3.toList.isEmpty) = true := by
        rw [ByteArray.toList_eq]
        show (!(ls R3).isEmpty) = true
        cases h : ls R3 with
        | nil => exact absurd h hq3
        | cons _ _ => rfl
      clear hq3
      go_wp2_with (refine wpList_store_new rfl 63 (.tmp 15) (.tmp 70) rfl _ xv rfl rfl HxvI.out HxvZ.out HxvO.out ?_)
      go_ret2
      exact ⟨.inl ⟨Hno.out, rfl⟩, HB7.out⟩
    have hq : (!R3.toList.isEmpty) = false := by
      rw [ByteArray.toList_eq]
      show (!(ls R3).isEmpty) = false
      rw [hq3]
      rfl
    have HS : Hid (O = some ⟨((ls sv).drop 4).take 4, N.toNat, F, G⟩) := by show _ = _; rw [HE.out, if_pos hq3]
    clear hq3 HE
    go_wp2_with (refine wpList_store_new rfl 63 (.tmp 15) (.tmp 70) rfl _ xv rfl rfl HxvI.out HxvZ.out HxvO.out ?_)
    generalize w6.alloc (.cells xv.toArray 63) = w7 at *
    generalize w6.heap.size = gV at *
    have c0 := CellsAt.cell HC7.out 0
    have c1 := CellsAt.cell HC7.out 1
    have c2 := CellsAt.cell HC7.out 2
    have c3 := CellsAt.cell HC7.out 3
    have c4 := CellsAt.cell HC7.out 4
    simp only [List.getElem?_cons_zero, List.getElem?_cons_succ] at c0 c1 c2 c3 c4
    have hmn0 := HMb.out.1
    have hmn1 := HMb.out.2
    have HLi2 : Hid (∀ w1, Calls Tryz.prog 44 #[.int .u64 mn, .int .i64 4] w1 fun e w' => e = .returned (.string mk) ∧ Below w1.heap.size w1 w') := fun w1 => by
      have h := little_any mn 4 (by omega) (by omega) (by omega) w1
      rw [← HMe.out] at h
      exact h
    have hwm : IntKind.u64.wrap mn = mn := by rw [IntKind.wrap_u64]; omega
    have HM4 : Hid (ls (sv.extract 4 8) = ((ls sv).drop 4).take 4) := by show _ = _; rw [ls_cut]
    have q48 : (sv.extract 4 8).size = 4 := by rw [ByteArray.size_extract]; omega
    have HKp : Hid (∀ w', Below w7.heap.size w7 w' → Hid (Below w7.heap.size w7 w') ∧ w'.cell? ⟨w.heap.size, 0, none⟩ = some (.int .u64 sd) ∧ w'.cell? ⟨w.heap.size, 1, none⟩ = some (.int .u8 bt) ∧ w'.cell? ⟨w.heap.size, 2, none⟩ = some (.int .i32 ra) ∧ w'.cell? ⟨w.heap.size, 3, none⟩ = some (.int .i32 mo) ∧ w'.cell? ⟨w.heap.size, 4, none⟩ = some (.int .u8 de)) := fun w' hb => by
      have h := CellsAt.later HC7.out hb
      exact ⟨hb, CellsAt.cell h 0, CellsAt.cell h 1, CellsAt.cell h 2, CellsAt.cell h 3, CellsAt.cell h 4⟩
    obtain ⟨bq, Hbq⟩ : ∃ bq, Hid ((!mk.toList == (sv.extract 4 8).toList) = bq) := ⟨_, (rfl : _ = _)⟩
    have hbq : (!mk.toList == (sv.extract 4 8).toList) = bq := Hbq.out
    have HSq : Hid (bq = !decide (mk = sv.extract 4 8)) := by
      show _ = _
      rw [← Hbq.out, str_beq]
      congr 1
      by_cases h : mk = sv.extract 4 8
      · rw [h]; simp
      · rw [decide_eq_false h, decide_eq_false (fun e => h (ls_inj e))]
    go_cut [98] (fun bv wc => bv = .bool bq ∧ Hid (Below w7.heap.size w7 wc))
    case first =>
      go_region_held_law (fun w' => Hid (Below w7.heap.size w7 w') ∧ w'.cell? ⟨w.heap.size, 0, none⟩ = some (.int .u64 sd) ∧ w'.cell? ⟨w.heap.size, 1, none⟩ = some (.int .u8 bt) ∧ w'.cell? ⟨w.heap.size, 2, none⟩ = some (.int .i32 ra) ∧ w'.cell? ⟨w.heap.size, 3, none⟩ = some (.int .i32 mo) ∧ w'.cell? ⟨w.heap.size, 4, none⟩ = some (.int .u8 de)) (first | exact HKp.out _ hB.out | exact HKp.out _ (Below.refl _ _).drew | go_keep) (first | (go_at_call 43; refine (HMk.out _).mono ?_; rintro e w' ⟨rfl, hb⟩; have hB : Hid (Below w7.heap.size w7 w') := (‹Hid (Below w7.heap.size w7 _) ∧ _›).1.out.trans (hb.mono (‹Hid (Below w7.heap.size w7 _) ∧ _›).1.out.size); clear hb) | (go_at_call 44; refine (HLi2.out _).mono ?_; rintro e w' ⟨rfl, hb⟩; have hB : Hid (Below w7.heap.size w7 w') := (‹Hid (Below w7.heap.size w7 _) ∧ _›).1.out.trans (hb.mono (‹Hid (Below w7.heap.size w7 _) ∧ _›).1.out.size); clear hb))
      all_goals
        go_wp2_with fail
        go_meet
        case rel => exact ⟨rfl, by assumption⟩
    case rest =>
    obtain ⟨rfl, HBc⟩ := hcut
    have hb8 := HBc.out
    have HP8 : Hid (RefRun wc g ⟨sd, bt, ra, mo, de⟩ s (.slice aX rs.length cX) St.zero) := CellsAt.later HP7.out hb8
    have HO8 : Hid (wc.ownsRow w0.heap.size 99 4 (.slice aX rs.length cX) rs.length (recsCells rs)) := ownsRow_below HO7.out hb8
    have HB8 : Hid (Below w.heap.size w wc) := HB7.out.trans (hb8.mono HB7.out.size)
    have HX8 : Hid (CellsAt wc gW 63 xt) := CellsAt.later HX7.out hb8
    have HV8 : Hid (CellsAt wc gV 63 xv) := CellsAt.later HV7.out hb8
    clear hb8 HBc HP7 HO7 HC7 HB7 HX7 HV7 HKp hbq Hbq c0 c1 c2 c3 c4
    cases bq with
    | true =>
      have Hne : Hid (bs (((ls sv).drop 4).take 4) ≠ mk) := by
        show _ ≠ _
        intro h
        rw [← HM4.out, bs_ls] at h
        have q := HSq.out
        rw [decide_eq_true h.symm] at q
        simp at q
      go_wp2
      go_ret2
      exact ⟨.inr (.inl ⟨_, HS.out, Hne.out, rfl⟩), HB8.out⟩
    | false =>
    have HEq : Hid (bs (((ls sv).drop 4).take 4) = mk) := by
      show _ = _
      rw [← HM4.out, bs_ls]
      by_cases h : mk = sv.extract 4 8
      · exact h.symm
      · have q := HSq.out
        rw [decide_eq_false h] at q
        simp at q
    obtain ⟨n, Hn⟩ : ∃ n, Hid (N.toNat = n) := ⟨_, (rfl : _ = _)⟩
    have hNn : N = (n : Int) := by rw [← Hn.out]; omega
    rw [Hn.out] at HS
    subst hNn
    have hn4 : n ≤ 400 := by omega
    have e7 : wc.cell? ⟨g, 7, none⟩ = some (.int .i64 0) := CellsAt.cell HP8.out 7
    have f7 : wc.frozen? ⟨g, 7, none⟩ = false := CellsAt.frozen HP8.out 7
    have HP9 : Hid (CellsAt (wc.setCell ⟨g, 7, none⟩ (.int .i64 n)) g 69 (headCells ⟨sd, bt, ra, mo, de⟩ s (.slice aX rs.length cX) n ++ ((tab 128 (flat St.zero.w)) ++ (tab 128 (flat St.zero.v))))) := by
      have h := CellsAt.set HP8.out 7 (.int .i64 n)
      unfold runCells at h
      rw [List.set_append_left _ _ (by simp [headCells])] at h
      exact h
    have HX9 : Hid ((wc.setCell ⟨g, 7, none⟩ (.int .i64 n)).rangeAt gW 0 xt) := CellsAt.range (CellsAt.other HX8.out (fun e => Hgw.out e.symm) 7 (.int .i64 n))
    have HT9 : Hid ((wc.setCell ⟨g, 7, none⟩ (.int .i64 n)).there g 8 xt.toArray.size) := by
      show World.there _ _ _ xt.length
      rw [HxtL.out]
      exact CellsAt.thereAt HP9.out 8 128 (by simp [headCells, tab_length])
    have HPa : Hid (CellsAt ((wc.setCell ⟨g, 7, none⟩ (.int .i64 n)).setCells g 8 xt) g 69 (headCells ⟨sd, bt, ra, mo, de⟩ s (.slice aX rs.length cX) n ++ (xt ++ (tab 128 (flat St.zero.v))))) :=
      CellsAt.sets xt (headCells ⟨sd, bt, ra, mo, de⟩ s (.slice aX rs.length cX) n) (tab 128 (flat St.zero.w)) (tab 128 (flat St.zero.v)) (by rw [tab_length, HxtL.out]) HP9.out
    have HSa : Hid (Spared wc ((wc.setCell ⟨g, 7, none⟩ (.int .i64 n)).setCells g 8 xt) (fun j => j = g)) := (Spared.of_set wc g 7 (.int .i64 n)).trans (spared_sets g xt 8 _) (fun _ _ h => h)
    have HVa : Hid (((wc.setCell ⟨g, 7, none⟩ (.int .i64 n)).setCells g 8 xt).rangeAt gV 0 xv) := CellsAt.range (show CellsAt _ gV 63 xv from (HSa.out.block gV (CellsAt.lt HV8.out) (fun e => Hgv.out (show g = gV from e.symm))).trans HV8.out)
    have HTa : Hid (((wc.setCell ⟨g, 7, none⟩ (.int .i64 n)).setCells g 8 xt).there g 136 xv.toArray.size) := by
      show World.there _ _ _ xv.length
      rw [HxvL.out]
      exact CellsAt.thereAt HPa.out 136 128 (by simp [headCells, tab_length, HxtL.out])
    have HPb : Hid (CellsAt (((wc.setCell ⟨g, 7, none⟩ (.int .i64 n)).setCells g 8 xt).setCells g 136 xv) g 69 ((headCells ⟨sd, bt, ra, mo, de⟩ s (.slice aX rs.length cX) n ++ xt) ++ (xv ++ []))) := by
      have h := CellsAt.sets xv (headCells ⟨sd, bt, ra, mo, de⟩ s (.slice aX rs.length cX) n ++ xt) (tab 128 (flat St.zero.v)) [] (by rw [tab_length, HxvL.out]) (by rw [List.append_nil, List.append_assoc]; exact HPa.out)
      rw [show (headCells ⟨sd, bt, ra, mo, de⟩ s (.slice aX rs.length cX) n ++ xt).length = 136 by rw [List.length_append, HxtL.out]; rfl] at h
      exact h
    have HRb : Hid (RefRun (((wc.setCell ⟨g, 7, none⟩ (.int .i64 n)).setCells g 8 xt).setCells g 136 xv) g ⟨sd, bt, ra, mo, de⟩ s (.slice aX rs.length cX) (svSt ⟨((ls sv).drop 4).take 4, n, F, G⟩)) := by
      have h := HPb.out
      rw [List.append_nil, List.append_assoc, ← Hxt.out, ← Hxv.out] at h
      rw [← Hxt.out, ← Hxv.out]
      show CellsAt _ _ _ (runCells _ _ _ _)
      unfold runCells svSt
      simp only [flat_un]
      exact h
    have HSb : Hid (Spared wc (((wc.setCell ⟨g, 7, none⟩ (.int .i64 n)).setCells g 8 xt).setCells g 136 xv) (fun j => j = g)) := HSa.out.trans (spared_sets g xv 136 _) (fun _ _ h => h)
    have HBb : Hid (Below w.heap.size w (((wc.setCell ⟨g, 7, none⟩ (.int .i64 n)).setCells g 8 xt).setCells g 136 xv)) := below_sets (below_sets (HB8.out.setCell (p := ⟨g, 7, none⟩) Hg.out _) Hg.out 8 xt) Hg.out 136 xv
    have HOb : Hid ((((wc.setCell ⟨g, 7, none⟩ (.int .i64 n)).setCells g 8 xt).setCells g 136 xv).ownsRow w0.heap.size 99 4 (.slice aX rs.length cX) rs.length (recsCells rs)) := by
      have hne : ∀ j, (Value.slice aX rs.length cX).ownBlock = some j → ¬ j = g := fun j hj e => by
        subst e
        exact own_ne HO8.out HP8.out (by decide) hj
      exact ownsRow_spared (S := fun j => j = g) HO8.out HSb.out hne
    clear HP9 HPa HSa HSb HPb HP8 HO8 HX8 HV8
    go_wp2_with (first
      | (refine wpList_load_mid rfl 63 (.tmp 13) rfl _ _ rfl xt _ HX9.out Tryz.underlying63 rfl HxtI.out ?_)
      | (refine wpList_store_mid rfl 63 (.tmp 107) (.tmp 105) rfl _ _ xt.toArray rfl rfl HT9.out (by rw [List.size_toArray]; exact HxtI.out) (all_oneCell_toArray HxtO.out) ?_)
      | (refine wpList_load_mid rfl 63 (.tmp 15) rfl _ _ rfl xv _ HVa.out Tryz.underlying63 rfl HxvI.out ?_)
      | (refine wpList_store_mid rfl 63 (.tmp 111) (.tmp 109) rfl _ _ xv.toArray rfl rfl HTa.out (by rw [List.size_toArray]; exact HxvI.out) (all_oneCell_toArray HxvO.out) ?_))
    go_ret2
    exact ⟨.inr (.inr ⟨_, g, HS.out, HEq.out, rfl, Hg.out, ⟨aX, cX, w0.heap.size, HRb.out, HOb.out⟩⟩), HBb.out⟩
end Go.Proofs.YtfpodnleimhohabGreatDoor
