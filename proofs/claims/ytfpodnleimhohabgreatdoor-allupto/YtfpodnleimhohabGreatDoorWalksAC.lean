/-
  WALKS: the document's Step.
-/
import Derived.Test.YtfpodnleimhohabGreatDoorGen
import Derived.Test.YtfpodnleimhohabGreatDoorWalksAB
import Derived.Test.YtfpodnleimhohabGreatDoorRecs
import Derived.Test.YtfpodnleimhohabGreatDoorSpare
namespace Go.Proofs.YtfpodnleimhohabGreatDoor
open Go.RowKit
set_option linter.unusedVariables false

set_option maxRecDepth 100000 in
theorem refStep_workers (g : Nat) (k : Int) (hk : ¬ (1 ≤ k ∧ k ≤ 8)) (w : World) :
    Calls Tryz.prog 19 #[.pointer (some ⟨g, 0, none⟩), .int .i64 k] w fun e w' => e = .returned (.tuple #[.slice none 0 0, .int .i64 6]) ∧ w' = w := by
  go_enter Tryz.func19, Tryz.ntmps19
  by_cases h : k < 1
  · go_wp2
    go_ret2
    exact ⟨rfl, rfl⟩
  · go_wp2
    go_ret2
    exact ⟨rfl, rfl⟩
set_option maxRecDepth 100000 in
theorem refStep_limit (g : Nat) (cf : Cf) (shard : ByteArray) (lv : Value) (st : St) (h4 : st.steps = 400) (k : Nat) (hk : 1 ≤ k ∧ k ≤ 8) (w : World) (hR : RefRun w g cf shard lv st) :
    Calls Tryz.prog 19 #[.pointer (some ⟨g, 0, none⟩), .int .i64 k] w fun e w' => e = .returned (.tuple #[.slice none 0 0, .int .i64 7]) ∧ w' = w := by
  have d7 := (hR.cell 7).trans (runCells_head cf shard lv st (by decide))
  simp only [headCells, List.getElem?_cons_zero, List.getElem?_cons_succ] at d7
  rw [h4] at d7
  have HR : Hid _ := hR
  clear hR
  go_enter Tryz.func19, Tryz.ntmps19
  go_wp2
  go_ret2
  exact ⟨rfl, rfl⟩

/-! ### the weights are turned -/
/-- Memory while the weights are turned. -/
structure UpdAt (w wr : World) (g W : Nat) (rc : List Value) (f : Nat → Int) (M : Nat → Nat) : Prop where
  r : CellsAt wr g 69 rc
  G : CellsAt wr w.heap.size 63 (tab 128 f)
  m : CellsAt wr (w.heap.size + 1) 3 (tab W fun i => ((M i : Nat) : Int))
  s : Spared w wr (fun j => j = g)
theorem UpdAt.set {w wr : World} {g W : Nat} {rc : List Value} {f : Nat → Int} {M : Nat → Nat} (h : UpdAt w wr g W rc f M) (hg : g < w.heap.size) (i : Nat) (u : Value) : UpdAt w (wr.setCell ⟨g, i, none⟩ u) g W (rc.set i u) f M :=
  ⟨h.r.set i u, h.G.other (by omega) _ _, h.m.other (by omega) _ _, h.s.trans (Spared.of_set wr g i u) (fun _ _ h => h)⟩
theorem UpdAt.drewN {w wr : World} {g W : Nat} {rc : List Value} {f : Nat → Int} {M : Nat → Nat} (h : UpdAt w wr g W rc f M) (n : Nat) : UpdAt w (wr.drewN n) g W rc f M := ⟨h.r, h.G, h.m, ⟨h.s.os, h.s.tape, h.s.output, h.s.size, h.s.block⟩⟩
theorem UpdAt.drew {w wr : World} {g W : Nat} {rc : List Value} {f : Nat → Int} {M : Nat → Nat} (h : UpdAt w wr g W rc f M) : UpdAt w wr.drew g W rc f M := ⟨h.r, h.G, h.m, ⟨h.s.os, h.s.tape, h.s.output, h.s.size, h.s.block⟩⟩
theorem UpdAt.to {w wr : World} {g W : Nat} {rc rc' : List Value} {f : Nat → Int} {M : Nat → Nat} (h : UpdAt w wr g W rc f M) (e : rc = rc') : UpdAt w wr g W rc' f M := e ▸ h
set_option maxRecDepth 100000 in
set_option maxHeartbeats 40000000 in
theorem refStep_any (g : Nat) (cf : Cf) (hcf : cf.Ok) (shard : ByteArray) (aL : Option Addr) (cL bL : Nat) (rs : List Rc) (hrs : ∀ r ∈ rs, bodyOk r.bd = true) (hn1 : 1 ≤ rs.length) (hn2 : rs.length ≤ 600) (st : St) (hst : st.Ok) (h4 : st.steps < 400) (k : Nat) (hk : 1 ≤ k ∧ k ≤ 8) (w : World) (hL : LowAt w) (hR : RefRun w g cf shard (.slice aL rs.length cL) st) (hO : w.ownsRow bL 99 4 (.slice aL rs.length cL) rs.length (recsCells rs)) :
    Calls Tryz.prog 19 #[.pointer (some ⟨g, 0, none⟩), .int .i64 k] w fun e w' => ∃ v, e = .returned (.tuple #[v, .int .i64 0]) ∧ w'.ownsRow w.heap.size 3 1 v k (intCells (workL cf (exsOf rs) st k)) ∧ RefRun w' g cf shard (.slice aL rs.length cL) (stepN cf (exsOf rs) st) ∧ Spared w w' (fun j => j = g) := by
  have d1 := (hR.cell 1).trans (runCells_head cf shard (.slice aL rs.length cL) st (by decide))
  have d7 := (hR.cell 7).trans (runCells_head cf shard (.slice aL rs.length cL) st (by decide))
  have d6 := (hR.cell 6).trans (runCells_head cf shard (.slice aL rs.length cL) st (by decide))
  simp only [headCells, List.getElem?_cons_zero, List.getElem?_cons_succ] at d1 d6 d7
  have HR : Hid (RefRun w g cf shard (.slice aL rs.length cL) st) := hR
  have HO : Hid (w.ownsRow bL 99 4 (.slice aL rs.length cL) rs.length (recsCells rs)) := hO
  have HL : Hid (LowAt w) := hL
  have hgl := hR.lt
  have hs4 : ((st.steps : Int) == 400) = false := by simp; omega
  have hb8 := hcf.batch8
  have hb1 := hcf.batch1
  obtain ⟨hk1, hk8⟩ := hk
  clear hR hO hL
  obtain ⟨B, HBt⟩ : ∃ B, Hid (cf.batch = B) := ⟨_, (rfl : _ = _)⟩
  obtain ⟨sp, Hsp⟩ : ∃ sp, Hid (st.steps = sp) := ⟨_, (rfl : _ = _)⟩
  rw [HBt.out] at d1 hb8 hb1
  rw [Hsp.out] at d7 hs4 h4
  obtain ⟨i0, hi, hz0, hz1, hz2⟩ := info_parts info_int
  obtain ⟨X, HX⟩ : ∃ X, Hid (exsOf rs = X) := ⟨_, (rfl : _ = _)⟩
  obtain ⟨m, Hm⟩ : ∃ m, Hid (sp * B = m) := ⟨_, (rfl : _ = _)⟩
  have hm1 : (sp : Int) * (B : Int) = (m : Int) := by rw [← Hm.out, Int.natCast_mul]
  have hm2 : m ≤ 3192 := by rw [← Hm.out]; exact Nat.le_trans (Nat.mul_le_mul (show sp ≤ 399 by omega) hb8) (by decide)
  go_enter Tryz.func19, Tryz.ntmps19
  go_wp2_with (at_make; refine wpList_make_row _ rfl (.tmp 39) (.tmp 39) 73 rfl 3 i0 (.int .i64 0) Tryz.underlying73 hi hz0 hz1 rfl _ _ k rfl rfl (by rw [hz2]; omega) (by omega) ?_)
  obtain ⟨w0, Hw0⟩ : ∃ w0, Hid ((w.alloc (.cells Tryz.zeroCells63 63)).alloc (.cells (madeCells #[.int .i64 0] k) 3) = w0) := ⟨_, (rfl : _ = _)⟩
  have H0 : Hid (StepAt w w0 k (gradN cf X st 0) (mTo cf X st k 0)) := by
    show StepAt _ _ _ _ _
    rw [← Hw0.out]
    exact ⟨(CellsAt.new w _ _ _ (by kernel_rfl) rfl).alloc _, CellsAt.new _ _ _ _ (made_tab k) (by simp), ((Below.refl _ _).alloc (Nat.le_refl _) _).alloc (by simp) _⟩
  rw [Hw0.out]
  clear Hw0
  generalize decide ((k : Int) < 1) = q1
  generalize decide ((8 : Int) < (k : Int)) = q2
  obtain ⟨_, _, hLv, hcL1, hcL2, hrd⟩ := own_read HO.out
  simp only [Value.slice.injEq, true_and] at hLv
  obtain ⟨rfl, rfl⟩ := hLv
  obtain ⟨gL, rfl, _, hgLl, hgc⟩ := hrd (by omega)
  have HGC : Hid _ := hgc
  unfold maxLen at hcL2
  clear hrd hgc
  go_loopw [9] (fun rv wr => ∃ row : Nat, row ≤ B ∧ rv = .int .i64 row ∧ Hid (StepAt w wr k (gradN cf X st row) (mTo cf X st k row))) (fun r _ => B - (intOf r).toNat)
  case atStart => exact ⟨0, by omega, rfl, H0⟩
  case round =>
    obtain ⟨row, hrow, rfl, HS⟩ := hrel
    clear H0
    by_cases hlt : row < B
    · have e7 := (HS.out.b.cell (p := ⟨g, 7, none⟩) hgl).trans d7
      have HDr : Hid (drawAns cf rs.length ((m : Int) + (row : Int)) = (drawN cf rs.length (m + row), 0)) := if_pos ⟨by omega, by omega⟩
      have hx := drawN_lt cf (n := rs.length) (m + row) hn1 (by omega)
      obtain ⟨x, Hx⟩ : ∃ x, Hid (drawN cf rs.length (m + row) = x) := ⟨_, (rfl : _ = _)⟩
      rw [Hx.out] at HDr hx
      go_wp2_with fail
      refine (refDraw_any g cf hcf shard (some ⟨gL, 0, none⟩) rs.length cL hn1 (by omega) st ((m : Int) + (row : Int)) _ (HR.out.later HS.out.b)).mono ?_
      rintro e w1 ⟨rfl, n1, rfl⟩
      rw [HDr.out]
      have HS1 : Hid (StepAt w (wr.drewN n1) k (gradN cf X st row) (mTo cf X st k row)) := HS.out.drewN n1
      generalize wr.drewN n1 = w1 at *
      clear HS e7
      have hrx := List.getElem?_eq_getElem hx
      have hok := hrs _ (List.getElem_mem hx)
      have HRow : Hid (rowAt cf X st row = exOf rs[x]) := by
        show _ = _
        unfold rowAt rowN
        rw [← HX.out, show (exsOf rs).length = rs.length by simp [exsOf], Hsp.out, HBt.out, Hm.out, Hx.out, List.getD_eq_getElem?_getD]
        simp [exsOf, List.getElem?_eq_getElem hx]
      obtain ⟨ol1, ol2⟩ := exOf_ok hok
      generalize rs[x] = rc at *
      obtain ⟨q0, q1', q2', q3'⟩ := rec_get hrx
      have C2 := (HS1.out.b.cell (p := ⟨gL, x * 4 + 2, none⟩) hgLl).trans ((HGC.out _ (by omega)).trans q2')
      have C3 := (HS1.out.b.cell (p := ⟨gL, x * 4 + 3, none⟩) hgLl).trans ((HGC.out _ (by omega)).trans q3')
      have C6 := (HS1.out.b.cell (p := ⟨g, 6, none⟩) hgl).trans d6
      have HLb : Hid ((rc.bd.headD 0).toNat = (exOf rc).1) := rfl
      have HTx : Hid (rc.bd.tail = (exOf rc).2) := rfl
      rw [HLb.out] at C2
      rw [HTx.out] at C3
      clear q0 q1' q2' q3' hrx hok
      generalize exOf rc = ex at *
      obtain ⟨lab, txt⟩ := ex
      simp only at ol1 ol2 C2 C3
      have hbz : (bs txt).size = txt.length := bs_size txt
      go_wp2_with fail
      refine (counts_any (bs txt) (by omega) _ (HL.out.later HS1.out.b)).mono ?_
      rintro e w2 ⟨rfl, hb2⟩
      rw [ls_bs]
      have HS2 : Hid (StepAt w w2 k (gradN cf X st row) (mTo cf X st k row)) := HS1.out.later hb2
      clear hb2 HS1 C2 C3 C6
      obtain ⟨cN, HcN⟩ : ∃ cN, Hid (tab 32 (fun b => ((countsN txt b : Nat) : Int)) = cN) := ⟨_, (rfl : _ = _)⟩
      rw [HcN.out]
      have HNl : Hid (cN.length = 32) := by show _ = _; rw [← HcN.out]; exact tab_length _ _
      have HNo : Hid (∀ u ∈ cN, u.oneCell' = true) := by show ∀ u ∈ cN, _; rw [← HcN.out]; exact tab_one _ _
      have HNi : Hid ((Tryz.prog.info? 62).map (·.size) = some cN.length) := by show _ = _; rw [HNl.out]; exact info_big
      have HS3 : Hid (StepAt w (w2.alloc (.cells cN.toArray 62)) k (gradN cf X st row) (mTo cf X st k row)) := HS2.out.later ((Below.refl _ _).alloc (Nat.le_refl _) _)
      have HN3 : Hid (CellsAt (w2.alloc (.cells cN.toArray 62)) w2.heap.size 62 cN) := CellsAt.new _ _ _ _ rfl rfl
      go_wp2_with (first
        | (refine wpList_store_new rfl 62 (.tmp 13) (.tmp 78) rfl _ cN rfl rfl HNi.out HNl.out.symm HNo.out ?_)
        | (refine wpList_load_mid rfl 62 (.tmp 13) rfl _ _ rfl cN _ (CellsAt.range HN3.out) Tryz.underlying62 rfl HNi.out ?_))
      have hg2 : w.heap.size + 2 ≤ w2.heap.size := by have := HS2.out.m.lt; omega
      generalize hw3 : w2.alloc (.cells cN.toArray 62) = w3 at *
      have hg23 : w2.heap.size < w3.heap.size := CellsAt.lt HN3.out
      clear hw3 HS2
      generalize w2.heap.size = gN at *
      rw [← HcN.out]
      refine (scores_any g cf shard _ st hst (countsN txt) (countsN_le txt) _ (HR.out.later HS3.out.b)).mono ?_
      rintro e w4 ⟨rfl, hb4⟩
      have HS4 : Hid (StepAt w w4 k (gradN cf X st row) (mTo cf X st k row)) := HS3.out.later hb4
      have HN4 : Hid (CellsAt w4 gN 62 cN) := CellsAt.later HN3.out hb4
      have hg24 : gN < w4.heap.size := CellsAt.lt HN4.out
      clear hb4 HS3 HN3
      obtain ⟨sc, Hsc⟩ : ∃ sc, Hid (scoreN (countsN txt) st.w = sc) := ⟨_, (rfl : _ = _)⟩
      rw [Hsc.out]
      have HScB : Hid (∀ c, c < 4 → -(3758096384 : Int) ≤ sc c ∧ sc c ≤ 3758096384) := fun c hc => by
        rw [← Hsc.out]; exact sc_bound (countsN txt) (countsN_le txt) st.w c (fun b hb => hst.w c b hc hb) 32 (Nat.le_refl _)
      obtain ⟨cS, HcS⟩ : ∃ cS, Hid (tab 4 sc = cS) := ⟨_, (rfl : _ = _)⟩
      rw [HcS.out]
      have HSl : Hid (cS.length = 4) := by show _ = _; rw [← HcS.out]; exact tab_length _ _
      have HSo : Hid (∀ u ∈ cS, u.oneCell' = true) := by show ∀ u ∈ cS, _; rw [← HcS.out]; exact tab_one _ _
      have HSi : Hid ((Tryz.prog.info? 119).map (·.size) = some cS.length) := by show _ = _; rw [HSl.out]; exact info_four
      have HS5 : Hid (StepAt w (w4.alloc (.cells cS.toArray 119)) k (gradN cf X st row) (mTo cf X st k row)) := HS4.out.later ((Below.refl _ _).alloc (Nat.le_refl _) _)
      have HN5 : Hid (CellsAt (w4.alloc (.cells cS.toArray 119)) gN 62 cN) := CellsAt.alloc HN4.out _
      have HC5 : Hid (CellsAt (w4.alloc (.cells cS.toArray 119)) w4.heap.size 119 cS) := CellsAt.new _ _ _ _ rfl rfl
      go_wp2_with (first
        | (refine wpList_store_new rfl 119 (.tmp 14) (.tmp 81) rfl _ cS rfl rfl HSi.out HSl.out.symm HSo.out ?_)
        | (refine wpList_load_mid rfl 119 (.tmp 14) rfl _ _ rfl cS _ (CellsAt.range HC5.out) Tryz.underlying119 rfl HSi.out ?_))
      generalize hw5 : w4.alloc (.cells cS.toArray 119) = w5 at *
      clear hw5 HS4 HN4
      generalize w4.heap.size = gS at *
      rw [← HcS.out]
      refine (best_any sc (lab : Int) (by omega) _).mono ?_
      rintro e w6 ⟨rfl, hb6⟩
      have HS6 : Hid (StepAt w w6 k (gradN cf X st row) (mTo cf X st k row)) := HS5.out.later hb6
      have HN6 : Hid (CellsAt w6 gN 62 cN) := CellsAt.later HN5.out hb6
      have hrv := bestN_lt sc (lab : Int)
      have hne := bestN_ne sc lab
      obtain ⟨rv, Hrv⟩ : ∃ rv, Hid (bestN sc (lab : Int) = rv) := ⟨_, (rfl : _ = _)⟩
      rw [Hrv.out] at hrv hne ⊢
      have HMs : Hid (missN st.w (rowAt cf X st row) = decide (sc lab - sc rv < 65536) ∧ rivalN st.w (rowAt cf X st row) = rv) := by
        show _ ∧ _
        rw [HRow.out]
        constructor
        · unfold missN rivalN; simp only; rw [Hsc.out, Hrv.out]
        · unfold rivalN; simp only; rw [Hsc.out, Hrv.out]
      have s1 := (CellsAt.cell (CellsAt.later HC5.out hb6) lab).trans (by rw [← HcS.out]; exact tab_get sc ol1 : cS[lab]? = some (.int .i64 (sc lab)))
      have s2 := (CellsAt.cell (CellsAt.later HC5.out hb6) rv).trans (by rw [← HcS.out]; exact tab_get sc hrv : cS[rv]? = some (.int .i64 (sc rv)))
      have hs1 := HScB.out lab ol1
      have hs2 := HScB.out rv hrv
      clear hb6 HS5 HN5 HC5 HScB
      generalize sc lab = sl at *
      generalize sc rv = sr at *
      by_cases hms : sl - sr < 65536
      · have hd : decide ((65536 : Int) ≤ sl - sr) = false := by simp; omega
        have HMt : Hid (missN st.w (rowAt cf X st row) = true) := by show _ = _; rw [HMs.out.1]; simpa using hms
        go_wp2_with fail
        go_quiet (fail)
        go_wp2_with fail
        have H0 : Hid (StepF w (w6.drewN nq) k (flat (addTo (gradN cf X st row) lab rv (countsN txt) 0)) (mTo cf X st k row) ∧ CellsAt (w6.drewN nq) gN 62 cN) := ⟨by rw [addTo_zero]; exact HS6.out.drewN nq, HN6.out⟩
        have HRv : Hid (rivalN st.w (rowAt cf X st row) = rv) := HMs.out.2
        clear HS6 HN6 s1 s2 hs1 hs2 hd hms HMs
        go_loopw [16] (fun bv wq => ∃ b : Nat, b ≤ 32 ∧ bv = .int .i64 b ∧ Hid (StepF w wq k (flat (addTo (gradN cf X st row) lab rv (countsN txt) b)) (mTo cf X st k row) ∧ CellsAt wq gN 62 cN)) (fun b _ => 32 - (intOf b).toNat)
        case atStart => exact ⟨0, by omega, rfl, H0⟩
        case round =>
          obtain ⟨b, hb, rfl, HT⟩ := hrel
          clear H0
          by_cases hbl : b < 32
          · have HG := gradN_le cf X st row
            have g1 := (HT.out.1.G.cell (lab * 32 + b)).trans (tab_get _ (show lab * 32 + b < 128 by omega))
            rw [flat_at _ hbl, addTo_lab] at g1
            have f1 := HT.out.1.G.frozen (lab * 32 + b)
            have e2 : cN[b]? = some (.int .i64 ((countsN txt b : Nat) : Int)) := by rw [← HcN.out]; exact tab_get (fun b => ((countsN txt b : Nat) : Int)) hbl
            have n1 := (CellsAt.cell HT.out.2 b).trans e2
            have HTa : Hid (StepF w (wr.setCell ⟨w.heap.size, lab * 32 + b, none⟩ (.int .i64 (gradN cf X st row lab b + (countsN txt b : Nat)))).drew k (upd (flat (addTo (gradN cf X st row) lab rv (countsN txt) b)) (lab * 32 + b) (gradN cf X st row lab b + (countsN txt b : Nat))) (mTo cf X st k row) ∧ CellsAt (wr.setCell ⟨w.heap.size, lab * 32 + b, none⟩ (.int .i64 (gradN cf X st row lab b + (countsN txt b : Nat)))).drew gN 62 cN) :=
              ⟨(HT.out.1.setG _ _).drew, CellsAt.other HT.out.2 (by omega) _ _⟩
            have hG1 := HG lab b
            have hG2 := HG rv b
            have hcn := countsN_le txt b
            have HN := addTo_next (gradN cf X st row) lab rv (countsN txt) b hne hbl
            have g2' : flat (addTo (gradN cf X st row) lab rv (countsN txt) b) (rv * 32 + b) = gradN cf X st row rv b := by rw [flat_at _ hbl, addTo_rv]
            clear HG HT
            generalize flat (addTo (gradN cf X st row) lab rv (countsN txt) b) = fB at *
            generalize gradN cf X st row lab b = x1 at *
            generalize gradN cf X st row rv b = x2 at *
            generalize countsN txt b = y1 at *
            have HNx : Hid _ := HN
            have HG2 : Hid _ := g2'
            clear HN g2'
            go_wp2_with fail
            go_region
            clear g1 f1 n1
            generalize (wr.setCell ⟨w.heap.size, lab * 32 + b, none⟩ (.int .i64 (x1 + (y1 : Int)))).drew = w7 at *
            have g2 := (HTa.out.1.G.cell (rv * 32 + b)).trans (tab_get _ (show rv * 32 + b < 128 by omega))
            have g3 : upd fB (lab * 32 + b) (x1 + (y1 : Int)) (rv * 32 + b) = x2 := by
              simp only [upd]; rw [if_neg (by omega)]; exact HG2.out
            rw [g3] at g2
            have f2 := HTa.out.1.G.frozen (rv * 32 + b)
            have n2 := (CellsAt.cell HTa.out.2 b).trans e2
            clear g3 e2
            have HTb : Hid (StepF w (w7.setCell ⟨w.heap.size, rv * 32 + b, none⟩ (.int .i64 (x2 - (y1 : Int)))).drew k (flat (addTo (gradN cf X st row) lab rv (countsN txt) (b + 1))) (mTo cf X st k row) ∧ CellsAt (w7.setCell ⟨w.heap.size, rv * 32 + b, none⟩ (.int .i64 (x2 - (y1 : Int)))).drew gN 62 cN) :=
              ⟨((HTa.out.1.setG _ _).drew).to HNx.out (fun _ _ => rfl), CellsAt.other HTa.out.2 (by omega) _ _⟩
            clear HTa HNx HG2
            go_wp2_with fail
            go_region
            go_wp2
            go_roundw
            case rel => exact ⟨b + 1, by omega, by go_num, HTb⟩
            case measure => simp [intOf]; omega
          · obtain rfl : b = 32 := by omega
            have HT2 : Hid (StepF w wr k (flat (gradN cf X st (row + 1))) (mBy cf X st k row 0)) := HT.out.1.to (by rw [grad_yes cf X st row lab rv txt HRow.out HMt.out HRv.out]) (fun j _ => by simp [mBy])
            clear HT
            go_wp2_with fail
            go_loopw [17] (fun iv wq => ∃ i : Nat, i ≤ k ∧ iv = .int .i64 i ∧ Hid (StepF w wq k (flat (gradN cf X st (row + 1))) (mBy cf X st k row i))) (fun i _ => k - (intOf i).toNat)
            case atStart => exact ⟨0, by omega, rfl, HT2⟩
            case round =>
              obtain ⟨i, hik, rfl, HU⟩ := hrel
              clear HT2
              by_cases hil : i < k
              · obtain ⟨p, Hp⟩ : ∃ p, Hid (i * B = p) := ⟨_, (rfl : _ = _)⟩
                obtain ⟨p', Hp'⟩ : ∃ p, Hid ((i + 1) * B = p) := ⟨_, (rfl : _ = _)⟩
                obtain ⟨lo, Hlo⟩ : ∃ q, Hid (p / k = q) := ⟨_, (rfl : _ = _)⟩
                obtain ⟨hi', Hhi⟩ : ∃ q, Hid (p' / k = q) := ⟨_, (rfl : _ = _)⟩
                have hp1 : (i : Int) * (B : Int) = (p : Int) := by rw [← Hp.out, Int.natCast_mul]
                have hp2 : ((i : Int) + 1) * (B : Int) = (p' : Int) := by rw [← Hp'.out, Int.natCast_mul]; rfl
                have hpb : p ≤ 64 := by rw [← Hp.out]; exact Nat.le_trans (Nat.mul_le_mul (show i ≤ 8 by omega) hb8) (by decide)
                have hpb' : p' ≤ 64 := by rw [← Hp'.out]; exact Nat.le_trans (Nat.mul_le_mul (show i + 1 ≤ 8 by omega) hb8) (by decide)
                have hl1 : (p : Int) / (k : Int) = (lo : Int) := by rw [← Hlo.out, Int.natCast_ediv]
                have hl2 : (p' : Int) / (k : Int) = (hi' : Int) := by rw [← Hhi.out, Int.natCast_ediv]
                have hl3 : (p : Int).tdiv (k : Int) = (lo : Int) := by rw [Int.tdiv_eq_ediv_of_nonneg (by omega)]; exact hl1
                have hl4 : (p' : Int).tdiv (k : Int) = (hi' : Int) := by rw [Int.tdiv_eq_ediv_of_nonneg (by omega)]; exact hl2
                have hlob : lo ≤ 64 := by have := Nat.div_le_self p k; rw [Hlo.out] at this; omega
                have hhib : hi' ≤ 64 := by have := Nat.div_le_self p' k; rw [Hhi.out] at this; omega
                have hk0 : ((k : Int) == 0) = false := by simp; omega
                have HCd : Hid ((i * cf.batch / k ≤ row ∧ row < (i + 1) * cf.batch / k) ↔ (lo ≤ row ∧ row < hi')) := by
                  show _ ↔ _
                  rw [HBt.out, Hp.out, Hp'.out, Hlo.out, Hhi.out]
                by_cases hcd : lo ≤ row ∧ row < hi'
                · have HV : Hid _ := HU.out.setM i (mTo cf X st k row i + 1) (mBy_yes cf X st k row i HMt.out (HCd.out.2 hcd))
                  have m1 := (HU.out.m.cell i).trans (tab_get _ hil)
                  rw [mBy_at] at m1
                  have f1 := HU.out.m.frozen i
                  have hmb : mTo cf X st k row i ≤ row := cntTo_le _ _
                  generalize mTo cf X st k row i = mi at *
                  obtain ⟨hc1, hc2⟩ := hcd
                  clear HU HCd
                  go_wp2
                  go_roundw
                  case rel => exact ⟨i + 1, by omega, by go_num, HV⟩
                  case measure => simp [intOf]; omega
                · have HV : Hid _ := HU.out.to rfl (mBy_no cf X st k row i HMt.out (fun h => hcd (HCd.out.1 h)))
                  clear HU HCd
                  by_cases hc1 : lo ≤ row
                  · have hc2 : ¬ row < hi' := fun h => hcd ⟨hc1, h⟩
                    clear hcd
                    go_wp2
                    go_roundw
                    case rel => exact ⟨i + 1, by omega, by go_num, HV⟩
                    case measure => simp [intOf]; omega
                  · clear hcd
                    go_wp2
                    go_roundw
                    case rel => exact ⟨i + 1, by omega, by go_num, HV⟩
                    case measure => simp [intOf]; omega
              · obtain rfl : i = k := by omega
                go_wp2
                go_roundw
                case rel => exact ⟨row + 1, by omega, by go_num, HU.out.to rfl (fun j hj => by simp [mBy, hj])⟩
                case measure => simp [intOf]; omega
      · have hd : decide ((65536 : Int) ≤ sl - sr) = true := by simp; omega
        have HMf : Hid (missN st.w (rowAt cf X st row) = false) := by show _ = _; rw [HMs.out.1]; simpa using hms
        go_wp2_with fail
        go_quiet (fail)
        go_wp2
        go_roundw
        case rel => exact ⟨row + 1, by omega, by go_num, (HS6.out.drewN _).to (by rw [grad_no cf X st row HMf.out]) (fun j _ => m_no cf X st k row j HMf.out)⟩
        case measure => simp [intOf]; omega
    · obtain rfl : row = B := by omega
      have HSt : Hid (st = ⟨sp, st.w, st.v⟩) := by show _ = _; rw [← Hsp.out]
      have HU0 : Hid (UpdAt w wr g k (runCells cf shard (.slice (some ⟨gL, 0, none⟩) rs.length cL) ⟨sp, mixT (stepN cf X st).w st.w 0 0, mixT (stepN cf X st).v st.v 0 0⟩) (flat (gradN cf X st row)) (mTo cf X st k row)) := by
        refine ⟨?_, HS.out.G, HS.out.m, ⟨HS.out.b.os, HS.out.b.tape, HS.out.b.output, HS.out.b.size, fun j hj _ => HS.out.b.block j hj⟩⟩
        rw [mixT_none, mixT_none, ← HSt.out]
        exact HR.out.later HS.out.b
      clear HS
      obtain ⟨new, Hnew⟩ : ∃ new, Hid (stepN cf X st = new) := ⟨_, (rfl : _ = _)⟩
      rw [Hnew.out] at HU0
      obtain ⟨lv, Hlv⟩ : ∃ lv, Hid (Value.slice (some ⟨gL, 0, none⟩) rs.length cL = lv) := ⟨_, (rfl : _ = _)⟩
      rw [Hlv.out] at HU0
      obtain ⟨fG, HfG⟩ : ∃ fG, Hid (flat (gradN cf X st row) = fG) := ⟨_, (rfl : _ = _)⟩
      obtain ⟨M, HM⟩ : ∃ M, Hid (mTo cf X st k row = M) := ⟨_, (rfl : _ = _)⟩
      rw [HfG.out, HM.out] at HU0
      go_wp2_with fail
      go_loopg [18] 4 (fun gz cv wq => ∃ c : Nat, c + gz = 4 ∧ cv = .int .i64 c ∧ Hid (UpdAt w wq g k (runCells cf shard lv ⟨sp, mixT new.w st.w c 0, mixT new.v st.v c 0⟩) fG M))
      case atStart => exact ⟨0, by omega, rfl, HU0⟩
      case round =>
        obtain ⟨c, hc, rfl, HC⟩ := hrel
        clear HU0
        by_cases hcl : c < 4
        · go_wp2_with fail
          generalize decide ((c : Int) < 4) = q3
          go_loopg [19] 32 (fun gz bv wq => ∃ b : Nat, b + gz = 32 ∧ bv = .int .i64 b ∧ Hid (UpdAt w wq g k (runCells cf shard lv ⟨sp, mixT new.w st.w c b, mixT new.v st.v c b⟩) fG M))
          case atStart => exact ⟨0, by omega, rfl, HC⟩
          case round =>
            obtain ⟨b, hb, rfl, HT⟩ := hrel
            clear HC
            by_cases hbl : b < 32
            · have HG1 := gradN_le cf X st row c b
              have hv0 := hst.v c b hcl hbl
              have hw0 := hst.w c b hcl hbl
              have v1 := (HT.out.r.cell (136 + c * 32 + b)).trans (runCells_v cf shard lv _ hcl hbl)
              have w1 := (HT.out.r.cell (8 + c * 32 + b)).trans (runCells_w cf shard lv _ hcl hbl)
              simp only [mixT_at] at v1 w1
              have g1 := (HT.out.G.cell (c * 32 + b)).trans (tab_get _ (show c * 32 + b < 128 by omega))
              rw [← HfG.out, flat_at _ hbl] at g1
              have r2 := (HT.out.r.cell 2).trans (runCells_head cf shard lv _ (by decide))
              have r3 := (HT.out.r.cell 3).trans (runCells_head cf shard lv _ (by decide))
              have r4 := (HT.out.r.cell 4).trans (runCells_head cf shard lv _ (by decide))
              simp only [headCells, List.getElem?_cons_zero, List.getElem?_cons_succ] at r2 r3 r4
              have fv := HT.out.r.frozen (136 + c * 32 + b)
              have fw := HT.out.r.frozen (8 + c * 32 + b)
              have hmom := hcf.mom
              have hrate := hcf.rate
              have hdec := hcf.decay
              have HNv : Hid (new.v c b = speedN cf (st.v c b) (gradN cf X st row c b)) := by show _ = _; rw [← Hnew.out, ← HBt.out]; rfl
              have HNw : Hid (new.w c b = weightN cf (st.w c b) (new.v c b)) := by show _ = _; rw [← Hnew.out]; rfl
              unfold speedN at HNv
              unfold weightN at HNw
              have HTv : Hid (∀ wq, UpdAt w wq g k (runCells cf shard lv ⟨sp, mixT new.w st.w c b, mixT new.v st.v c b⟩) fG M → UpdAt w (wq.setCell ⟨g, 136 + c * 32 + b, none⟩ (.int .i64 (new.v c b))) g k (runCells cf shard lv ⟨sp, mixT new.w st.w c b, updT (mixT new.v st.v c b) c b (new.v c b)⟩) fG M) := fun wq h =>
                (h.set hgl (136 + c * 32 + b) (.int .i64 (new.v c b))).to (runCells_set_v cf shard lv sp _ _ hcl hbl _)
              have HCl : Hid (∀ wq, UpdAt w wq g k (runCells cf shard lv ⟨sp, mixT new.w st.w c b, mixT new.v st.v c b⟩) fG M → wq.cell? ⟨g, 136 + c * 32 + b, none⟩ = some (.int .i64 (st.v c b)) ∧ wq.cell? ⟨g, 8 + c * 32 + b, none⟩ = some (.int .i64 (st.w c b)) ∧ wq.cell? ⟨g, 4, none⟩ = some (.int .u8 cf.decay) ∧ wq.frozen? ⟨g, 136 + c * 32 + b, none⟩ = false ∧ wq.frozen? ⟨g, 8 + c * 32 + b, none⟩ = false) := fun wq h => by
                have a1 := (h.r.cell (136 + c * 32 + b)).trans (runCells_v cf shard lv _ hcl hbl)
                have a2 := (h.r.cell (8 + c * 32 + b)).trans (runCells_w cf shard lv _ hcl hbl)
                have a4 := (h.r.cell 4).trans (runCells_head cf shard lv _ (by decide))
                simp only [mixT_at] at a1 a2
                simp only [headCells, List.getElem?_cons_zero, List.getElem?_cons_succ] at a4
                exact ⟨a1, a2, a4, h.r.frozen _, h.r.frozen _⟩
              have HCv : Hid (∀ wq, UpdAt w wq g k (runCells cf shard lv ⟨sp, mixT new.w st.w c b, updT (mixT new.v st.v c b) c b (new.v c b)⟩) fG M → wq.cell? ⟨g, 8 + c * 32 + b, none⟩ = some (.int .i64 (st.w c b)) ∧ wq.frozen? ⟨g, 8 + c * 32 + b, none⟩ = false) := fun wq h => by
                have a2 := (h.r.cell (8 + c * 32 + b)).trans (runCells_w cf shard lv _ hcl hbl)
                simp only [mixT_at] at a2
                exact ⟨a2, h.r.frozen _⟩
              have HTw : Hid (∀ wq, UpdAt w wq g k (runCells cf shard lv ⟨sp, mixT new.w st.w c b, updT (mixT new.v st.v c b) c b (new.v c b)⟩) fG M → UpdAt w (wq.setCell ⟨g, 8 + c * 32 + b, none⟩ (.int .i64 (new.w c b))) g k (runCells cf shard lv ⟨sp, mixT new.w st.w c (b + 1), mixT new.v st.v c (b + 1)⟩) fG M) := fun wq h =>
                (h.set hgl (8 + c * 32 + b) (.int .i64 (new.w c b))).to (by rw [runCells_set_w cf shard lv sp _ _ hcl hbl, mixT_next, mixT_next])
              obtain ⟨oldC, HoC⟩ : ∃ oc, Hid (runCells cf shard lv ⟨sp, mixT new.w st.w c b, mixT new.v st.v c b⟩ = oc) := ⟨_, (rfl : _ = _)⟩
              obtain ⟨midC, HmC⟩ : ∃ oc, Hid (runCells cf shard lv ⟨sp, mixT new.w st.w c b, updT (mixT new.v st.v c b) c b (new.v c b)⟩ = oc) := ⟨_, (rfl : _ = _)⟩
              rw [HoC.out] at HT HTv HCl
              rw [HmC.out] at HTv HTw HCv
              generalize new.v c b = nv at *
              generalize new.w c b = nw at *
              generalize gradN cf X st row c b = g0 at *
              generalize st.v c b = v0 at *
              generalize st.w c b = w0 at *
              generalize cf.mom = mo at *
              generalize cf.rate = ra at *
              generalize cf.decay = de at *
              obtain ⟨hpm1, hpm2⟩ := mulB v0 mo 1073741824 65536 hv0.1 hv0.2 (by omega)
              obtain ⟨hpg1, hpg2⟩ := mulB g0 ra 56 65536 (by omega) (by omega) hrate
              obtain ⟨pm, Hpm⟩ : ∃ pm, Hid (v0 * (mo : Int) = pm) := ⟨_, (rfl : _ = _)⟩
              obtain ⟨pg, Hpg⟩ : ∃ pg, Hid (g0 * (ra : Int) = pg) := ⟨_, (rfl : _ = _)⟩
              have hq1 := Hpm.out
              have hq2 := Hpg.out
              rw [Hpm.out] at hpm1 hpm2 HNv
              rw [Hpg.out] at hpg1 hpg2 HNv
              have HD1 : Hid (∀ w, Calls Tryz.prog 40 #[.int .i64 pm, .int .u8 16] w fun e w' => e = .returned (.int .i64 (pm / 65536)) ∧ w' = w) := fun w => down_any pm 16 (by omega) (by omega) (by decide) w
              have hdv : -70368744177664 ≤ pm / 65536 ∧ pm / 65536 ≤ 70368744177664 := by omega
              have HNv2 : Hid (clamp 1073741824 (pm / 65536 + pg) = nv) := HNv.out.symm
              have hnv : -1073741824 ≤ nv ∧ nv ≤ 1073741824 := by rw [← HNv2.out]; exact clamp_le _ _ (by decide)
              generalize pm / 65536 = dv at *
              go_wp2_with fail
              go_quiet (first | (go_at_call 40; refine Calls.quiet_of_same (HD1.out _)))
              go_wp2_with fail
              refine (cut_any (dv + pg) 1073741824 (by decide) (by decide) _).mono ?_
              rintro e wx ⟨rfl, hw⟩
              have hw' := hw.symm
              clear hw
              subst hw'
              rw [HNv2.out]
              have HD2 : Hid (∀ w, Calls Tryz.prog 40 #[.int .i64 nv, .int .u8 6] w fun e w' => e = .returned (.int .i64 (nv / 64)) ∧ w' = w) := fun w => down_any nv 6 (by omega) (by omega) (by decide) w
              have hd6 : -16777216 ≤ nv / 64 ∧ nv / 64 ≤ 16777216 := by omega
              generalize nv / 64 = d6 at *
              have HTz := HT.out.drewN nq
              clear hdv hpm1 hpm2 hpg1 hpg2 hq1 hq2 HNv HNv2 HD1 g1 v1 w1 r2 r3 r4 fv fw HG1 HT
              generalize wr.drewN nq = wz at *
              obtain ⟨V1, W1, R4, FV, FW⟩ := HCl.out _ HTz
              have HTz' : Hid (UpdAt w wz g k oldC fG M) := HTz
              clear HTz
              go_wp2_with fail
              go_quiet (first | (go_at_call 40; refine Calls.quiet_of_same (HD2.out _)))
              have HTy := HTz'.out.drewN nq
              clear V1 W1 R4 FV FW HTz'
              generalize wz.drewN nq = wy at *
              obtain ⟨V1, W1, R4, FV, FW⟩ := HCl.out _ HTy
              have HTy' : Hid (UpdAt w wy g k oldC fG M) := HTy
              clear HTy
              by_cases hde : 0 < de
              · have HD3 : Hid (∀ w, Calls Tryz.prog 40 #[.int .i64 w0, .int .u8 de] w fun e w' => e = .returned (.int .i64 (w0 / 2 ^ de)) ∧ w' = w) := fun w => down_any w0 de (by omega) (by omega) hdec w
                have hdd := div_bound w0 16777216 de hw0.1 hw0.2 (by decide)
                rw [if_pos hde] at HNw
                generalize w0 / 2 ^ de = dd at *
                go_wp2_with fail
                go_quiet (first | (go_at_call 40; refine Calls.quiet_of_same (HD3.out _)))
                have HTx := HTy'.out.drewN nq
                clear V1 W1 R4 FV FW HTy'
                generalize wy.drewN nq = wx at *
                obtain ⟨V1, W1, R4, FV, FW⟩ := HCl.out _ HTx
                have HTx' : Hid (UpdAt w wx g k oldC fG M) := HTx
                clear HTx
                have HNw2 : Hid (clamp 16777216 (w0 + d6 - dd) = nw) := HNw.out.symm
                go_wp2_with fail
                have HTm : Hid (UpdAt w (wx.setCell ⟨g, 136 + c * 32 + b, none⟩ (.int .i64 nv)) g k midC fG M) := HTv.out _ HTx'.out
                clear V1 W1 R4 FV FW HTx'
                generalize wx.setCell ⟨g, 136 + c * 32 + b, none⟩ (.int .i64 nv) = wm at *
                obtain ⟨W1, FW⟩ := HCv.out _ HTm.out
                have HTn : Hid _ := HTw.out _ HTm.out
                go_region_with (first | (go_at_call 41; refine (cut_any (w0 + d6 - dd) 16777216 (by decide) (by decide) _).mono ?_; rintro e wv ⟨rfl, hwv⟩; have hwv' := hwv.symm; clear hwv; subst hwv'; rw [HNw2.out]))
                go_wp2
                go_roundg (31 - b)
                case measure => omega
                case rel => exact ⟨b + 1, by omega, by go_num, HTn.out.drew⟩
              · rw [if_neg hde] at HNw
                obtain rfl : de = 0 := by omega
                have HNw2 : Hid (clamp 16777216 (w0 + d6) = nw) := by show _ = _; rw [HNw.out]; congr 1; omega
                have HTx' : Hid (UpdAt w wy g k oldC fG M) := HTy'
                clear HTy'
                go_wp2_with fail
                have HTm : Hid (UpdAt w (wy.setCell ⟨g, 136 + c * 32 + b, none⟩ (.int .i64 nv)) g k midC fG M) := HTv.out _ HTx'.out
                clear V1 W1 R4 FV FW HTx'
                generalize wy.setCell ⟨g, 136 + c * 32 + b, none⟩ (.int .i64 nv) = wm at *
                obtain ⟨W1, FW⟩ := HCv.out _ HTm.out
                have HTn : Hid _ := HTw.out _ HTm.out
                go_region_with (first | (go_at_call 41; refine (cut_any (w0 + d6) 16777216 (by decide) (by decide) _).mono ?_; rintro e wv ⟨rfl, hwv⟩; have hwv' := hwv.symm; clear hwv; subst hwv'; rw [HNw2.out]))
                go_wp2
                go_roundg (31 - b)
                case measure => omega
                case rel => exact ⟨b + 1, by omega, by go_num, HTn.out.drew⟩
            · obtain rfl : b = 32 := by omega
              go_wp2
              go_roundg (3 - c)
              case measure => omega
              case rel => exact ⟨c + 1, by omega, by go_num, HT.out.to (runCells_tabs cf shard lv sp (mixT_row new.w st.w c) (mixT_row new.v st.v c))⟩
        · obtain rfl : c = 4 := by omega
          have HE : Hid (UpdAt w wr g k (runCells cf shard lv ⟨sp, new.w, new.v⟩) fG M) := HC.out.to (runCells_tabs cf shard lv sp (mixT_all new.w st.w) (mixT_all new.v st.v))
          have d7' := (HE.out.r.cell 7).trans (runCells_head cf shard lv _ (by decide))
          simp only [headCells, List.getElem?_cons_zero, List.getElem?_cons_succ] at d7'
          have f7' := HE.out.r.frozen 7
          have HF : Hid _ := (HE.out.set hgl 7 (.int .i64 (sp + 1 : Nat))).to (runCells_set_steps cf shard lv sp (sp + 1) new.w new.v)
          clear HC HE
          go_wp2
          have HF2 : Hid (UpdAt w (wr.setCell ⟨g, 7, none⟩ (.int .i64 ((sp : Int) + 1))) g k (runCells cf shard lv ⟨sp + 1, new.w, new.v⟩) fG M) := HF.out
          have Hns : Hid (runCells cf shard lv ⟨sp + 1, new.w, new.v⟩ = runCells cf shard (.slice (some ⟨gL, 0, none⟩) rs.length cL) (stepN cf (exsOf rs) st)) := by
            show _ = _
            rw [HX.out, Hlv.out, Hnew.out]
            have : new.steps = sp + 1 := by rw [← Hnew.out]; show st.steps + 1 = _; rw [Hsp.out]
            rw [← this]
          have Hwk : Hid (tab k (fun i => ((M i : Nat) : Int)) = intCells (workL cf (exsOf rs) st k)) := by
            show _ = _
            rw [HX.out, ← workL_cells, ← HM.out, HBt.out]
          go_ret2
          refine ⟨_, rfl, ?_, ?_, HF2.out.s⟩
          · rw [← Hwk.out]; exact owns_of_cells HF2.out.m (by omega) (tab_length _ _) (by unfold maxLen; omega)
          · show CellsAt _ _ _ _
            rw [← Hns.out]; exact HF2.out.r
end Go.Proofs.YtfpodnleimhohabGreatDoor
