/-
  WALKS: the program's Status, Weights.
-/
import Derived.Test.YtfpodnleimhohaaWalksBG
namespace Go.Proofs.Ytfpodnleimhohaa
open Go.RowKit
set_option linter.unusedVariables false
variable {mk : ByteArray}

set_option maxRecDepth 100000 in
set_option maxHeartbeats 1000000 in
theorem progStatus_any (g : Nat) (cf : Cf) (hcf : cf.Ok) (a : Option Addr) (n cap : Nat) (hn1 : 1 ≤ n) (hn2 : n ≤ 65536) (st : St) (hst : st.Ok) (w : World) (hR : ProgRun w g cf mk (.slice a n cap) st) :
    Calls Try.prog 34 #[.pointer (some ⟨g, 0, none⟩)] w fun e w' => e = .returned (.agg (statusAns cf n st).toArray) ∧ Below w.heap.size w w' := by
  have hgl := CellsAt.lt hR
  have d6 := (CellsAt.cell hR 7).trans (pr_head cf (.slice a n cap) st (by decide))
  simp only [prHead, List.getElem?_cons_zero, List.getElem?_cons_succ] at d6
  have hmul : st.steps * cf.batch ≤ 400 * 8 := Nat.mul_le_mul hst.steps hcf.batch8
  have HR : Hid (ProgRun w g cf mk (.slice a n cap) st) := hR
  clear hR
  obtain ⟨j, Hj⟩ : ∃ j, Hid (st.steps * cf.batch = j) := ⟨_, (rfl : _ = _)⟩
  obtain ⟨q, Hq⟩ : ∃ q, Hid (j / n = q) := ⟨_, (rfl : _ = _)⟩
  obtain ⟨r, Hr⟩ : ∃ r, Hid (j % n = r) := ⟨_, (rfl : _ = _)⟩
  have HA : Hid (statusAns cf n st = [.int .i64 st.steps, .int .i64 q, .int .i64 r]) := by show _ = _; unfold statusAns; rw [Hj.out, Hq.out, Hr.out]
  obtain ⟨sp, Hsp⟩ : ∃ sp, Hid (st.steps = sp) := ⟨_, (rfl : _ = _)⟩
  rw [Hsp.out] at HA d6
  rw [HA.out]
  rw [Hj.out] at hmul
  go_enter Try.func34, Try.ntmps34
  go_wp2_with fail
  obtain ⟨w1, Hw1⟩ : ∃ w1, Hid (w.alloc (.cells #[.int .i64 0, .int .i64 0, .int .i64 0] 83) = w1) := ⟨_, (rfl : _ = _)⟩
  have HB : Hid (Below w.heap.size w w1) := by rw [← Hw1.out]; exact (Below.refl _ _).alloc (Nat.le_refl _) _
  have HC : Hid (CellsAt w1 w.heap.size 83 [.int .i64 0, .int .i64 0, .int .i64 0]) := by rw [← Hw1.out]; exact CellsAt.new w _ _ _ rfl rfl
  rw [Hw1.out]
  clear Hw1
  refine (nextDraw_any g cf hcf _ st hst _ (CellsAt.kept HR.out HB.out hgl)).mono ?_
  rintro e w2 ⟨rfl, n2, rfl⟩
  rw [Hj.out]
  go_wp2_with fail
  refine (epochAndRow_any g cf a n cap hn1 hn2 st j (by omega) _ (show ProgRun (w1.drewN n2) g cf mk (.slice a n cap) st from CellsAt.kept HR.out (below_drewN HB.out n2) hgl)).mono ?_
  rintro e w3 ⟨rfl, n3, rfl⟩
  rw [Hq.out, Hr.out]
  have HC3 : Hid (CellsAt ((w1.drewN n2).drewN n3) w.heap.size 83 [.int .i64 0, .int .i64 0, .int .i64 0]) := HC.out
  have HB3 : Hid (Below w.heap.size w ((w1.drewN n2).drewN n3)) := below_drewN (below_drewN HB.out n2) n3
  have e6 := (HB3.out.cell (p := ⟨g, 7, none⟩) hgl).trans d6
  generalize (w1.drewN n2).drewN n3 = w3 at *
  have HTh : Hid (w3.there w.heap.size 0 3) := CellsAt.there HC3.out
  have c0 := CellsAt.cell HC3.out 0
  have c1 := CellsAt.cell HC3.out 1
  have c2 := CellsAt.cell HC3.out 2
  simp only [List.getElem?_cons_zero, List.getElem?_cons_succ] at c0 c1 c2
  have f0 := CellsAt.frozen HC3.out 0
  have f1 := CellsAt.frozen HC3.out 1
  have f2 := CellsAt.frozen HC3.out 2
  have HF : Hid (CellsAt (((w3.setCell ⟨w.heap.size, 0, none⟩ (.int .i64 sp)).setCell ⟨w.heap.size, 1, none⟩ (.int .i64 q)).setCell ⟨w.heap.size, 2, none⟩ (.int .i64 r)) w.heap.size 83 [.int .i64 sp, .int .i64 q, .int .i64 r]) :=
    CellsAt.set (CellsAt.set (CellsAt.set HC3.out 0 (.int .i64 sp)) 1 (.int .i64 q)) 2 (.int .i64 r)
  have HB2 : Hid (Below w.heap.size w (((w3.setCell ⟨w.heap.size, 0, none⟩ (.int .i64 sp)).setCell ⟨w.heap.size, 1, none⟩ (.int .i64 q)).setCell ⟨w.heap.size, 2, none⟩ (.int .i64 r))) :=
    ((HB3.out.setCell (p := ⟨w.heap.size, 0, none⟩) (Nat.le_refl _) _).setCell (p := ⟨w.heap.size, 1, none⟩) (Nat.le_refl _) _).setCell (p := ⟨w.heap.size, 2, none⟩) (Nat.le_refl _) _
  go_wp2
  generalize ((w3.setCell ⟨w.heap.size, 0, none⟩ (.int .i64 sp)).setCell ⟨w.heap.size, 1, none⟩ (.int .i64 q)).setCell ⟨w.heap.size, 2, none⟩ (.int .i64 r) = w5 at *
  have hld := run_loadVar_mid (P := Try.prog) w5 w.heap.size 0 83 [.int .i64 sp, .int .i64 q, .int .i64 r] _ (CellsAt.range HF.out) Try.underlying83 rfl (by kernel_rfl)
  refine bodyPost_ret (v := .agg #[.int .i64 sp, .int .i64 q, .int .i64 r]) ?_ rfl ⟨rfl, HB2.out⟩
  simp [results, Try.results34, asAddr, hld]

set_option maxRecDepth 100000 in
set_option maxHeartbeats 1000000 in
theorem progWeights_any (g : Nat) (cf : Cf) (lv : Value) (st : St) (hst : st.Ok) (c : Nat) (hc : c < 4) (w : World) (hR : ProgRun w g cf mk lv st) :
    Calls Try.prog 58 #[.pointer (some ⟨g, 0, none⟩), .int .i64 c] w fun e w' => ∃ v, e = .returned (.tuple #[v, .int .i64 0]) ∧ w'.ownsRow w.heap.size 21 1 v 32 (wCells (st.w c) 32) ∧ Below w.heap.size w w' := by
  obtain ⟨i0, hi, hz0, hz1, hz2⟩ := info_parts info_i32
  obtain ⟨rc, Hrc⟩ : ∃ rc, Hid (tabw 32 (st.w c) = rc) := ⟨_, (rfl : _ = _)⟩
  have HRg : Hid (w.rangeAt g (8 + c * 32) rc) := by
    intro j v hv
    rw [← Hrc.out] at hv
    have hj : j < 32 := by
      have := (List.getElem?_eq_some_iff.1 hv).1
      rwa [tabw_length] at this
    rw [tabw_get _ hj] at hv
    rw [CellsAt.cell hR, show 8 + c * 32 + j = (prHead cf mk lv st.steps).length + c * 32 + j from rfl, lrn_w st hc hj]
    exact hv
  have HrI : Hid ((Try.prog.info? 108).map (·.size) = some rc.length) := by show _ = _; rw [← Hrc.out, tabw_length]; exact info_w32
  clear hR
  go_enter Try.func58, Try.ntmps58
  go_wp2_with (refine wpList_load_mid rfl 108 (.tmp 20) rfl _ _ rfl rc _ HRg.out Try.underlying108 rfl HrI.out ?_)
  go_loopw [6, 22] (fun v bv wr => ∃ b : Nat, b ≤ 32 ∧ bv = .int .i64 b ∧ wr.ownsRow w.heap.size 21 1 v b (wCells (st.w c) b) ∧ Below w.heap.size w wr) (fun _ b _ => 32 - (intOf b).toNat)
  case atStart => exact ⟨0, by omega, rfl, World.ownsRow_nil _ _ _ _, Below.refl _ _⟩
  case round =>
    obtain ⟨b, hb, rfl, hown, hbel⟩ := hrel
    by_cases hlt : b < 32
    · have HV : Hid (rc.toArray[b]? = some (.int .i32 (st.w c b))) := by show _ = _; simp only [List.getElem?_toArray]; rw [← Hrc.out]; exact tabw_get _ hlt
      have hb4 := hst.w c b hc hlt
      have HS : Hid _ := wCells_snoc (st.w c) b
      generalize st.w c b = z at *
      have hzs := hbel.size
      go_wp2_with (first
        | (refine wpList_index_one rfl 108 (.tmp 21) (.tmp 22) rfl 21 32 _ b _ rfl rfl Try.underlying108 _ Try.underlying21 rfl info_w1 hlt HV.out ?_)
        | (at_builtin; refine wpList_append_own _ rfl (.tmp 25) (.tmp 27) 88 rfl w.heap.size 21 i0 (.int .i32 0) 1 4 Try.underlying88 hi hz0 hz1 hz2 rfl (by decide) _ _ _ rfl (hown.alloc _) ⟨wr.heap.size, 0, none⟩ 1 1 [.int .i32 z] rfl rfl (news_at _ _ rfl _ _ _ rfl) (oneCell_nums _ rfl) (by unfold maxLen; omega) (by omega) (by simp; omega) ?_; intro v' w3 ho3 hgr hxx; clear hxx))
      go_roundw
      case rel => exact ⟨b + 1, by omega, by go_num, by rw [HS.out]; exact ho3, (hbel.alloc hzs _).grown hgr (by simp; omega) (fun j hj => (hown.lt j hj).1)⟩
      case measure => simp [intOf]; omega
    · obtain rfl : b = 32 := by omega
      go_wp2
      go_ret2
      exact ⟨_, rfl, hown, hbel⟩
set_option maxRecDepth 100000 in
theorem progWeights_bad (g : Nat) (c : Int) (hc : ¬ (0 ≤ c ∧ c < 4)) (w : World) :
    Calls Try.prog 58 #[.pointer (some ⟨g, 0, none⟩), .int .i64 c] w fun e w' => e = .returned (.tuple #[.slice none 0 0, .int .i64 1]) ∧ w' = w := by
  go_enter Try.func58, Try.ntmps58
  by_cases h : c < 0
  · go_wp2
    go_ret2
    exact ⟨rfl, rfl⟩
  · go_wp2
    go_ret2
    exact ⟨rfl, rfl⟩
end Go.Proofs.Ytfpodnleimhohaa
