/-
  WALKS: weights out of a table (the program's).
-/
import Derived.Test.YtfpodnleimhohabWalksSE
namespace Go.Proofs.Ytfpodnleimhohab
open Go.RowKit
set_option linter.unusedVariables false
set_option linter.unusedSimpArgs false

theorem zero_w128 : Try.zeroCells53 = (tabw 128 fun _ => 0).toArray := by kernel_rfl
theorem tabw_one' (n : Nat) (f : Nat → Int) : ∀ u ∈ tabw n f, u.oneCell' = true := tabw_one n f

set_option maxRecDepth 100000 in
set_option maxHeartbeats 2000000 in
theorem narrowed_any (f : Nat → Int) (hf : ∀ i, i < 128 → -16777216 ≤ f i ∧ f i ≤ 16777216) (w : World) :
    Calls Try.prog 39 #[.agg (tab 128 f).toArray] w fun e w' => e = .returned (.agg (tabw 128 f).toArray) ∧ Below w.heap.size w w' := by
  have Hf : Hid _ := hf
  obtain ⟨tc, Htc⟩ : ∃ tc, Hid (tab 128 f = tc) := ⟨_, (rfl : _ = _)⟩
  have HtL : Hid (tc.length = 128) := by show _ = _; rw [← Htc.out]; exact tab_length _ _
  have HtI : Hid ((Try.prog.info? 55).map (·.size) = some tc.length) := by show _ = _; rw [HtL.out]; exact info_t128
  have HtR : Hid (∀ c, c < 4 → tc.toArray.extract (c * 32) (c * 32 + 32) = (tab 32 fun b => f (c * 32 + b)).toArray) := fun c hc => by rw [← Htc.out]; exact tab_row f c hc
  rw [Htc.out]
  clear hf Htc
  obtain ⟨w3, Hw3⟩ : ∃ w3, Hid (((w.alloc (.cells tc.toArray 91)).alloc (.cells Try.zeroCells53 53)).alloc (.cells Try.zeroCells53 53) = w3) := ⟨_, (rfl : _ = _)⟩
  have H0 : Hid (ObAt w w3 (w.heap.size + 1) 53 (tabw 128 fun _ => 0) (tabw 128 (fillTo f 0))) := by
    rw [← Hw3.out]
    refine ⟨(CellsAt.new _ _ _ _ zero_w128 (by simp)).alloc _, CellsAt.new _ _ _ _ zero_w128 (by simp), (((Below.refl _ _).alloc (Nat.le_refl _) _).alloc (by simp) _).alloc (by simp; omega) _⟩
  have HRg : Hid (w3.rangeAt w.heap.size 0 tc) := by rw [← Hw3.out]; exact CellsAt.range (((CellsAt.new w _ _ _ rfl rfl).alloc _).alloc _)
  go_enter Try.func39, Try.ntmps39
  have hz3 : w.heap.size + 1 + 1 = w.heap.size + 2 := rfl
  go_wp2_with (first
    | rw [Hw3.out, hz3]
    | (refine wpList_load_mid rfl 55 (.tmp 8) rfl _ _ rfl tc _ HRg.out Try.underlying55 rfl HtI.out ?_))
  clear HRg Hw3
  go_loopw [10] (fun cv wr => ∃ c : Nat, c ≤ 4 ∧ cv = .int .i64 c ∧ Hid (ObAt w wr (w.heap.size + 1) 53 (tabw 128 fun _ => 0) (tabw 128 (fillTo f (c * 32))))) (fun c _ => 4 - (intOf c).toNat)
  case atStart => exact ⟨0, by omega, rfl, H0⟩
  case round =>
    obtain ⟨c, hc, rfl, HT⟩ := hrel
    clear H0
    by_cases hlt : c < 4
    · obtain ⟨rc, Hrc⟩ : ∃ rc, Hid (tab 32 (fun b => f (c * 32 + b)) = rc) := ⟨_, (rfl : _ = _)⟩
      have HrL : Hid (rc.length = 32) := by show _ = _; rw [← Hrc.out]; exact tab_length _ _
      have HrO : Hid (∀ u ∈ rc, u.oneCell' = true) := by show ∀ u ∈ rc, _; rw [← Hrc.out]; exact tab_one _ _
      have HrI : Hid ((Try.prog.info? 54).map (·.size) = some rc.length) := by show _ = _; rw [HrL.out]; exact info_c32
      have HrE : Hid (tc.toArray.extract (c * 32) (c * 32 + 32) = rc.toArray) := by show _ = _; rw [← Hrc.out]; exact HtR.out c hlt
      have HS1 : Hid (ObAt w (wr.alloc (.cells rc.toArray 54)) (w.heap.size + 1) 53 (tabw 128 fun _ => 0) (tabw 128 (fillTo f (c * 32 + 0)))) := HT.out.alloc _
      have HR1 : Hid (CellsAt (wr.alloc (.cells rc.toArray 54)) wr.heap.size 54 rc) := CellsAt.new _ _ _ _ rfl rfl
      go_wp2_with (first
        | (refine wpList_index_rowTo rfl 55 (.tmp 9) (.tmp 10) rfl 54 4 32 _ rc.toArray c rfl rfl Try.underlying55 _ Try.underlying54 rfl info_c32 hlt HrE.out ?_)
        | (refine wpList_store_new rfl 54 (.tmp 5) (.tmp 13) rfl _ rc rfl rfl HrI.out HrL.out.symm HrO.out ?_)
        | (refine wpList_load_mid rfl 54 (.tmp 5) rfl _ _ rfl rc _ (CellsAt.range HR1.out) Try.underlying54 rfl HrI.out ?_))
      clear HT HrE HrO HR1
      generalize hwa : wr.alloc (.cells rc.toArray 54) = wa at *
      clear hwa
      go_loopw [15] (fun bv wq => ∃ b : Nat, b ≤ 32 ∧ bv = .int .i64 b ∧ Hid (ObAt w wq (w.heap.size + 1) 53 (tabw 128 fun _ => 0) (tabw 128 (fillTo f (c * 32 + b))))) (fun b _ => 32 - (intOf b).toNat)
      case atStart => exact ⟨0, by omega, rfl, HS1⟩
      case round =>
        obtain ⟨b, hb, rfl, HU⟩ := hrel
        clear HS1
        by_cases hbl : b < 32
        · have HV : Hid (rc.toArray[b]? = some (.int .i64 (f (c * 32 + b)))) := by show _ = _; rw [← Hrc.out]; simp only [List.getElem?_toArray]; exact tab_get _ hbl
          have d1 := (HU.out.o.cell (c * 32 + b)).trans (tabw_get _ (show c * 32 + b < 128 by omega))
          have f1 := HU.out.o.frozen (c * 32 + b)
          have b4 := Hf.out (c * 32 + b) (by omega)
          have HN : Hid (ObAt w (wr.setCell ⟨w.heap.size + 2, c * 32 + b, none⟩ (.int .i32 (f (c * 32 + b)))) (w.heap.size + 1) 53 (tabw 128 fun _ => 0) (tabw 128 (fillTo f (c * 32 + (b + 1))))) := by
            have h := HU.out.set (by omega) (c * 32 + b) (.int .i32 (f (c * 32 + b)))
            rw [tabw_set, fillTo_next] at h
            exact h
          rw [show w.heap.size + 1 + 1 = w.heap.size + 2 from rfl] at d1 f1
          generalize fillTo f (c * 32 + b) (c * 32 + b) = y at *
          generalize f (c * 32 + b) = z at *
          go_wp2_with (refine wpList_index_one rfl 54 (.tmp 14) (.tmp 15) rfl 2 32 _ b _ rfl rfl Try.underlying54 _ Try.underlying2 rfl info_c1 hbl HV.out ?_)
          go_roundw
          case rel => exact ⟨b + 1, by omega, by go_num, HN⟩
          case measure => simp [intOf]; omega
        · obtain rfl : b = 32 := by omega
          go_wp2
          go_roundw
          case rel => exact ⟨c + 1, by omega, by go_num, by rw [show (c + 1) * 32 = c * 32 + 32 by omega]; exact HU⟩
          case measure => simp [intOf]; omega
    · obtain rfl : c = 4 := by omega
      obtain ⟨A1, A2, A4⟩ := HT.out.to (oc' := tabw 128 f) (tabw_congr fun i hi => if_pos (by omega))
      obtain ⟨cs, Hcs⟩ : ∃ cs, Hid (tabw 128 f = cs) := ⟨_, (rfl : _ = _)⟩
      have HcsL : Hid (cs.length = 128) := by show _ = _; rw [← Hcs.out]; exact tabw_length _ _
      have HcsO : Hid (∀ u ∈ cs, u.oneCell' = true) := by show ∀ u ∈ cs, _; rw [← Hcs.out]; exact tabw_one _ _
      have HI : Hid ((Try.prog.info? 53).map (·.size) = some cs.length) := by show _ = _; rw [HcsL.out]; exact info_w128
      have HI2 : Hid ((Try.prog.info? 53).map (·.size) = some cs.toArray.size) := by show _ = _; rw [List.size_toArray]; exact HI.out
      rw [Hcs.out] at A2
      have HRg : Hid (wr.rangeAt (w.heap.size + 2) 0 cs) := CellsAt.range A2
      have HTh : Hid (wr.there (w.heap.size + 1) 0 cs.toArray.size) := by
        have := CellsAt.there A1
        rw [tabw_length] at this
        show wr.there (w.heap.size + 1) 0 cs.length
        rw [HcsL.out]; exact this
      have HA4 : Hid (Below w.heap.size w wr) := A4
      clear A1 A2 A4 HT
      go_wp2_with (first
        | (refine wpList_load_mid rfl 53 (.tmp 3) rfl _ _ rfl cs _ HRg.out Try.underlying53 rfl HI.out ?_)
        | (refine wpList_store_mid rfl 53 (.tmp 2) (.tmp 27) rfl _ _ cs.toArray rfl rfl HTh.out HI2.out (all_oneCell_toArray HcsO.out) ?_))
      have hld := run_loadVar_mid (P := Try.prog) (wr.setCells (w.heap.size + 1) 0 cs) (w.heap.size + 1) 0 53 cs _ (World.rangeAt_setCells_same _ _ _ _ (by have := HTh.out; rw [List.size_toArray] at this; exact this)) Try.underlying53 rfl HI.out
      rw [Hcs.out]
      refine bodyPost_ret (v := .agg cs.toArray) ?_ rfl ⟨rfl, below_setCells (by omega) cs 0 HA4.out⟩
      simp [results, Try.results39, asAddr, hld, Act.put]
end Go.Proofs.Ytfpodnleimhohab
