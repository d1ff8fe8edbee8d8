import Derived.Test.YtfpodnleimhohabGreatDoorGS
import Derived.Test.YtfpodnleimhohabGreatDoorWalksBD
/-
  WALKS: a table of numbers as bytes (the program's).
-/
namespace Go.Proofs.YtfpodnleimhohabGreatDoor
open Go.RowKit
set_option linter.unusedVariables false

theorem tab_row (f : Nat → Int) (c : Nat) (hc : c < 4) : (tab 128 f).toArray.extract (c * 32) (c * 32 + 32) = (tab 32 fun b => f (c * 32 + b)).toArray := by
  apply Array.ext_getElem?
  intro j
  rw [Array.getElem?_extract]
  simp only [List.size_toArray, tab_length]
  rw [show min (c * 32 + 32) 128 - c * 32 = 32 by omega]
  by_cases hj : j < 32
  · rw [if_pos hj]
    simp only [List.getElem?_toArray]
    rw [tab_get _ (show c * 32 + j < 128 by omega), tab_get _ hj]
  · rw [if_neg hj]
    simp only [List.getElem?_toArray]
    rw [List.getElem?_eq_none (by rw [tab_length]; omega)]
theorem tabw_rowf (f : Nat → Int) (c : Nat) (hc : c < 4) : (tabw 128 f).toArray.extract (c * 32) (c * 32 + 32) = (tabw 32 fun b => f (c * 32 + b)).toArray := by
  apply Array.ext_getElem?
  intro j
  rw [Array.getElem?_extract]
  simp only [List.size_toArray, tabw_length]
  rw [show min (c * 32 + 32) 128 - c * 32 = 32 by omega]
  by_cases hj : j < 32
  · rw [if_pos hj]
    simp only [List.getElem?_toArray]
    rw [tabw_get _ (show c * 32 + j < 128 by omega), tabw_get _ hj]
  · rw [if_neg hj]
    simp only [List.getElem?_toArray]
    rw [List.getElem?_eq_none (by rw [tabw_length]; omega)]
theorem info_t128 : (Tryz.prog.info? 63).map (·.size) = some 128 := by kernel_rfl
theorem info_table : (Tryz.prog.info? 177).map (·.size) = some 128 := by kernel_rfl

set_option maxHeartbeats 1000000 in
theorem numberBytes_any (x : Int) (h0 : -1073741824 ≤ x) (h1 : x ≤ 1073741824) (w : World) :
    Calls Tryz.prog 101 #[.int .i64 x] w fun e w' => e = .returned (.string (bs (sgL x))) ∧ Below w.heap.size w w' := by
  by_cases hx : x < 0
  · have HE : Hid (sg x = -2 * x - 1) := sg_neg hx
    go_enter Tryz.func101, Tryz.ntmps101
    go_wp2_with fail
    refine (Varint_any _ (by omega) (by omega) _).mono ?_
    rintro e w1 ⟨rfl, hb1⟩
    go_wp2
    go_ret
    refine ⟨ret_str ?_, hb1⟩
    unfold sgL
    rw [HE.out]
    congr 2
    omega
  · have HE : Hid (sg x = 2 * x) := sg_pos hx
    go_enter Tryz.func101, Tryz.ntmps101
    go_wp2_with fail
    refine (Varint_any _ (by omega) (by omega) _).mono ?_
    rintro e w1 ⟨rfl, hb1⟩
    go_wp2
    go_ret
    refine ⟨ret_str ?_, hb1⟩
    unfold sgL
    rw [HE.out]
    congr 2
    omega

set_option maxRecDepth 100000 in
set_option maxHeartbeats 2000000 in
theorem tableBytes_any (f : Nat → Int) (hf : ∀ i, i < 128 → -1073741824 ≤ f i ∧ f i ≤ 1073741824) (w : World) :
    Calls Tryz.prog 94 #[.agg (tab 128 f).toArray] w fun e w' => e = .returned (.string (bs (tabL f 128))) ∧ Below w.heap.size w w' := by
  have Hf : Hid _ := hf
  obtain ⟨tc, Htc⟩ : ∃ tc, Hid (tab 128 f = tc) := ⟨_, (rfl : _ = _)⟩
  have HtL : Hid (tc.length = 128) := by show _ = _; rw [← Htc.out]; exact tab_length _ _
  have HtI : Hid ((Tryz.prog.info? 63).map (·.size) = some tc.length) := by show _ = _; rw [HtL.out]; exact info_t128
  have HtR : Hid (∀ c, c < 4 → tc.toArray.extract (c * 32) (c * 32 + 32) = (tab 32 fun b => f (c * 32 + b)).toArray) := fun c hc => by rw [← Htc.out]; exact tab_row f c hc
  rw [Htc.out]
  clear hf Htc
  have HRg : Hid ((w.alloc (.cells tc.toArray 177)).rangeAt w.heap.size 0 tc) := CellsAt.range (CellsAt.new w _ _ _ rfl rfl)
  have HB0 : Hid (Below w.heap.size w (w.alloc (.cells tc.toArray 177))) := (Below.refl _ _).alloc (Nat.le_refl _) _
  go_enter Tryz.func94, Tryz.ntmps94
  go_wp2_with (refine wpList_load_mid rfl 63 (.tmp 8) rfl _ _ rfl tc _ HRg.out Tryz.underlying63 rfl HtI.out ?_)
  clear HRg
  generalize w.alloc (.cells tc.toArray 177) = w0 at *
  go_loopw [3, 10] (fun sv cv wr => ∃ (c : Nat) (S : ByteArray), c ≤ 4 ∧ cv = .int .i64 c ∧ sv = .string S ∧ S.size ≤ c * 320 ∧ Hid (S = bs (tabL f (c * 32)) ∧ Below w.heap.size w wr)) (fun _ c _ => 4 - (intOf c).toNat)
  case atStart => exact ⟨0, bs [], by omega, rfl, rfl, Nat.le_refl _, ⟨rfl, HB0.out⟩⟩
  case round =>
    obtain ⟨c, S, hc, rfl, rfl, hS, HT⟩ := hrel
    clear HB0
    by_cases hlt : c < 4
    · obtain ⟨rc, Hrc⟩ : ∃ rc, Hid (tab 32 (fun b => f (c * 32 + b)) = rc) := ⟨_, (rfl : _ = _)⟩
      have HrL : Hid (rc.length = 32) := by show _ = _; rw [← Hrc.out]; exact tab_length _ _
      have HrO : Hid (∀ u ∈ rc, u.oneCell' = true) := by show ∀ u ∈ rc, _; rw [← Hrc.out]; exact tab_one _ _
      have HrI : Hid ((Tryz.prog.info? 62).map (·.size) = some rc.length) := by show _ = _; rw [HrL.out]; exact info_c32
      have HrE : Hid (tc.toArray.extract (c * 32) (c * 32 + 32) = rc.toArray) := by show _ = _; rw [← Hrc.out]; exact HtR.out c hlt
      have HB1 : Hid (Below w.heap.size w (wr.alloc (.cells rc.toArray 62))) := HT.out.2.alloc HT.out.2.size _
      have HR1 : Hid (CellsAt (wr.alloc (.cells rc.toArray 62)) wr.heap.size 62 rc) := CellsAt.new _ _ _ _ rfl rfl
      have HS1 : Hid (S = bs (tabL f (c * 32 + 0))) := HT.out.1
      go_wp2_with (first
        | (refine wpList_index_rowTo rfl 63 (.tmp 9) (.tmp 10) rfl 62 4 32 _ rc.toArray c rfl rfl Tryz.underlying63 _ Tryz.underlying62 rfl info_c32 hlt HrE.out ?_)
        | (refine wpList_store_new rfl 62 (.tmp 5) (.tmp 12) rfl _ rc rfl rfl HrI.out HrL.out.symm HrO.out ?_)
        | (refine wpList_load_mid rfl 62 (.tmp 5) rfl _ _ rfl rc _ (CellsAt.range HR1.out) Tryz.underlying62 rfl HrI.out ?_))
      clear HT HrE HrO HR1
      generalize hwa : wr.alloc (.cells rc.toArray 62) = wa at *
      clear hwa
      go_loopw [3, 14] (fun sv bv wq => ∃ (b : Nat) (S : ByteArray), b ≤ 32 ∧ bv = .int .i64 b ∧ sv = .string S ∧ S.size ≤ c * 320 + b * 10 ∧ Hid (S = bs (tabL f (c * 32 + b)) ∧ Below w.heap.size w wq)) (fun _ b _ => 32 - (intOf b).toNat)
      case atStart => exact ⟨0, S, by omega, rfl, rfl, by omega, ⟨HS1.out, HB1.out⟩⟩
      case round =>
        obtain ⟨b, T, hb, rfl, rfl, hT, HU⟩ := hrel
        clear HS1 HB1 hS
        by_cases hbl : b < 32
        · have HV : Hid (rc.toArray[b]? = some (.int .i64 (f (c * 32 + b)))) := by show _ = _; rw [← Hrc.out]; simp only [List.getElem?_toArray]; exact tab_get _ hbl
          have b4 := Hf.out (c * 32 + b) (by omega)
          have HN : Hid _ := tabL_snoc f (c * 32 + b)
          generalize f (c * 32 + b) = z at *
          go_wp2_with (refine wpList_index_one rfl 62 (.tmp 13) (.tmp 14) rfl 2 32 _ b _ rfl rfl Tryz.underlying62 _ Tryz.underlying2 rfl info_c1 hbl HV.out ?_)
          refine (numberBytes_any z b4.1 b4.2 _).mono ?_
          rintro e w2 ⟨rfl, hb2⟩
          obtain ⟨Z, HZ, hZ⟩ : ∃ Z, Hid (bs (sgL z) = Z) ∧ Z.size ≤ 10 := ⟨_, (rfl : _ = _), by rw [bs_size]; exact (sgL_length z).2⟩
          rw [HZ.out]
          have hTZ : (T ++ Z).size ≤ c * 320 + (b + 1) * 10 := by rw [ByteArray.size_append]; omega
          have HB2 : Hid (T ++ Z = bs (tabL f (c * 32 + (b + 1))) ∧ Below w.heap.size w w2) := by
            refine ⟨?_, HU.out.2.trans (hb2.mono HU.out.2.size)⟩
            rw [show c * 32 + (b + 1) = c * 32 + b + 1 from rfl, HN.out, ← bs_append, HU.out.1, HZ.out]
          clear hb2
          go_wp2
          go_roundw
          case rel => exact ⟨b + 1, _, by omega, by go_num, rfl, hTZ, HB2⟩
          case measure => simp [intOf]; omega
        · obtain rfl : b = 32 := by omega
          go_wp2
          go_roundw
          case rel => exact ⟨c + 1, T, by omega, by go_num, rfl, by omega, by rw [show (c + 1) * 32 = c * 32 + 32 by omega]; exact HU⟩
          case measure => simp [intOf]; omega
    · obtain rfl : c = 4 := by omega
      go_wp2
      go_ret
      exact ⟨ret_str HT.out.1, HT.out.2⟩

/-- Memory while a table is made wider. -/
structure WdAt (w wr : World) (t : TypeId) (f : Nat → Int) : Prop where
  z : CellsAt wr (w.heap.size + 1) t (tab 128 fun _ => 0)
  o : CellsAt wr (w.heap.size + 2) t (tab 128 f)
  l : Below w.heap.size w wr
theorem WdAt.set {w wr : World} {t : TypeId} {f : Nat → Int} (h : WdAt w wr t f) (q : Nat) (z : Int) : WdAt w (wr.setCell ⟨w.heap.size + 2, q, none⟩ (.int .i64 z)) t (upd f q z) :=
  ⟨h.z.other (by omega) _ _, by rw [← tab_set]; exact h.o.set q _, h.l.setCell (by show w.heap.size ≤ w.heap.size + 2; omega) _⟩
theorem WdAt.alloc {w wr : World} {t : TypeId} {f : Nat → Int} (h : WdAt w wr t f) (o : Obj) : WdAt w (wr.alloc o) t f := ⟨h.z.alloc _, h.o.alloc _, h.l.alloc h.l.size _⟩
theorem WdAt.to {w wr : World} {t : TypeId} {f g : Nat → Int} (h : WdAt w wr t f) (e : ∀ i, i < 128 → f i = g i) : WdAt w wr t g := ⟨h.z, by rw [← tab_congr e]; exact h.o, h.l⟩
/-- A table filled so far. -/
def fillTo (f : Nat → Int) (k : Nat) : Nat → Int := fun i => if i < k then f i else 0
theorem fillTo_next (f : Nat → Int) (k : Nat) : upd (fillTo f k) k (f k) = fillTo f (k + 1) := by
  funext i
  simp only [upd, fillTo]
  by_cases e : i = k
  · subst e; rw [if_pos rfl, if_pos (by omega)]
  · rw [if_neg e]
    by_cases h : i < k
    · rw [if_pos h, if_pos (by omega)]
    · rw [if_neg h, if_neg (by omega)]
theorem zero_table : Tryz.zeroCells177 = (tab 128 fun _ => 0).toArray := by kernel_rfl

set_option maxRecDepth 100000 in
set_option maxHeartbeats 2000000 in
theorem widened_any (f : Nat → Int) (hf : ∀ i, i < 128 → -2147483648 ≤ f i ∧ f i ≤ 2147483647) (w : World) :
    Calls Tryz.prog 93 #[.agg (tabw 128 f).toArray] w fun e w' => e = .returned (.agg (tab 128 f).toArray) ∧ Below w.heap.size w w' := by
  have Hf : Hid _ := hf
  obtain ⟨tc, Htc⟩ : ∃ tc, Hid (tabw 128 f = tc) := ⟨_, (rfl : _ = _)⟩
  have HtL : Hid (tc.length = 128) := by show _ = _; rw [← Htc.out]; exact tabw_length _ _
  have HtI : Hid ((Tryz.prog.info? 61).map (·.size) = some tc.length) := by show _ = _; rw [HtL.out]; exact info_w128
  have HtR : Hid (∀ c, c < 4 → tc.toArray.extract (c * 32) (c * 32 + 32) = (tabw 32 fun b => f (c * 32 + b)).toArray) := fun c hc => by rw [← Htc.out]; exact tabw_rowf f c hc
  rw [Htc.out]
  clear hf Htc
  obtain ⟨w3, Hw3⟩ : ∃ w3, Hid (((w.alloc (.cells tc.toArray 61)).alloc (.cells Tryz.zeroCells177 177)).alloc (.cells Tryz.zeroCells177 177) = w3) := ⟨_, (rfl : _ = _)⟩
  have H0 : Hid (WdAt w w3 177 (fillTo f 0)) := by
    rw [← Hw3.out]
    refine ⟨(CellsAt.new _ _ _ _ zero_table (by simp)).alloc _, CellsAt.new _ _ _ _ zero_table (by simp), (((Below.refl _ _).alloc (Nat.le_refl _) _).alloc (by simp) _).alloc (by simp; omega) _⟩
  have HRg : Hid (w3.rangeAt w.heap.size 0 tc) := by rw [← Hw3.out]; exact CellsAt.range (((CellsAt.new w _ _ _ rfl rfl).alloc _).alloc _)
  go_enter Tryz.func93, Tryz.ntmps93
  have hz3 : w.heap.size + 1 + 1 = w.heap.size + 2 := rfl
  go_wp2_with (rw [Hw3.out, hz3]; refine wpList_load_mid rfl 61 (.tmp 1) rfl _ _ rfl tc _ HRg.out Tryz.underlying61 rfl HtI.out ?_)
  clear HRg Hw3
  go_loopw [9] (fun cv wr => ∃ c : Nat, c ≤ 4 ∧ cv = .int .i64 c ∧ Hid (WdAt w wr 177 (fillTo f (c * 32)))) (fun c _ => 4 - (intOf c).toNat)
  case atStart => exact ⟨0, by omega, rfl, H0⟩
  case round =>
    obtain ⟨c, hc, rfl, HT⟩ := hrel
    clear H0
    by_cases hlt : c < 4
    · obtain ⟨rc, Hrc⟩ : ∃ rc, Hid (tabw 32 (fun b => f (c * 32 + b)) = rc) := ⟨_, (rfl : _ = _)⟩
      have HrL : Hid (rc.length = 32) := by show _ = _; rw [← Hrc.out]; exact tabw_length _ _
      have HrO : Hid (∀ u ∈ rc, u.oneCell' = true) := by show ∀ u ∈ rc, _; rw [← Hrc.out]; exact tabw_one _ _
      have HrI : Hid ((Tryz.prog.info? 60).map (·.size) = some rc.length) := by show _ = _; rw [HrL.out]; exact info_w32
      have HrE : Hid (tc.toArray.extract (c * 32) (c * 32 + 32) = rc.toArray) := by show _ = _; rw [← Hrc.out]; exact HtR.out c hlt
      have HS1 : Hid (WdAt w (wr.alloc (.cells rc.toArray 60)) 177 (fillTo f (c * 32 + 0))) := HT.out.alloc _
      have HR1 : Hid (CellsAt (wr.alloc (.cells rc.toArray 60)) wr.heap.size 60 rc) := CellsAt.new _ _ _ _ rfl rfl
      go_wp2_with (first
        | (refine wpList_index_rowTo rfl 61 (.tmp 8) (.tmp 9) rfl 60 4 32 _ rc.toArray c rfl rfl Tryz.underlying61 _ Tryz.underlying60 rfl info_w32 hlt HrE.out ?_)
        | (refine wpList_store_new rfl 60 (.tmp 5) (.tmp 12) rfl _ rc rfl rfl HrI.out HrL.out.symm HrO.out ?_)
        | (refine wpList_load_mid rfl 60 (.tmp 5) rfl _ _ rfl rc _ (CellsAt.range HR1.out) Tryz.underlying60 rfl HrI.out ?_))
      clear HT HrE HrO HR1
      generalize hwa : wr.alloc (.cells rc.toArray 60) = wa at *
      clear hwa
      go_loopw [14] (fun bv wq => ∃ b : Nat, b ≤ 32 ∧ bv = .int .i64 b ∧ Hid (WdAt w wq 177 (fillTo f (c * 32 + b)))) (fun b _ => 32 - (intOf b).toNat)
      case atStart => exact ⟨0, by omega, rfl, HS1⟩
      case round =>
        obtain ⟨b, hb, rfl, HU⟩ := hrel
        clear HS1
        by_cases hbl : b < 32
        · have HV : Hid (rc.toArray[b]? = some (.int .i32 (f (c * 32 + b)))) := by show _ = _; rw [← Hrc.out]; simp only [List.getElem?_toArray]; exact tabw_get _ hbl
          have d1 := (HU.out.o.cell (c * 32 + b)).trans (tab_get _ (show c * 32 + b < 128 by omega))
          have f1 := HU.out.o.frozen (c * 32 + b)
          have b4 := Hf.out (c * 32 + b) (by omega)
          have HN : Hid (WdAt w (wr.setCell ⟨w.heap.size + 2, c * 32 + b, none⟩ (.int .i64 (f (c * 32 + b)))) 177 (fillTo f (c * 32 + (b + 1)))) := by
            have h := HU.out.set (c * 32 + b) (f (c * 32 + b))
            rw [fillTo_next] at h
            exact h
          generalize fillTo f (c * 32 + b) (c * 32 + b) = y at *
          generalize f (c * 32 + b) = z at *
          go_wp2_with (refine wpList_index_one rfl 60 (.tmp 13) (.tmp 14) rfl 21 32 _ b _ rfl rfl Tryz.underlying60 _ Tryz.underlying21 rfl info_w1 hbl HV.out ?_)
          go_roundw
          case rel => exact ⟨b + 1, by omega, by go_num, HN⟩
          case measure => simp [intOf]; omega
        · obtain rfl : b = 32 := by omega
          go_wp2
          go_roundw
          case rel => exact ⟨c + 1, by omega, by go_num, by rw [show (c + 1) * 32 = c * 32 + 32 by omega]; exact HU⟩
          case measure => simp [intOf]; omega
    · obtain rfl : c = 4 := by omega
      obtain ⟨A1, A2, A4⟩ := HT.out.to (g := f) (fun i hi => if_pos (by omega))
      obtain ⟨cs, Hcs⟩ : ∃ cs, Hid (tab 128 f = cs) := ⟨_, (rfl : _ = _)⟩
      have HcsL : Hid (cs.length = 128) := by show _ = _; rw [← Hcs.out]; exact tab_length _ _
      have HcsO : Hid (∀ u ∈ cs, u.oneCell' = true) := by show ∀ u ∈ cs, _; rw [← Hcs.out]; exact tab_one _ _
      have HI : Hid ((Tryz.prog.info? 177).map (·.size) = some cs.length) := by show _ = _; rw [HcsL.out]; exact info_table
      have HI2 : Hid ((Tryz.prog.info? 177).map (·.size) = some cs.toArray.size) := by show _ = _; rw [List.size_toArray]; exact HI.out
      rw [Hcs.out] at A2
      have HRg : Hid (wr.rangeAt (w.heap.size + 2) 0 cs) := CellsAt.range A2
      have HTh : Hid (wr.there (w.heap.size + 1) 0 cs.toArray.size) := by
        have := CellsAt.there A1
        rw [tab_length] at this
        show wr.there (w.heap.size + 1) 0 cs.length
        rw [HcsL.out]; exact this
      have HA4 : Hid (Below w.heap.size w wr) := A4
      clear A1 A2 A4 HT
      go_wp2_with (first
        | (refine wpList_load_mid rfl 177 (.tmp 3) rfl _ _ rfl cs _ HRg.out Tryz.underlying177 rfl HI.out ?_)
        | (refine wpList_store_mid rfl 177 (.tmp 2) (.tmp 27) rfl _ _ cs.toArray rfl rfl HTh.out HI2.out (all_oneCell_toArray HcsO.out) ?_))
      have hld := run_loadVar_mid (P := Tryz.prog) (wr.setCells (w.heap.size + 1) 0 cs) (w.heap.size + 1) 0 177 cs _ (World.rangeAt_setCells_same _ _ _ _ (by have := HTh.out; rw [List.size_toArray] at this; exact this)) Tryz.underlying177 rfl HI.out
      rw [Hcs.out]
      refine bodyPost_ret (v := .agg cs.toArray) ?_ rfl ⟨rfl, below_setCells (by omega) cs 0 HA4.out⟩
      simp [results, Tryz.results93, asAddr, hld, Act.put]
end Go.Proofs.YtfpodnleimhohabGreatDoor
