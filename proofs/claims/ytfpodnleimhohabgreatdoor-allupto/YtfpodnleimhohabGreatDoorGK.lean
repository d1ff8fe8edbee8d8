import Derived.Test.YtfpodnleimhohabGreatDoorWalksBC
import Derived.Test.YtfpodnleimhohabGreatDoorWalks9
import Derived.Test.YtfpodnleimhohabGreatDoorWalksS
import Derived.Test.YtfpodnleimhohabGreatDoorWalksBD
import Derived.Test.YtfpodnleimhohabGreatDoorMathL
/-
  WALKS: the program's weights are turned.
-/
namespace Go.Proofs.YtfpodnleimhohabGreatDoor
open Go.RowKit
set_option linter.unusedVariables false

theorem lrn_set_w {hd tl : List Value} (sp : Nat) (tw tv : Tab) {c b : Nat} (hc : c < 4) (hb : b < 32) (z : Int) : (hd ++ (lrnCells ⟨sp, tw, tv⟩ ++ tl)).set (hd.length + c * 32 + b) (.int .i32 z) = hd ++ (lrnCells ⟨sp, updT tw c b z, tv⟩ ++ tl) := by
  rw [List.set_append_right _ _ (by omega), List.set_append_left _ _ (by rw [lrnCells_length]; omega)]
  unfold lrnCells
  rw [List.set_append_left _ _ (by rw [tabw_length]; omega), show hd.length + c * 32 + b - hd.length = c * 32 + b by omega, tabw_set, flat_upd _ _ _ _ hb]
theorem lrn_set_v {hd tl : List Value} (sp : Nat) (tw tv : Tab) {c b : Nat} (hc : c < 4) (hb : b < 32) (z : Int) : (hd ++ (lrnCells ⟨sp, tw, tv⟩ ++ tl)).set (hd.length + 128 + c * 32 + b) (.int .i64 z) = hd ++ (lrnCells ⟨sp, tw, updT tv c b z⟩ ++ tl) := by
  rw [List.set_append_right _ _ (by omega), List.set_append_left _ _ (by rw [lrnCells_length]; omega)]
  unfold lrnCells
  rw [List.set_append_right _ _ (by rw [tabw_length]; omega), tabw_length, show hd.length + 128 + c * 32 + b - hd.length - 128 = c * 32 + b by omega, tab_set, flat_upd _ _ _ _ hb]
theorem lrn_tabs (sp sp' : Nat) {tw tv tw' tv' : Tab} (h1 : ∀ c b, c < 4 → b < 32 → tw c b = tw' c b) (h2 : ∀ c b, c < 4 → b < 32 → tv c b = tv' c b) : lrnCells ⟨sp, tw, tv⟩ = lrnCells ⟨sp', tw', tv'⟩ := by
  unfold lrnCells
  have e1 : tabw 128 (flat tw) = tabw 128 (flat tw') := tabw_congr fun i hi => h1 _ _ (by omega) (Nat.mod_lt _ (by decide))
  have e2 : tab 128 (flat tv) = tab 128 (flat tv') := tab_congr fun i hi => h2 _ _ (by omega) (Nat.mod_lt _ (by decide))
  simp only [e1, e2]
/-- Memory while the weights are turned. -/
structure MovAt (w wr : World) (g : Nat) (t : TypeId) (rc pc fc : List Value) : Prop where
  r : CellsAt wr g t rc
  p : CellsAt wr w.heap.size 112 pc
  c : CellsAt wr (w.heap.size + 1) 24 fc
  s : Spared w wr (fun j => j = g)
theorem MovAt.set {w wr : World} {g : Nat} {t : TypeId} {rc pc fc : List Value} (h : MovAt w wr g t rc pc fc) (hg : g < w.heap.size) (i : Nat) (u : Value) : MovAt w (wr.setCell ⟨g, i, none⟩ u) g t (rc.set i u) pc fc :=
  ⟨h.r.set i u, h.p.other (by omega) _ _, h.c.other (by omega) _ _, h.s.trans (Spared.of_set wr g i u) (fun _ _ h => h)⟩
theorem MovAt.later {w wr wr' : World} {g : Nat} {t : TypeId} {rc pc fc : List Value} (h : MovAt w wr g t rc pc fc) (hb : Below wr.heap.size wr wr') : MovAt w wr' g t rc pc fc :=
  ⟨h.r.later hb, h.p.later hb, h.c.later hb, h.s.trans (Spared.of_below hb (fun k => k = g)) (fun _ _ h => h)⟩
theorem MovAt.drewN {w wr : World} {g : Nat} {t : TypeId} {rc pc fc : List Value} (h : MovAt w wr g t rc pc fc) (n : Nat) : MovAt w (wr.drewN n) g t rc pc fc := ⟨h.r, h.p, h.c, ⟨h.s.os, h.s.tape, h.s.output, h.s.size, h.s.block⟩⟩
theorem MovAt.drew {w wr : World} {g : Nat} {t : TypeId} {rc pc fc : List Value} (h : MovAt w wr g t rc pc fc) : MovAt w wr.drew g t rc pc fc := ⟨h.r, h.p, h.c, ⟨h.s.os, h.s.tape, h.s.output, h.s.size, h.s.block⟩⟩
theorem MovAt.to {w wr : World} {g : Nat} {t : TypeId} {rc rc' pc fc : List Value} (h : MovAt w wr g t rc pc fc) (e : rc = rc') : MovAt w wr g t rc' pc fc := e ▸ h
theorem info_pull : (Tryz.prog.info? 112).map (·.size) = some 128 := by kernel_rfl

set_option maxRecDepth 100000 in
set_option maxHeartbeats 4000000 in
theorem move_any (g : Nat) (t : TypeId) (hd tl : List Value) (o : Nat) (ho : hd.length = o) (cf : Cf) (hcf : cf.Ok) (st : St) (hst : st.Ok) (G : Tab) (hG : ∀ c b, -56 ≤ G c b ∧ G c b ≤ 56) (w : World) (hR : LrnAt w g t hd tl st) :
    Calls Tryz.prog 35 #[.pointer (some ⟨g, o, none⟩), .agg (tab 128 (flat G)).toArray, .agg (cfCells cf).toArray] w fun e w' => e = .returned (.tuple #[]) ∧ LrnAt w' g t hd tl ⟨st.steps, fun a b => weightN cf (st.w a b) (speedN cf (st.v a b) (G a b)), fun a b => speedN cf (st.v a b) (G a b)⟩ ∧ Spared w w' (fun j => j = g) := by
  have hgl := CellsAt.lt hR
  have HR : Hid (LrnAt w g t hd tl st) := hR
  have HG : Hid _ := hG
  clear hR hG
  obtain ⟨pc, Hpc⟩ : ∃ pc, Hid (tab 128 (flat G) = pc) := ⟨_, (rfl : _ = _)⟩
  rw [Hpc.out]
  obtain ⟨V, HV⟩ : ∃ V : Tab, Hid ((fun a b => speedN cf (st.v a b) (G a b)) = V) := ⟨_, (rfl : _ = _)⟩
  obtain ⟨W, HW⟩ : ∃ W : Tab, Hid ((fun a b => weightN cf (st.w a b) (V a b)) = W) := ⟨_, (rfl : _ = _)⟩
  have HE : Hid ((⟨st.steps, fun a b => weightN cf (st.w a b) (speedN cf (st.v a b) (G a b)), fun a b => speedN cf (st.v a b) (G a b)⟩ : St) = ⟨st.steps, W, V⟩) := by
    show _ = _
    rw [← HW.out, ← HV.out]
  rw [HE.out]
  have HVb : Hid (∀ a b, -1073741824 ≤ V a b ∧ V a b ≤ 1073741824) := fun a b => by rw [← HV.out]; exact clamp_le _ _ (by decide)
  have HVe : Hid (∀ a b, speedN cf (st.v a b) (G a b) = V a b) := fun a b => by rw [← HV.out]
  have HWe : Hid (∀ a b, weightN cf (st.w a b) (V a b) = W a b) := fun a b => by rw [← HW.out]
  have hra := hcf.rate
  have hmo := hcf.mom
  obtain ⟨sd, bt, ra, mo, de⟩ := cf
  simp only at hra hmo
  show Calls Tryz.prog 35 #[.pointer (some ⟨g, o, none⟩), .agg pc.toArray, .agg #[.int .u64 sd, .int .u8 bt, .int .i32 ra, .int .i32 mo, .int .u8 de]] w _
  go_enter Tryz.func35, Tryz.ntmps35
  go_wp2_with fail
  obtain ⟨w0, Hw0⟩ : ∃ w0, Hid ((w.alloc (.cells pc.toArray 112)).alloc (.cells #[.int .u64 sd, .int .u8 bt, .int .i32 ra, .int .i32 mo, .int .u8 de] 24) = w0) := ⟨_, (rfl : _ = _)⟩
  have H0 : Hid (MovAt w w0 g t (hd ++ (lrnCells ⟨st.steps, mixT W st.w 0 0, mixT V st.v 0 0⟩ ++ tl)) pc [.int .u64 sd, .int .u8 bt, .int .i32 ra, .int .i32 mo, .int .u8 de]) := by
    show MovAt _ _ _ _ _ _ _
    rw [← Hw0.out, mixT_none, mixT_none]
    exact ⟨(CellsAt.alloc (CellsAt.alloc HR.out _) _), (CellsAt.new w _ _ _ rfl rfl).alloc _, CellsAt.new _ _ _ _ rfl (by simp), Spared.of_below (((Below.refl _ _).alloc (Nat.le_refl _) _).alloc (by simp) _) _⟩
  rw [Hw0.out]
  clear Hw0 HR
  go_loopw [6] (fun cv wr => ∃ c : Nat, c ≤ 4 ∧ cv = .int .i64 c ∧ Hid (MovAt w wr g t (hd ++ (lrnCells ⟨st.steps, mixT W st.w c 0, mixT V st.v c 0⟩ ++ tl)) pc [.int .u64 sd, .int .u8 bt, .int .i32 ra, .int .i32 mo, .int .u8 de])) (fun c _ => 4 - (intOf c).toNat)
  case atStart => exact ⟨0, by omega, rfl, H0⟩
  case round =>
    obtain ⟨c, hc, rfl, HS⟩ := hrel
    clear H0
    by_cases hlt : c < 4
    · go_wp2_with fail
      generalize decide ((c : Int) < 4) = q4
      go_loopg [7] 32 (fun gk bv wq => ∃ b : Nat, gk + b = 32 ∧ bv = .int .i64 b ∧ Hid (MovAt w wq g t (hd ++ (lrnCells ⟨st.steps, mixT W st.w c b, mixT V st.v c b⟩ ++ tl)) pc [.int .u64 sd, .int .u8 bt, .int .i32 ra, .int .i32 mo, .int .u8 de]))
      case atStart => exact ⟨0, by omega, rfl, HS⟩
      case round =>
        obtain ⟨b, hgb, rfl, HT⟩ := hrel
        clear HS
        by_cases hbl : b < 32
        · have d1 := (HT.out.r.cell (hd.length + 128 + c * 32 + b)).trans (lrn_v _ hlt hbl)
          have d2 := (HT.out.r.cell (hd.length + c * 32 + b)).trans (lrn_w _ hlt hbl)
          simp only [mixT_at] at d1 d2
          rw [ho] at d1 d2
          have e3 : pc[c * 32 + b]? = some (.int .i64 (G c b)) := by rw [← Hpc.out, tab_get _ (show c * 32 + b < 128 by omega), flat_at _ hbl]
          have d3 := (HT.out.p.cell (c * 32 + b)).trans e3
          clear e3
          have k0 := HT.out.c.cell 0
          have k1 := HT.out.c.cell 1
          have k2 := HT.out.c.cell 2
          have k3 := HT.out.c.cell 3
          have k4 := HT.out.c.cell 4
          simp only [List.getElem?_cons_zero, List.getElem?_cons_succ] at k0 k1 k2 k3 k4
          have hv := hst.v c b hlt hbl
          have hw := hst.w c b hlt hbl
          have hg := HG.out c b
          have hVb := HVb.out c b
          have HVc : Hid _ := HVe.out c b
          have HWc : Hid _ := HWe.out c b
          have HSt : Hid (MovAt w wr g t (hd ++ (lrnCells ⟨st.steps, mixT W st.w c b, mixT V st.v c b⟩ ++ tl)) pc [.int .u64 sd, .int .u8 bt, .int .i32 ra, .int .i32 mo, .int .u8 de]) := HT.out
          clear HT
          generalize st.v c b = v0 at *
          generalize st.w c b = x0 at *
          generalize G c b = g0 at *
          have HK : Hid (∀ w', Below wr.heap.size wr w' → w'.cell? ⟨g, o + 128 + c * 32 + b, none⟩ = some (.int .i64 v0) ∧ w'.cell? ⟨w.heap.size, c * 32 + b, none⟩ = some (.int .i64 g0) ∧ w'.cell? ⟨w.heap.size + 1, 0, none⟩ = some (.int .u64 sd) ∧ w'.cell? ⟨w.heap.size + 1, 1, none⟩ = some (.int .u8 bt) ∧ w'.cell? ⟨w.heap.size + 1, 2, none⟩ = some (.int .i32 ra) ∧ w'.cell? ⟨w.heap.size + 1, 3, none⟩ = some (.int .i32 mo) ∧ w'.cell? ⟨w.heap.size + 1, 4, none⟩ = some (.int .u8 de)) := fun w' hb => by
            have l1 := HSt.out.r.lt
            have l2 := HSt.out.p.lt
            have l3 := HSt.out.c.lt
            exact ⟨(hb.cell l1).trans d1, (hb.cell l2).trans d3, (hb.cell l3).trans k0, (hb.cell l3).trans k1, (hb.cell l3).trans k2, (hb.cell l3).trans k3, (hb.cell l3).trans k4⟩
          go_wp2_with fail
          go_region_held_law (fun w' => w'.cell? ⟨g, o + 128 + c * 32 + b, none⟩ = some (.int .i64 v0) ∧ w'.cell? ⟨w.heap.size, c * 32 + b, none⟩ = some (.int .i64 g0) ∧ w'.cell? ⟨w.heap.size + 1, 0, none⟩ = some (.int .u64 sd) ∧ w'.cell? ⟨w.heap.size + 1, 1, none⟩ = some (.int .u8 bt) ∧ w'.cell? ⟨w.heap.size + 1, 2, none⟩ = some (.int .i32 ra) ∧ w'.cell? ⟨w.heap.size + 1, 3, none⟩ = some (.int .i32 mo) ∧ w'.cell? ⟨w.heap.size + 1, 4, none⟩ = some (.int .u8 de)) (first | go_keep | exact HK.out _ ⟨hb7.os, hb7.tape, hb7.output, hb7.size, hb7.block⟩) (first | (go_at_call 66; refine (nextSpeed_any ⟨sd, bt, ra, mo, de⟩ hcf v0 g0 hv hg _).mono ?_; rintro e w7 ⟨rfl, hb7⟩))
          have HS7 : Hid (MovAt w w7 g t (hd ++ (lrnCells ⟨st.steps, mixT W st.w c b, mixT V st.v c b⟩ ++ tl)) pc [.int .u64 sd, .int .u8 bt, .int .i32 ra, .int .i32 mo, .int .u8 de]) := HSt.out.later ⟨hb7.os, hb7.tape, hb7.output, hb7.size, hb7.block⟩
          have hx7 : w7.cell? ⟨g, o + c * 32 + b, none⟩ = some (.int .i32 x0) := (hb7.cell (p := ⟨g, o + c * 32 + b, none⟩) HSt.out.r.lt).trans d2
          rw [HVc.out]
          obtain ⟨V0, HV0⟩ : ∃ V0, Hid (V c b = V0) := ⟨_, (rfl : _ = _)⟩
          obtain ⟨W0, HW0⟩ : ∃ W0, Hid (W c b = W0) := ⟨_, (rfl : _ = _)⟩
          rw [HV0.out] at hVb HWc ⊢
          rw [HW0.out] at HWc
          clear hb7 HK HSt d1 d2 d3 k0 k1 k2 k3 k4
          have k0 := HS7.out.c.cell 0
          have k1 := HS7.out.c.cell 1
          have k2 := HS7.out.c.cell 2
          have k3 := HS7.out.c.cell 3
          have k4 := HS7.out.c.cell 4
          simp only [List.getElem?_cons_zero, List.getElem?_cons_succ] at k0 k1 k2 k3 k4
          have HK : Hid (∀ w', Below w7.heap.size w7 w' → w'.cell? ⟨g, o + c * 32 + b, none⟩ = some (.int .i32 x0) ∧ w'.cell? ⟨w.heap.size + 1, 0, none⟩ = some (.int .u64 sd) ∧ w'.cell? ⟨w.heap.size + 1, 1, none⟩ = some (.int .u8 bt) ∧ w'.cell? ⟨w.heap.size + 1, 2, none⟩ = some (.int .i32 ra) ∧ w'.cell? ⟨w.heap.size + 1, 3, none⟩ = some (.int .i32 mo) ∧ w'.cell? ⟨w.heap.size + 1, 4, none⟩ = some (.int .u8 de)) := fun w' hb => by
            have l1 := HS7.out.r.lt
            have l3 := HS7.out.c.lt
            exact ⟨(hb.cell l1).trans hx7, (hb.cell l3).trans k0, (hb.cell l3).trans k1, (hb.cell l3).trans k2, (hb.cell l3).trans k3, (hb.cell l3).trans k4⟩
          go_wp2_with fail
          go_region_held_law (fun w' => w'.cell? ⟨g, o + c * 32 + b, none⟩ = some (.int .i32 x0) ∧ w'.cell? ⟨w.heap.size + 1, 0, none⟩ = some (.int .u64 sd) ∧ w'.cell? ⟨w.heap.size + 1, 1, none⟩ = some (.int .u8 bt) ∧ w'.cell? ⟨w.heap.size + 1, 2, none⟩ = some (.int .i32 ra) ∧ w'.cell? ⟨w.heap.size + 1, 3, none⟩ = some (.int .i32 mo) ∧ w'.cell? ⟨w.heap.size + 1, 4, none⟩ = some (.int .u8 de)) (first | go_keep | exact HK.out _ ⟨hb8.os, hb8.tape, hb8.output, hb8.size, hb8.block⟩) (first | (go_at_call 67; refine (nextWeight_any ⟨sd, bt, ra, mo, de⟩ hcf x0 V0 hw hVb _).mono ?_; rintro e w8 ⟨rfl, hb8⟩))
          have HS8 : Hid (MovAt w w8 g t (hd ++ (lrnCells ⟨st.steps, mixT W st.w c b, mixT V st.v c b⟩ ++ tl)) pc [.int .u64 sd, .int .u8 bt, .int .i32 ra, .int .i32 mo, .int .u8 de]) := HS7.out.later ⟨hb8.os, hb8.tape, hb8.output, hb8.size, hb8.block⟩
          rw [HWc.out]
          have c1 := (HS8.out.r.cell (hd.length + 128 + c * 32 + b)).trans (lrn_v _ hlt hbl)
          have c2 := (HS8.out.r.cell (hd.length + c * 32 + b)).trans (lrn_w _ hlt hbl)
          have f1 := HS8.out.r.frozen (hd.length + 128 + c * 32 + b)
          have f2 := HS8.out.r.frozen (hd.length + c * 32 + b)
          have HS9 : Hid (MovAt w ((w8.setCell ⟨g, hd.length + 128 + c * 32 + b, none⟩ (.int .i64 V0)).setCell ⟨g, hd.length + c * 32 + b, none⟩ (.int .i32 W0)) g t (hd ++ (lrnCells ⟨st.steps, mixT W st.w c (b + 1), mixT V st.v c (b + 1)⟩ ++ tl)) pc [.int .u64 sd, .int .u8 bt, .int .i32 ra, .int .i32 mo, .int .u8 de]) := by
            refine ((HS8.out.set hgl _ _).set hgl _ _).to ?_
            rw [lrn_set_v _ _ _ hlt hbl, lrn_set_w _ _ _ hlt hbl, ← HV0.out, ← HW0.out, mixT_next, mixT_next]
          rw [ho] at c1 c2 f1 f2 HS9
          clear HS8 HS7 HK hb8 hx7 k0 k1 k2 k3 k4
          go_wp2
          go_roundg (gk - 1)
          case measure => omega
          case rel => exact ⟨b + 1, by omega, by go_num, HS9⟩
        · obtain rfl : b = 32 := by omega
          have HS2 : Hid (MovAt w wr g t (hd ++ (lrnCells ⟨st.steps, mixT W st.w (c + 1) 0, mixT V st.v (c + 1) 0⟩ ++ tl)) pc [.int .u64 sd, .int .u8 bt, .int .i32 ra, .int .i32 mo, .int .u8 de]) := by
            refine HT.out.to ?_
            rw [lrn_tabs st.steps st.steps (mixT_row W st.w c) (mixT_row V st.v c)]
          clear HT
          go_wp2
          go_roundw
          case rel => exact ⟨c + 1, by omega, by go_num, HS2⟩
          case measure => simp [intOf]; omega
    · obtain rfl : c = 4 := by omega
      have HS2 : Hid (LrnAt wr g t hd tl ⟨st.steps, W, V⟩ ∧ Spared w wr (fun j => j = g)) := by
        refine ⟨?_, HS.out.s⟩
        have h := HS.out.r
        rw [lrn_tabs st.steps st.steps (mixT_all W st.w) (mixT_all V st.v)] at h
        exact h
      clear HS
      go_wp2
      go_end0
      exact ⟨rfl, HS2.out.1, HS2.out.2⟩
end Go.Proofs.YtfpodnleimhohabGreatDoor

/-
  WALKS: the program's New; a run of the program's in memory.
-/
namespace Go.Proofs.YtfpodnleimhohabGreatDoor
open Go.RowKit
set_option linter.unusedVariables false

set_option maxRecDepth 100000 in
set_option maxHeartbeats 1000000 in
theorem inBounds_any (r : Raw) (w : World) :
    Calls Tryz.prog 13 #[.agg r.cells.toArray] w fun e w' => e = .returned (.bool r.ok) ∧ Below w.heap.size w w' := by
  obtain ⟨sd, bt, ra, mo, de⟩ := r
  show Calls Tryz.prog 13 #[.agg #[.int .u64 sd, .int .u8 bt, .int .i32 ra, .int .i32 mo, .int .u8 de]] w _
  by_cases h0 : bt < 1
  · have HE : Hid (Raw.ok ⟨sd, bt, ra, mo, de⟩ = false) := by show _ = _; simp only [Raw.ok, decide_eq_false_iff_not]; omega
    have e0 : decide ((bt : Int) < 1) = true := by simp; omega
    rw [HE.out]
    clear HE h0
    go_enter Tryz.func13, Tryz.ntmps13
    go_wp2
    go_ret
    exact ⟨rfl, (Below.refl _ _).alloc (Nat.le_refl _) _⟩
  by_cases h1 : 8 < bt
  · have HE : Hid (Raw.ok ⟨sd, bt, ra, mo, de⟩ = false) := by show _ = _; simp only [Raw.ok, decide_eq_false_iff_not]; omega
    have e0 : decide ((bt : Int) < 1) = false := by simp; omega
    have e1 : decide ((8 : Int) < (bt : Int)) = true := by simp; omega
    rw [HE.out]
    clear HE h0 h1
    go_enter Tryz.func13, Tryz.ntmps13
    go_wp2
    go_ret
    exact ⟨rfl, (Below.refl _ _).alloc (Nat.le_refl _) _⟩
  by_cases h2 : ra < 0
  · have HE : Hid (Raw.ok ⟨sd, bt, ra, mo, de⟩ = false) := by show _ = _; simp only [Raw.ok, decide_eq_false_iff_not]; omega
    have e0 : decide ((bt : Int) < 1) = false := by simp; omega
    have e1 : decide ((8 : Int) < (bt : Int)) = false := by simp; omega
    have e2 : decide (ra < 0) = true := by simp; omega
    rw [HE.out]
    clear HE h0 h1 h2
    go_enter Tryz.func13, Tryz.ntmps13
    go_wp2
    go_ret
    exact ⟨rfl, (Below.refl _ _).alloc (Nat.le_refl _) _⟩
  by_cases h3 : 65536 < ra
  · have HE : Hid (Raw.ok ⟨sd, bt, ra, mo, de⟩ = false) := by show _ = _; simp only [Raw.ok, decide_eq_false_iff_not]; omega
    have e0 : decide ((bt : Int) < 1) = false := by simp; omega
    have e1 : decide ((8 : Int) < (bt : Int)) = false := by simp; omega
    have e2 : decide (ra < 0) = false := by simp; omega
    have e3 : decide ((65536 : Int) < ra) = true := by simp; omega
    rw [HE.out]
    clear HE h0 h1 h2 h3
    go_enter Tryz.func13, Tryz.ntmps13
    go_wp2
    go_ret
    exact ⟨rfl, (Below.refl _ _).alloc (Nat.le_refl _) _⟩
  by_cases h4 : mo < 0
  · have HE : Hid (Raw.ok ⟨sd, bt, ra, mo, de⟩ = false) := by show _ = _; simp only [Raw.ok, decide_eq_false_iff_not]; omega
    have e0 : decide ((bt : Int) < 1) = false := by simp; omega
    have e1 : decide ((8 : Int) < (bt : Int)) = false := by simp; omega
    have e2 : decide (ra < 0) = false := by simp; omega
    have e3 : decide ((65536 : Int) < ra) = false := by simp; omega
    have e4 : decide (mo < 0) = true := by simp; omega
    rw [HE.out]
    clear HE h0 h1 h2 h3 h4
    go_enter Tryz.func13, Tryz.ntmps13
    go_wp2
    go_ret
    exact ⟨rfl, (Below.refl _ _).alloc (Nat.le_refl _) _⟩
  by_cases h5 : 65535 < mo
  · have HE : Hid (Raw.ok ⟨sd, bt, ra, mo, de⟩ = false) := by show _ = _; simp only [Raw.ok, decide_eq_false_iff_not]; omega
    have e0 : decide ((bt : Int) < 1) = false := by simp; omega
    have e1 : decide ((8 : Int) < (bt : Int)) = false := by simp; omega
    have e2 : decide (ra < 0) = false := by simp; omega
    have e3 : decide ((65536 : Int) < ra) = false := by simp; omega
    have e4 : decide (mo < 0) = false := by simp; omega
    have e5 : decide ((65535 : Int) < mo) = true := by simp; omega
    rw [HE.out]
    clear HE h0 h1 h2 h3 h4 h5
    go_enter Tryz.func13, Tryz.ntmps13
    go_wp2
    go_ret
    exact ⟨rfl, (Below.refl _ _).alloc (Nat.le_refl _) _⟩
  have HE : Hid (Raw.ok ⟨sd, bt, ra, mo, de⟩ = decide ((de : Int) ≤ 31)) := by show _ = _; simp only [Raw.ok]; congr 1; apply propext; omega
  have e0 : decide ((bt : Int) < 1) = false := by simp; omega
  have e1 : decide ((8 : Int) < (bt : Int)) = false := by simp; omega
  have e2 : decide (ra < 0) = false := by simp; omega
  have e3 : decide ((65536 : Int) < ra) = false := by simp; omega
  have e4 : decide (mo < 0) = false := by simp; omega
  have e5 : decide ((65535 : Int) < mo) = false := by simp; omega
  rw [HE.out]
  clear HE h0 h1 h2 h3 h4 h5
  go_enter Tryz.func13, Tryz.ntmps13
  go_wp2
  go_ret
  exact ⟨rfl, (Below.refl _ _).alloc (Nat.le_refl _) _⟩

/-! ### examples in memory -/
def exNCells (x : Ex) : List Value := [.int .u8 (x.1 : Int), .string (bs x.2)]
def exNsCells (X : List Ex) : List Value := X.flatMap exNCells
theorem exNsCells_snoc (X : List Ex) (x : Ex) : exNsCells (X ++ [x]) = exNsCells X ++ exNCells x := by simp [exNsCells]
theorem exN_get {X : List Ex} {k : Nat} {x : Ex} (h : X[k]? = some x) : (exNsCells X)[k * 2]? = some (.int .u8 (x.1 : Int)) ∧ (exNsCells X)[k * 2 + 1]? = some (.string (bs x.2)) := by
  have f := flat_get exNCells 2 (fun _ => rfl) X k x h
  exact ⟨f 0 (by omega), f 1 (by omega)⟩

set_option maxRecDepth 100000 in
set_option maxHeartbeats 1000000 in
theorem examplesOf_any (bR : Nat) (vR : Value) (rs : List Rc) (hl : rs.length ≤ 600) (w : World) (hown : w.ownsRow bR 99 4 vR rs.length (recsCells rs)) :
    Calls Tryz.prog 15 #[vR] w fun e w' => ∃ v, e = .returned v ∧ w'.ownsRow w.heap.size 97 2 v rs.length (exNsCells (exsOf rs)) ∧ Below w.heap.size w w' := by
  obtain ⟨i0, hi, hz0, hz1, hz2⟩ := info_parts info_ex
  obtain ⟨aR, cR, rfl, hc1, hc2, hrd⟩ := own_read hown
  unfold maxLen at hc2
  have HRD : Hid _ := hrd
  clear hrd hown
  go_enter Tryz.func15, Tryz.ntmps15
  go_wp2_with fail
  go_loopw [3, 8] (fun v iv wr => ∃ k : Nat, k ≤ rs.length ∧ iv = .int .i64 k ∧ wr.ownsRow w.heap.size 97 2 v k (exNsCells (exsOf (rs.take k))) ∧ Below w.heap.size w wr) (fun _ i _ => rs.length - (intOf i).toNat)
  case atStart => exact ⟨0, by omega, rfl, World.ownsRow_nil _ _ _ _, Below.refl _ _⟩
  case round =>
    obtain ⟨k, hk, rfl, ho, hbel⟩ := hrel
    by_cases hlt : k < rs.length
    · obtain ⟨gR, rfl, hg1, hg2, hg3⟩ := HRD.out (by omega)
      have hrk := List.getElem?_eq_getElem hlt
      obtain ⟨q0, q1, q2, q3⟩ := rec_get hrk
      have c0 := (hbel.cell (p := ⟨gR, k * 4, none⟩) hg2).trans ((hg3 _ (by omega)).trans q0)
      have c1 := (hbel.cell (p := ⟨gR, k * 4 + 1, none⟩) hg2).trans ((hg3 _ (by omega)).trans q1)
      have c2 := (hbel.cell (p := ⟨gR, k * 4 + 2, none⟩) hg2).trans ((hg3 _ (by omega)).trans q2)
      have c3 := (hbel.cell (p := ⟨gR, k * 4 + 3, none⟩) hg2).trans ((hg3 _ (by omega)).trans q3)
      have HT : Hid (exNsCells (exsOf (rs.take (k + 1))) = exNsCells (exsOf (rs.take k)) ++ [.int .u8 ((rs[k].bd.headD 0).toNat : Int), .string (bs rs[k].bd.tail)]) := by
        show _ = _
        rw [List.take_succ_eq_append_getElem hlt]
        simp only [exsOf, List.map_append, List.map_cons, List.map_nil]
        rw [exNsCells_snoc]; rfl
      generalize rs[k] = rc at *
      generalize rc.bd.headD 0 = lb at *
      generalize bs rc.bd.tail = tx at *
      generalize rc.fr = fr at *
      generalize rc.to = tq at *
      have hz := hbel.size
      have hkl : (k : Int) < (rs.length : Int) := by omega
      clear q0 q1 q2 q3 hrk hg3
      go_wp2_with (at_builtin; refine wpList_append_own _ rfl (.tmp 12) (.tmp 15) 58 rfl w.heap.size 97 i0 (.agg #[.int .u8 0, .string ⟨#[]⟩]) 2 24 Tryz.underlying58 hi hz0 hz1 hz2 rfl (by decide) _ _ _ rfl ((ho.alloc _).alloc _) ⟨wr.heap.size + 1, 0, none⟩ 1 1 [.int .u8 (lb.toNat : Int), .string tx] rfl rfl (news_at _ _ (by simp) _ _ _ rfl) (oneCell_nums _ rfl) (by unfold maxLen; omega) (by omega) (by simp; omega) ?_; intro v' w3 ho3 hgr hxx; clear hxx)
      go_roundw
      case rel => exact ⟨k + 1, by omega, by go_num, by rw [HT.out]; exact ho3, ((hbel.alloc hz _).alloc (by simp; omega) _).grown hgr (by simp; omega) (fun j hj => (ho.lt j hj).1)⟩
      case measure => simp [intOf]; omega
    · obtain rfl : k = rs.length := by omega
      rw [List.take_length] at ho
      go_wp2
      go_ret
      exact ⟨_, rfl, ho, hbel⟩
end Go.Proofs.YtfpodnleimhohabGreatDoor

/-
  WALKS: the program's New; its Draw, Status, Weights.
-/
namespace Go.Proofs.YtfpodnleimhohabGreatDoor
open Go.RowKit
set_option linter.unusedVariables false
variable {mk : ByteArray}

/-- The cells of a run of the program's. -/
def prHead (cf : Cf) (mk : ByteArray) (lv : Value) (steps : Nat) : List Value := [.int .u64 cf.seed, .int .u8 cf.batch, .int .i32 cf.rate, .int .i32 cf.mom, .int .u8 cf.decay, .string mk, lv, .int .i64 steps]
abbrev ProgRun (w : World) (g : Nat) (cf : Cf) (mk : ByteArray) (lv : Value) (st : St) : Prop := LrnAt w g 67 (prHead cf mk lv st.steps) [] st
theorem pr_head (cf : Cf) (lv : Value) (st : St) {i : Nat} (h : i < 8) : (prHead cf mk lv st.steps ++ (lrnCells st ++ []))[i]? = (prHead cf mk lv st.steps)[i]? := by
  rw [List.getElem?_append_left (by simpa [prHead] using h)]

set_option maxRecDepth 100000 in
set_option maxHeartbeats 1000000 in
theorem nextDraw_any (g : Nat) (cf : Cf) (hcf : cf.Ok) (lv : Value) (st : St) (hst : st.Ok) (w : World) (hR : ProgRun w g cf mk lv st) :
    Calls Tryz.prog 63 #[.pointer (some ⟨g, 0, none⟩)] w fun e w' => e = .returned (.int .i64 (st.steps * cf.batch : Nat)) ∧ ∃ k, w' = w.drewN k := by
  have d1 := (CellsAt.cell hR 1).trans (pr_head cf lv st (by decide))
  have d7 := (CellsAt.cell hR 7).trans (pr_head cf lv st (by decide))
  simp only [prHead, List.getElem?_cons_zero, List.getElem?_cons_succ] at d1 d7
  have hs4 := hst.steps
  have hb8 := hcf.batch8
  have hmul : st.steps * cf.batch ≤ 400 * 8 := Nat.mul_le_mul hs4 hb8
  obtain ⟨j, Hj⟩ : ∃ j, Hid (st.steps * cf.batch = j) := ⟨_, (rfl : _ = _)⟩
  have hm1 : (st.steps : Int) * (cf.batch : Int) = (j : Int) := by rw [← Hj.out, Int.natCast_mul]
  rw [Hj.out] at hmul ⊢
  generalize st.steps = sp at *
  generalize cf.batch = bt at *
  clear hR
  go_enter Tryz.func63, Tryz.ntmps63
  go_wp2_with fail
  go_quiet (fail)
  go_wp2
  go_ret
  exact ⟨rfl, _, rfl⟩

set_option maxRecDepth 100000 in
set_option maxHeartbeats 1000000 in
theorem epochAndRow_any (g : Nat) (cf : Cf) (a : Option Addr) (n cap : Nat) (hn1 : 1 ≤ n) (hn2 : n ≤ 65536) (st : St) (j : Nat) (hj : j ≤ 100000) (w : World) (hR : ProgRun w g cf mk (.slice a n cap) st) :
    Calls Tryz.prog 76 #[.pointer (some ⟨g, 0, none⟩), .int .i64 j] w fun e w' => e = .returned (.tuple #[.int .i64 (j / n : Nat), .int .i64 (j % n : Nat)]) ∧ ∃ k, w' = w.drewN k := by
  have d6 := (CellsAt.cell hR 6).trans (pr_head cf (.slice a n cap) st (by decide))
  simp only [prHead, List.getElem?_cons_zero, List.getElem?_cons_succ] at d6
  obtain ⟨q, Hq⟩ : ∃ q, Hid (j / n = q) := ⟨_, (rfl : _ = _)⟩
  obtain ⟨r, Hr⟩ : ∃ r, Hid (j % n = r) := ⟨_, (rfl : _ = _)⟩
  rw [Hq.out, Hr.out]
  have hq1 : (j : Int) / (n : Int) = (q : Int) := by rw [← Hq.out, Int.natCast_ediv]
  have hq2 : (j : Int) % (n : Int) = (r : Int) := by rw [← Hr.out, Int.natCast_emod]
  have hq3 : (j : Int).tdiv (n : Int) = (q : Int) := by rw [Int.tdiv_eq_ediv_of_nonneg (by omega)]; exact hq1
  have hq4 : (j : Int).tmod (n : Int) = (r : Int) := by rw [Int.tmod_eq_emod_of_nonneg (by omega)]; exact hq2
  have hn0 : ((n : Int) == 0) = false := by simp; omega
  have hqb : q ≤ 100000 := by have := Nat.div_le_self j n; rw [Hq.out] at this; omega
  clear hR
  go_enter Tryz.func76, Tryz.ntmps76
  go_wp2_with fail
  go_quiet (fail)
  go_wp2
  go_ret2
  exact ⟨rfl, _, rfl⟩

set_option maxRecDepth 100000 in
set_option maxHeartbeats 1000000 in
theorem drawn_any (g : Nat) (cf : Cf) (hcf : cf.Ok) (a : Option Addr) (n cap : Nat) (hn1 : 1 ≤ n) (hn2 : n ≤ 65536) (st : St) (m : Nat) (hm : m ≤ 100000) (w : World) (hR : ProgRun w g cf mk (.slice a n cap) st) :
    Calls Tryz.prog 64 #[.pointer (some ⟨g, 0, none⟩), .int .i64 m] w fun e w' => e = .returned (.int .i64 (drawN cf n m : Nat)) ∧ ∃ k, w' = w.drewN k := by
  have d0 := (CellsAt.cell hR 0).trans (pr_head cf (.slice a n cap) st (by decide))
  have d6 := (CellsAt.cell hR 6).trans (pr_head cf (.slice a n cap) st (by decide))
  simp only [prHead, List.getElem?_cons_zero, List.getElem?_cons_succ] at d0 d6
  have HR : Hid (ProgRun w g cf mk (.slice a n cap) st) := hR
  clear hR
  obtain ⟨q, Hq⟩ : ∃ q, Hid (m / n = q) := ⟨_, (rfl : _ = _)⟩
  obtain ⟨r, Hr⟩ : ∃ r, Hid (m % n = r) := ⟨_, (rfl : _ = _)⟩
  obtain ⟨z, Hz⟩ : ∃ z, Hid ((cf.seed + q) % 18446744073709551616 = z) := ⟨_, (rfl : _ = _)⟩
  have HM : Hid (drawN cf n m = place (mixN z) n r) := by show _ = _; unfold drawN; rw [Hq.out, Hr.out, Hz.out]
  rw [HM.out]
  have hz2 : Hid (z < 18446744073709551616) := by show z < _; rw [← Hz.out]; exact Nat.mod_lt _ (by decide)
  have hql : q ≤ 100000 := by have := Nat.div_le_self m n; rw [Hq.out] at this; omega
  have hrl : r < n := by rw [← Hr.out]; exact Nat.mod_lt _ (by omega)
  have hw1 : IntKind.u64.wrap ((cf.seed : Int) + (q : Int)) = (z : Int) := by rw [IntKind.wrap_u64, ← Hz.out]; omega
  have HMl : Hid (mixN z < 18446744073709551616) := mixN_lt z
  have HPA : Hid (placeAns (mixN z) n r = (place (mixN z) n r, 0)) := if_pos ⟨hrl, hn2⟩
  have hyn := (place_perm (mixN z) hn2).maps r hrl
  clear HM
  obtain ⟨mz, Hmz⟩ : ∃ mz, Hid (mixN z = mz) := ⟨_, (rfl : _ = _)⟩
  rw [Hmz.out] at HMl HPA hyn ⊢
  obtain ⟨y, Hy⟩ : ∃ y, Hid (place mz n r = y) := ⟨_, (rfl : _ = _)⟩
  rw [Hy.out] at HPA hyn ⊢
  go_enter Tryz.func64, Tryz.ntmps64
  go_wp2_with fail
  refine (epochAndRow_any g cf a n cap hn1 hn2 st m hm _ HR.out).mono ?_
  rintro e w1 ⟨rfl, n1, rfl⟩
  rw [Hq.out, Hr.out]
  generalize cf.seed = sd at *
  have d0' : (w.drewN n1).cell? ⟨g, 0, none⟩ = some (.int .u64 sd) := d0
  have d6' : (w.drewN n1).cell? ⟨g, 6, none⟩ = some (.slice a n cap) := d6
  go_wp2_with fail
  refine (ordMix_any z hz2 _).mono ?_
  rintro e w2 ⟨rfl, hw⟩
  have hw' := hw.symm
  clear hw
  subst hw'
  rw [Hmz.out]
  go_wp2_with fail
  refine (ordPlace_any mz n r HMl (by omega) (by omega) _).mono ?_
  rintro e w3 ⟨rfl, n3, rfl⟩
  rw [HPA.out]
  go_wp2
  go_ret
  exact ⟨rfl, _, rfl⟩

set_option maxRecDepth 100000 in
set_option maxHeartbeats 1000000 in
theorem progDraw_any (g : Nat) (cf : Cf) (hcf : cf.Ok) (a : Option Addr) (n cap : Nat) (hn1 : 1 ≤ n) (hn2 : n ≤ 65536) (st : St) (j : Int) (w : World) (hR : ProgRun w g cf mk (.slice a n cap) st) :
    Calls Tryz.prog 50 #[.pointer (some ⟨g, 0, none⟩), .int .i64 j] w fun e w' => e = .returned (.tuple #[.int .i64 ((drawAns cf n j).1 : Nat), .int .i64 ((drawAns cf n j).2 : Nat)]) ∧ ∃ k, w' = w.drewN k := by
  have HR : Hid (ProgRun w g cf mk (.slice a n cap) st) := hR
  clear hR
  by_cases hok : 0 ≤ j ∧ j ≤ 3200
  · have HA : Hid (drawAns cf n j = (drawN cf n j.toNat, 0)) := if_pos hok
    obtain ⟨hj0, hj1⟩ := hok
    obtain ⟨m, rfl⟩ := Int.eq_ofNat_of_zero_le hj0
    rw [HA.out]
    go_enter Tryz.func50, Tryz.ntmps50
    go_wp2_with fail
    refine (drawn_any g cf hcf a n cap hn1 hn2 st m (by omega) _ HR.out).mono ?_
    rintro e w1 ⟨rfl, n1, rfl⟩
    go_wp2
    go_ret2
    exact ⟨rfl, _, rfl⟩
  · have HA : Hid (drawAns cf n j = (0, 3)) := if_neg hok
    rw [HA.out]
    go_enter Tryz.func50, Tryz.ntmps50
    by_cases hj : j < 0
    · go_wp2
      go_ret2
      exact ⟨rfl, 0, rfl⟩
    · go_wp2
      go_ret2
      exact ⟨rfl, 0, rfl⟩
end Go.Proofs.YtfpodnleimhohabGreatDoor

/-
  WALKS: the program's rows of a worker; its Step.
-/
namespace Go.Proofs.YtfpodnleimhohabGreatDoor
open Go.RowKit
set_option linter.unusedVariables false
variable {mk : ByteArray}

/-- G of the rows from p to below q. -/
theorem missedN_more (c : Cf) (X : List Ex) (s : St) (p q : Nat) (h : p ≤ q) : missedN c X s p (q + 1) = missedN c X s p q + (if missN s.w (rowN c X (s.steps * c.batch + q)) then 1 else 0) := by
  simp only [missedN]
  by_cases hm : missN s.w (rowN c X (s.steps * c.batch + q)) = true
  · rw [if_pos ⟨h, hm⟩, if_pos hm]
  · rw [if_neg (fun e => hm e.2), if_neg hm]
theorem missedN_none (c : Cf) (X : List Ex) (s : St) (p : Nat) : ∀ q, q ≤ p → missedN c X s p q = 0 := by
  intro q
  induction q with
  | zero => intro _; rfl
  | succ q ih => intro h; simp only [missedN]; rw [ih (by omega), if_neg (fun e => by omega)]

set_option maxRecDepth 100000 in
set_option maxHeartbeats 4000000 in
theorem rows_any (g : Nat) (cf : Cf) (hcf : cf.Ok) (aX : Option Addr) (cX bX : Nat) (X : List Ex) (hX : ∀ x ∈ X, x.1 < 4 ∧ x.2.length ≤ 200) (hn1 : 1 ≤ X.length) (hn2 : X.length ≤ 600) (st : St) (hst : st.Ok) (h4 : st.steps < 400) (p q : Nat) (hpq : p ≤ q) (hq : q ≤ cf.batch) (gp : Nat) (hne : gp ≠ g) (w : World)
    (hR : ProgRun w g cf mk (.slice aX X.length cX) st) (hO : w.ownsRow bX 97 2 (.slice aX X.length cX) X.length (exNsCells X)) (hP : CellsAt w gp 112 (tab 128 (flat (gradN cf X st p)))) (hgx : ∀ k, aX = some ⟨k, 0, none⟩ → k ≠ gp) :
    Calls Tryz.prog 34 #[.pointer (some ⟨g, 0, none⟩), .int .i64 p, .int .i64 q, .pointer (some ⟨gp, 0, none⟩)] w fun e w' => e = .returned (.int .i64 (missedN cf X st p q : Nat)) ∧ PullAt w w' gp (flat (gradN cf X st q)) := by
  have hgl := CellsAt.lt hR
  have hgp := hP.lt
  have hb8 := hcf.batch8
  have d5 := (CellsAt.cell hR 6).trans (pr_head cf (.slice aX X.length cX) st (by decide))
  simp only [prHead, List.getElem?_cons_zero, List.getElem?_cons_succ] at d5
  have HR : Hid (ProgRun w g cf mk (.slice aX X.length cX) st) := hR
  have HX : Hid _ := hX
  obtain ⟨_, _, hLv, hcL1, hcL2, hrd⟩ := own_read hO
  simp only [Value.slice.injEq, true_and] at hLv
  obtain ⟨rfl, rfl⟩ := hLv
  obtain ⟨gX, rfl, _, hgXl, hgc⟩ := hrd (by omega)
  have HGC : Hid _ := hgc
  have hgX := hgx gX rfl
  unfold maxLen at hcL2
  have H0 : Hid (PullAt w w gp (flat (gradN cf X st p))) := ⟨hP, Spared.refl _ _⟩
  clear hrd hgc hR hO hP hX hgx
  obtain ⟨n, Hn⟩ : ∃ n, Hid (X.length = n) := ⟨_, (rfl : _ = _)⟩
  have hms : st.steps * cf.batch ≤ 399 * 8 := Nat.mul_le_mul (by omega) hb8
  have HRow : Hid (∀ k, rowN cf X (st.steps * cf.batch + k) = X.getD (drawN cf X.length (st.steps * cf.batch + k)) (0, [])) := fun k => rfl
  have HMp : Hid (missedN cf X st p p = 0) := missedN_none cf X st p p (Nat.le_refl _)
  go_enter Tryz.func34, Tryz.ntmps34
  go_wp2_with fail
  refine (nextDraw_any g cf hcf _ st hst _ HR.out).mono ?_
  rintro e w1 ⟨rfl, n1, rfl⟩
  obtain ⟨m, Hm⟩ : ∃ m, Hid (st.steps * cf.batch = m) := ⟨_, (rfl : _ = _)⟩
  rw [Hm.out] at hms ⊢
  go_wp2_with fail
  have H1 : Hid (PullAt w (w.drewN n1) gp (flat (gradN cf X st p))) := H0.out.drewN n1
  generalize w.drewN n1 = w1 at *
  clear H0
  go_loopg [10, 11] (q - p) (fun gk mv rv wr => ∃ row : Nat, gk + row = q ∧ p ≤ row ∧ rv = .int .i64 row ∧ mv = .int .i64 (missedN cf X st p row : Nat) ∧ missedN cf X st p row ≤ row ∧ Hid (PullAt w wr gp (flat (gradN cf X st row))))
  case atStart => exact ⟨p, by omega, Nat.le_refl _, rfl, by rw [HMp.out]; rfl, by rw [HMp.out]; omega, H1⟩
  case round =>
    obtain ⟨row, hgk, hpr, rfl, rfl, hmr, HT⟩ := hrel
    clear H1
    by_cases hlt : row < q
    · have HR1 : Hid (ProgRun wr g cf mk (.slice (some ⟨gX, 0, none⟩) X.length cX) st) := by
        show CellsAt _ _ _ _
        exact (HT.out.s.block g hgl (fun e => hne e.symm)).trans HR.out
      go_wp2_with fail
      rw [show (m : Int) + (row : Int) = ((m + row : Nat) : Int) by omega]
      refine (drawn_any g cf hcf _ X.length cX hn1 (by omega) st (m + row) (by omega) _ HR1.out).mono ?_
      rintro e w2 ⟨rfl, n2, rfl⟩
      have hx := drawN_lt cf (n := X.length) (m + row) hn1 (by omega)
      have hrow := HRow.out row
      rw [Hm.out] at hrow
      obtain ⟨x, Hx⟩ : ∃ x, Hid (drawN cf X.length (m + row) = x) := ⟨_, (rfl : _ = _)⟩
      rw [Hx.out] at hx hrow ⊢
      have hxe := List.getElem?_eq_getElem hx
      rw [List.getD_eq_getElem?_getD, hxe] at hrow
      have hok := HX.out _ (List.getElem_mem hx)
      obtain ⟨q0, q1⟩ := exN_get hxe
      generalize X[x] = ex at *
      obtain ⟨lab, txt⟩ := ex
      simp only [Option.getD_some] at hrow hok q0 q1
      obtain ⟨hlab, htx⟩ := hok
      have HGr : Hid (gradN cf X st (row + 1) = addN st.w (lab, txt) (gradN cf X st row)) := by
        show _ = _
        simp only [gradN]
        rw [Hm.out, hrow]
      have HMi : Hid (missedN cf X st p (row + 1) = missedN cf X st p row + (if missN st.w (lab, txt) then 1 else 0)) := by
        show _ = _
        rw [missedN_more cf X st p row hpr, Hm.out, hrow]
      have HGb : Hid (∀ c b, -1000 ≤ gradN cf X st row c b ∧ gradN cf X st row c b ≤ 1000) := fun c b => by
        have := gradN_le cf X st row c b
        omega
      have HR2 : Hid (ProgRun (wr.drewN n2).drew g cf mk (.slice (some ⟨gX, 0, none⟩) X.length cX) st) := HR1.out
      have HT2 : Hid (PullAt w (wr.drewN n2) gp (flat (gradN cf X st row))) := HT.out.drewN n2
      have HP2 : Hid (CellsAt (wr.drewN n2).drew gp 112 (tab 128 (flat (gradN cf X st row)))) := HT.out.P
      have e5 : (wr.drewN n2).cell? ⟨g, 6, none⟩ = some (.slice (some ⟨gX, 0, none⟩) X.length cX) := by
        have h := (CellsAt.cell HR1.out 6).trans (pr_head cf (.slice (some ⟨gX, 0, none⟩) X.length cX) st (by decide))
        simp only [prHead, List.getElem?_cons_zero, List.getElem?_cons_succ] at h
        exact h
      have hcl : ∀ j, (wr.drewN n2).cell? ⟨gX, j, none⟩ = w.cell? ⟨gX, j, none⟩ := fun j => World.cell?_of_block (w := w) (a := ⟨gX, j, none⟩) (HT2.out.s.block gX hgXl hgX)
      have e6 := (hcl (x * 2)).trans ((HGC.out _ (by omega)).trans q0)
      have e7 := (hcl (x * 2 + 1)).trans ((HGC.out _ (by omega)).trans q1)
      have hsz := HT2.out.s.size
      clear hcl q0 q1 HT HR1 hxe
      generalize wr.drewN n2 = w2 at *
      have HK : Hid (∀ w', Spared w2 w' (fun k => k = gp) → w'.cell? ⟨g, 6, none⟩ = some (.slice (some ⟨gX, 0, none⟩) X.length cX) ∧ w'.cell? ⟨gX, x * 2, none⟩ = some (.int .u8 lab) ∧ w'.cell? ⟨gX, x * 2 + 1, none⟩ = some (.string (bs txt))) := fun w' hs => by
        refine ⟨(World.cell?_of_block (w := w2) (a := ⟨g, 6, none⟩) (hs.block g (by omega) (fun e => hne e.symm))).trans e5, (World.cell?_of_block (w := w2) (a := ⟨gX, x * 2, none⟩) (hs.block gX (by omega) hgX)).trans e6, (World.cell?_of_block (w := w2) (a := ⟨gX, x * 2 + 1, none⟩) (hs.block gX (by omega) hgX)).trans e7⟩
      have hxi : (x : Int) < (X.length : Int) := by omega
      generalize missedN cf X st p row = mr at *
      obtain ⟨b, Hb⟩ : ∃ b, Hid (missN st.w (lab, txt) = b) := ⟨_, (rfl : _ = _)⟩
      rw [Hb.out] at HMi
      go_wp2_with fail
      go_region_held_law (fun w' => w'.cell? ⟨g, 6, none⟩ = some (.slice (some ⟨gX, 0, none⟩) X.length cX) ∧ w'.cell? ⟨gX, x * 2, none⟩ = some (.int .u8 lab) ∧ w'.cell? ⟨gX, x * 2 + 1, none⟩ = some (.string (bs txt))) (first | exact HK.out _ ⟨hP3.s.os, hP3.s.tape, hP3.s.output, hP3.s.size, hP3.s.block⟩ | go_keep) (first | (go_at_call 65; refine (row_any g 67 (prHead cf mk (.slice (some ⟨gX, 0, none⟩) X.length cX) st.steps) [] 8 rfl st hst lab hlab txt htx gp (gradN cf X st row) HGb.out _ HR2.out HP2.out).mono ?_; rintro e w3 ⟨rfl, hP3⟩))
      rw [Hb.out]
      have HT3 : Hid (PullAt w w3 gp (flat (gradN cf X st (row + 1)))) := by
        refine ⟨?_, ?_⟩
        · rw [HGr.out]; exact hP3.P
        · exact HT2.out.s.trans ⟨hP3.s.os, hP3.s.tape, hP3.s.output, hP3.s.size, hP3.s.block⟩ (fun _ _ h => h)
      clear hP3 HK e5 e6 e7 HR2 HP2 HT2
      cases b with
      | true =>
        simp only [if_true] at HMi
        go_wp2
        go_roundg (gk - 1)
        case measure => omega
        case rel => exact ⟨row + 1, by omega, by omega, by go_num, by rw [HMi.out]; go_num, by rw [HMi.out]; omega, HT3⟩
      | false =>
        simp only [Bool.false_eq_true, if_false, Nat.add_zero] at HMi
        go_wp2
        go_roundg (gk - 1)
        case measure => omega
        case rel => exact ⟨row + 1, by omega, by omega, by go_num, by rw [HMi.out], by rw [HMi.out]; omega, HT3⟩
    · obtain rfl : row = q := by omega
      go_wp2
      go_ret
      exact ⟨rfl, HT.out⟩
end Go.Proofs.YtfpodnleimhohabGreatDoor

/-
  PLAIN MATHEMATICS: what comes of a step: workers, epochs, weights that are held.
-/
namespace Go.Proofs.YtfpodnleimhohabGreatDoor

/-! ### workers -/
theorem missedN_split (c : Cf) (X : List Ex) (s : St) (p q : Nat) (h : p ≤ q) : missedN c X s 0 q = missedN c X s 0 p + missedN c X s p q := by
  induction q with
  | zero => obtain rfl : p = 0 := by omega
            simp [missedN]
  | succ q ih =>
    by_cases e : p = q + 1
    · subst e
      have : ∀ m, m ≤ q + 1 → missedN c X s (q + 1) m = 0 := by
        intro m
        induction m with
        | zero => intro _; rfl
        | succ m im =>
          intro hm
          simp only [missedN]
          rw [im (by omega), if_neg (fun h => by omega)]
      rw [this _ (Nat.le_refl _)]; omega
    · simp only [missedN]
      rw [ih (by omega)]
      by_cases hm : missN s.w (rowN c X (s.steps * c.batch + q)) = true
      · rw [if_pos ⟨by omega, hm⟩, if_pos ⟨by omega, hm⟩]; omega
      · rw [if_neg (fun h => hm h.2), if_neg (fun h => hm h.2)]; omega
/-- How many rows a worker has. -/
theorem missedN_le (c : Cf) (X : List Ex) (s : St) (p q : Nat) (h : p ≤ q) : missedN c X s p q ≤ q - p := by
  induction q with
  | zero => simp [missedN]
  | succ q ih =>
    simp only [missedN]
    by_cases e : p = q + 1
    · subst e
      have : ∀ m, m ≤ q → missedN c X s (q + 1) m = 0 := by
        intro m
        induction m with
        | zero => intro _; rfl
        | succ m im => intro hm; simp only [missedN]; rw [im (by omega), if_neg (fun h => by omega)]
      rw [this _ (Nat.le_refl _), if_neg (fun h => by omega)]; omega
    · have := ih (by omega)
      split <;> omega
def sumNat (f : Nat → Nat) : Nat → Nat
  | 0 => 0
  | k + 1 => sumNat f k + f k
theorem part_le (B W k : Nat) : k * B / W ≤ (k + 1) * B / W := Nat.div_le_div_right (Nat.mul_le_mul_right _ (by omega))
theorem workers_sum (c : Cf) (X : List Ex) (s : St) (W : Nat) : ∀ k, k ≤ W → sumNat (workN c X s W) k = missedN c X s 0 (k * c.batch / W) := by
  intro k
  induction k with
  | zero => intro _; simp [sumNat, missedN]
  | succ k ih =>
    intro hk
    simp only [sumNat]
    rw [ih (by omega), missedN_split c X s (k * c.batch / W) ((k + 1) * c.batch / W) (part_le _ _ _)]
    rfl
/-- As many rows miss, in how many workers the step may be cut. -/
theorem workers_all (c : Cf) (X : List Ex) (s : St) {W : Nat} (hW : 1 ≤ W) : sumNat (workN c X s W) W = missedN c X s 0 c.batch := by
  rw [workers_sum c X s W W (Nat.le_refl _), Nat.mul_div_cancel_left _ (by omega)]
theorem workN_le (c : Cf) (X : List Ex) (s : St) (W k : Nat) : workN c X s W k ≤ (k + 1) * c.batch / W - k * c.batch / W := missedN_le c X s _ _ (part_le _ _ _)

/-! ### epochs -/
/-- Each epoch draws each record once. -/
theorem epoch_inj (c : Cf) {n e i j : Nat} (hn : 1 ≤ n) (hn2 : n ≤ 65536) (hi : i < n) (hj : j < n) (h : drawN c n (e * n + i) = drawN c n (e * n + j)) : i = j := by
  unfold drawN at h
  have e1 : ∀ k, k < n → (e * n + k) / n = e := fun k hk => by
    rw [Nat.mul_comm, Nat.mul_add_div (by omega), Nat.div_eq_of_lt hk]; rfl
  have e2 : ∀ k, k < n → (e * n + k) % n = k := fun k hk => by
    rw [Nat.mul_comm, Nat.mul_add_mod, Nat.mod_eq_of_lt hk]
  rw [e1 i hi, e1 j hj, e2 i hi, e2 j hj] at h
  exact (place_perm _ hn2).inj i j hi hj h

/-! ### steps -/
/-- A run after so many steps. -/
def runN (c : Cf) (X : List Ex) : Nat → St
  | 0 => St.zero
  | k + 1 => stepN c X (runN c X k)
theorem runN_steps (c : Cf) (X : List Ex) (k : Nat) : (runN c X k).steps = k := by
  induction k with
  | zero => rfl
  | succ k ih => show (runN c X k).steps + 1 = _; rw [ih]
theorem runN_ok (c : Cf) (X : List Ex) (k : Nat) (hk : k ≤ 400) : (runN c X k).Ok := by
  cases k with
  | zero => exact St.zero_ok
  | succ k => exact stepN_ok c X _ (by rw [runN_steps]; omega)
theorem score_zero (n : Nat → Nat) (w : Tab) (c : Nat) (h : ∀ b, w c b = 0) : scoreN n w c = 0 := by
  unfold scoreN
  have : ∀ k, sumTo (fun b => (n b : Int) * w c b) k = 0 := by
    intro k
    induction k with
    | zero => rfl
    | succ k ih => simp only [sumTo]; rw [ih, h]; omega
  exact this 32
/-- With the rate 0 the weights stay 0, and each row misses. -/
theorem still (c : Cf) (X : List Ex) (hr : c.rate = 0) (k : Nat) : (∀ a b, (runN c X k).w a b = 0) ∧ (∀ a b, (runN c X k).v a b = 0) := by
  induction k with
  | zero => exact ⟨fun _ _ => rfl, fun _ _ => rfl⟩
  | succ k ih =>
    have hv : ∀ a b, (runN c X (k + 1)).v a b = 0 := by
      intro a b
      show speedN c ((runN c X k).v a b) _ = 0
      rw [ih.2 a b]
      unfold speedN
      rw [hr]
      simp [clamp]
    refine ⟨fun a b => ?_, hv⟩
    show weightN c ((runN c X k).w a b) ((runN c X (k + 1)).v a b) = 0
    rw [ih.1 a b, hv a b]
    unfold weightN
    split <;> simp [clamp]
theorem still_miss (w : Tab) (x : Ex) (h : ∀ a b, w a b = 0) : missN w x = true := by
  unfold missN
  rw [score_zero _ _ _ (h _), score_zero _ _ _ (h _)]; decide
theorem still_all (c : Cf) (X : List Ex) (s : St) (h : ∀ a b, s.w a b = 0) : ∀ q, missedN c X s 0 q = q := by
  intro q
  induction q with
  | zero => rfl
  | succ q ih => simp only [missedN]; rw [ih, if_pos ⟨by omega, still_miss _ _ h⟩]

/-! ### the sum over the classes -/
def sum4 (f : Nat → Int) : Int := f 0 + f 1 + f 2 + f 3
theorem sum4_if (k : Nat) (hk : k < 4) (z : Int) : sum4 (fun a => if a = k then z else 0) = z := by
  have : k = 0 ∨ k = 1 ∨ k = 2 ∨ k = 3 := by omega
  rcases this with rfl | rfl | rfl | rfl <;> simp [sum4]
theorem add_sum4 (w : Tab) (x : Ex) (hx : x.1 < 4) (g : Tab) (b : Nat) : sum4 (fun a => addN w x g a b) = sum4 (fun a => g a b) := by
  have h1 := sum4_if x.1 hx (countsN x.2 b : Int)
  have h2 := sum4_if (rivalN w x) (bestN_lt _ _) (countsN x.2 b : Int)
  simp only [sum4] at h1 h2 ⊢
  simp only [addN]
  by_cases hm : missN w x = true
  · simp only [hm, if_true]
    generalize (if 0 = x.1 then (countsN x.2 b : Int) else 0) = p0 at *
    generalize (if 1 = x.1 then (countsN x.2 b : Int) else 0) = p1 at *
    generalize (if 2 = x.1 then (countsN x.2 b : Int) else 0) = p2 at *
    generalize (if 3 = x.1 then (countsN x.2 b : Int) else 0) = p3 at *
    generalize (if 0 = rivalN w x then (countsN x.2 b : Int) else 0) = q0 at *
    generalize (if 1 = rivalN w x then (countsN x.2 b : Int) else 0) = q1 at *
    generalize (if 2 = rivalN w x then (countsN x.2 b : Int) else 0) = q2 at *
    generalize (if 3 = rivalN w x then (countsN x.2 b : Int) else 0) = q3 at *
    omega
  · simp only [hm]; simp
theorem grad_sum4 (c : Cf) (X : List Ex) (hX : ∀ x ∈ X, x.1 < 4) (s : St) (k b : Nat) : sum4 (fun a => gradN c X s k a b) = 0 := by
  induction k with
  | zero => simp [sum4, gradN]
  | succ k ih =>
    simp only [gradN]
    rw [add_sum4 _ _ ?_ _ b]
    · exact ih
    · unfold rowN
      rw [List.getD_eq_getElem?_getD]
      cases h : X[drawN c X.length (s.steps * c.batch + k)]? with
      | none => simp
      | some x => simpa using hX x (List.mem_of_getElem? h)
/-- Without momentum and decay, with a rate that 64 divides: those of a bucket add up to 0 over the classes. -/
theorem even_sum (c : Cf) (X : List Ex) (hX : ∀ x ∈ X, x.1 < 4) (r : Nat) (hr : c.rate = 64 * r) (hr2 : c.rate ≤ 65536) (hm : c.mom = 0) (hd : c.decay = 0) (hb8 : c.batch ≤ 8) :
    ∀ k, k ≤ 30 → (∀ b, sum4 (fun a => (runN c X k).w a b) = 0) ∧ (∀ a b, -(57344 * k : Int) ≤ (runN c X k).w a b ∧ (runN c X k).w a b ≤ 57344 * k) := by
  intro k
  induction k with
  | zero => intro _; exact ⟨fun b => by simp [sum4, runN, St.zero], fun a b => by simp [runN, St.zero]⟩
  | succ k ih =>
    intro hk
    obtain ⟨i1, i2⟩ := ih (by omega)
    have hg : ∀ a b, -56 ≤ gradN c X (runN c X k) c.batch a b ∧ gradN c X (runN c X k) c.batch a b ≤ 56 := fun a b => by
      have := gradN_le c X (runN c X k) c.batch a b
      omega
    have hrr : r ≤ 1024 := by omega
    have hgr : ∀ a b, -57344 ≤ gradN c X (runN c X k) c.batch a b * r ∧ gradN c X (runN c X k) c.batch a b * r ≤ 57344 := fun a b => by
      obtain ⟨h1, h2⟩ := hg a b
      generalize gradN c X (runN c X k) c.batch a b = g at *
      have h0 : (0 : Int) ≤ r := by omega
      have e1 : g * r ≤ 56 * r := Int.mul_le_mul_of_nonneg_right h2 h0
      have e2 : -56 * (r : Int) ≤ g * r := Int.mul_le_mul_of_nonneg_right h1 h0
      omega
    have hw : ∀ a b, (runN c X (k + 1)).w a b = (runN c X k).w a b + gradN c X (runN c X k) c.batch a b * r := by
      intro a b
      obtain ⟨h1, h2⟩ := hgr a b
      obtain ⟨h3, h4⟩ := i2 a b
      show weightN c ((runN c X k).w a b) (speedN c ((runN c X k).v a b) (gradN c X (runN c X k) c.batch a b)) = _
      have hs : speedN c ((runN c X k).v a b) (gradN c X (runN c X k) c.batch a b) = 64 * (gradN c X (runN c X k) c.batch a b * r) := by
        unfold speedN
        have e : gradN c X (runN c X k) c.batch a b * ((64 * r : Nat) : Int) = 64 * (gradN c X (runN c X k) c.batch a b * r) := by
          rw [Int.natCast_mul, ← Int.mul_assoc, Int.mul_comm _ ((64 : Nat) : Int), Int.mul_assoc]; rfl
        rw [hm, hr, e]
        generalize gradN c X (runN c X k) c.batch a b * (r : Int) = z at *
        simp only [Int.natCast_zero, Int.mul_zero]
        rw [clamp_same (by omega) (by omega)]; omega
      rw [hs]
      unfold weightN
      rw [hd]
      generalize gradN c X (runN c X k) c.batch a b * (r : Int) = z at *
      rw [show 64 * z / 64 = z by omega]
      simp only [Nat.lt_irrefl, if_false]
      rw [clamp_same (by omega) (by omega)]; omega
    refine ⟨fun b => ?_, fun a b => ?_⟩
    · have hs := i1 b
      have hg0 := grad_sum4 c X hX (runN c X k) c.batch b
      simp only [sum4] at hs hg0 ⊢
      rw [hw, hw, hw, hw]
      have : (gradN c X (runN c X k) c.batch 0 b + gradN c X (runN c X k) c.batch 1 b + gradN c X (runN c X k) c.batch 2 b + gradN c X (runN c X k) c.batch 3 b) * (r : Int) = 0 := by rw [hg0]; simp
      rw [Int.add_mul, Int.add_mul, Int.add_mul] at this
      omega
    · have h1 := hgr a b
      have h2 := i2 a b
      rw [hw]
      omega
end Go.Proofs.YtfpodnleimhohabGreatDoor

/-
  WALKS: the program's Step.
-/
namespace Go.Proofs.YtfpodnleimhohabGreatDoor
open Go.RowKit
set_option linter.unusedVariables false
variable {mk : ByteArray}

/-- The workers' answer, the first i of them. -/
def workTo (cf : Cf) (X : List Ex) (st : St) (W i : Nat) : List Nat := (List.range i).map (workN cf X st W)
theorem workTo_snoc (cf : Cf) (X : List Ex) (st : St) (W i : Nat) : workTo cf X st W (i + 1) = workTo cf X st W i ++ [workN cf X st W i] := by
  unfold workTo
  rw [List.range_succ, List.map_append]; rfl
theorem pr_steps (cf : Cf) (lv : Value) (sp sp' : Nat) (l : List Value) : (prHead cf mk lv sp ++ l).set 7 (.int .i64 sp') = prHead cf mk lv sp' ++ l := by
  rw [List.set_append_left _ _ (by simp [prHead])]; rfl

set_option maxRecDepth 100000 in
theorem progStep_workers (g : Nat) (k : Int) (hk : ¬ (1 ≤ k ∧ k ≤ 8)) (w : World) :
    Calls Tryz.prog 18 #[.pointer (some ⟨g, 0, none⟩), .int .i64 k] w fun e w' => e = .returned (.tuple #[.slice none 0 0, .int .i64 6]) ∧ w' = w := by
  go_enter Tryz.func18, Tryz.ntmps18
  by_cases h : k < 1
  · go_wp2
    go_ret2
    exact ⟨rfl, rfl⟩
  · go_wp2
    go_ret2
    exact ⟨rfl, rfl⟩
set_option maxRecDepth 100000 in
theorem progStep_limit (g : Nat) (cf : Cf) (lv : Value) (st : St) (h4 : st.steps = 400) (k : Nat) (hk : 1 ≤ k ∧ k ≤ 8) (w : World) (hR : ProgRun w g cf mk lv st) :
    Calls Tryz.prog 18 #[.pointer (some ⟨g, 0, none⟩), .int .i64 k] w fun e w' => e = .returned (.tuple #[.slice none 0 0, .int .i64 7]) ∧ w' = w := by
  have d6 := (CellsAt.cell hR 7).trans (pr_head cf lv st (by decide))
  simp only [prHead, List.getElem?_cons_zero, List.getElem?_cons_succ] at d6
  rw [h4] at d6
  have HR : Hid _ := hR
  clear hR
  go_enter Tryz.func18, Tryz.ntmps18
  go_wp2
  go_ret2
  exact ⟨rfl, rfl⟩
/-- An operation that may be taken first, its slot said outright. -/
theorem takeTo {P : Program} {md : Region.Mode} {ops : Array Oper} {Q : Exit → Act → World → Prop} {S : World → Prop} {i : Nat} {oi : Oper} {v : Value} {fuel : Nat} {listed : Array Bool} {a : Act} {w : World} (d : Option Nat) (hi : ops[i]? = some oi)
    (hs : Region.noSelect ops = true) (hf : Region.free md ops listed i = true) (hr : (Region.ready md ops listed).contains i = true)
    (hQ : ∀ c a w, Q (.panic c) (a.put oi.dst v) w → Q (.panic c) a w) (hd : oi.dst = d) (hy : YieldsIf P ops S oi v a) (hS : S w)
    (h : wpAnyH P md ops Q S fuel (listed.setIfInBounds i true) (a.put d v) w) : wpAnyH P md ops Q S (fuel + 1) listed a w :=
  wpAnyH_take hi hs hf hr hQ hy hS (by rw [hd]; exact h)
theorem zero_pull : Tryz.zeroCells112 = (tab 128 fun _ => 0).toArray := by kernel_rfl

set_option maxRecDepth 100000 in
set_option maxHeartbeats 8000000 in
theorem progStep_any (g : Nat) (cf : Cf) (hcf : cf.Ok) (aX : Option Addr) (cX bX : Nat) (X : List Ex) (hX : ∀ x ∈ X, x.1 < 4 ∧ x.2.length ≤ 200) (hn1 : 1 ≤ X.length) (hn2 : X.length ≤ 600) (st : St) (hst : st.Ok) (h4 : st.steps < 400) (k : Nat) (hk : 1 ≤ k ∧ k ≤ 8) (w : World)
    (hR : ProgRun w g cf mk (.slice aX X.length cX) st) (hO : w.ownsRow bX 97 2 (.slice aX X.length cX) X.length (exNsCells X)) :
    Calls Tryz.prog 18 #[.pointer (some ⟨g, 0, none⟩), .int .i64 k] w fun e w' => ∃ v, e = .returned (.tuple #[v, .int .i64 0]) ∧ w'.ownsRow w.heap.size 3 1 v k (intCells (workTo cf X st k k)) ∧ ProgRun w' g cf mk (.slice aX X.length cX) (stepN cf X st) ∧ Spared w w' (fun j => j = g) := by
  obtain ⟨i0, hi, hz0, hz1, hz2⟩ := info_parts info_int
  have hgl := CellsAt.lt hR
  have hb8 := hcf.batch8
  have hb1 := hcf.batch1
  have d1 := (CellsAt.cell hR 1).trans (pr_head cf (.slice aX X.length cX) st (by decide))
  have d6 := (CellsAt.cell hR 7).trans (pr_head cf (.slice aX X.length cX) st (by decide))
  simp only [prHead, List.getElem?_cons_zero, List.getElem?_cons_succ] at d1 d6
  have HR : Hid (ProgRun w g cf mk (.slice aX X.length cX) st) := hR
  have HO : Hid (w.ownsRow bX 97 2 (.slice aX X.length cX) X.length (exNsCells X)) := hO
  have HX : Hid _ := hX
  have Hgx : Hid (∀ j, aX = some ⟨j, 0, none⟩ → j ≠ w.heap.size) := fun j hj => by
    obtain ⟨_, _, hv, _, _, hrd⟩ := own_read hO
    simp only [Value.slice.injEq, true_and] at hv
    obtain ⟨rfl, rfl⟩ := hv
    obtain ⟨j', hj', _, hl, _⟩ := hrd (by omega)
    rw [hj] at hj'
    simp at hj'
    omega
  obtain ⟨hk1, hk8⟩ := hk
  clear hR hO hX
  have HBt : Hid (∀ i, workN cf X st k i = missedN cf X st (i * cf.batch / k) ((i + 1) * cf.batch / k)) := fun i => rfl
  have HQb : Hid (∀ i, i ≤ k → i * cf.batch / k ≤ cf.batch) := fun i hi => Nat.div_le_of_le_mul (Nat.mul_le_mul_right _ hi)
  have HQe : Hid (k * cf.batch / k = cf.batch) := Nat.mul_div_cancel_left _ (by omega)
  have hk0 : ((k : Int) == 0) = false := beq_eq_false_iff_ne.2 (by omega)
  have hwl : ∀ i, i < k → workN cf X st k i ≤ 8 := fun i hi => Nat.le_trans (workN_le cf X st k i) (Nat.le_trans (Nat.sub_le _ _) (Nat.le_trans (HQb.out (i + 1) (by omega)) hb8))
  have HWl : Hid _ := hwl
  clear hwl
  go_enter Tryz.func18, Tryz.ntmps18
  go_wp2_with fail
  obtain ⟨w0, Hw0⟩ : ∃ w0, Hid (w.alloc (.cells Tryz.zeroCells112 112) = w0) := ⟨_, (rfl : _ = _)⟩
  have HP0 : Hid (CellsAt w0 w.heap.size 112 (tab 128 (flat (gradN cf X st (0 * cf.batch / k))))) := by
    show CellsAt _ _ _ _
    rw [← Hw0.out, show 0 * cf.batch / k = 0 by simp]
    exact CellsAt.new w _ _ _ zero_pull rfl
  have HB0 : Hid (Below w.heap.size w w0) := by rw [← Hw0.out]; exact (Below.refl _ _).alloc (Nat.le_refl _) _
  rw [Hw0.out]
  clear Hw0
  generalize decide ((k : Int) < 1) = t1
  generalize decide ((8 : Int) < (k : Int)) = t2
  generalize decide ((400 : Int) ≤ (st.steps : Int)) = t3
  obtain ⟨B, HB⟩ : ∃ B, Hid (cf.batch = B) := ⟨_, (rfl : _ = _)⟩
  rw [HB.out] at hb8 hb1 d1 HBt HQb HQe HP0 ⊢
  go_loopg [8, 9] k (fun gk v iv wr => ∃ i : Nat, gk + i = k ∧ iv = .int .i64 i ∧ wr.ownsRow w.heap.size 3 1 v i (intCells (workTo cf X st k i)) ∧ Hid (CellsAt wr w.heap.size 112 (tab 128 (flat (gradN cf X st (i * B / k)))) ∧ Below w.heap.size w wr))
  case atStart => exact ⟨0, by omega, rfl, World.ownsRow_nil _ _ _ _, ⟨HP0.out, HB0.out⟩⟩
  case round =>
    obtain ⟨i, hgi, rfl, hown, HT⟩ := hrel
    clear HP0 HB0
    by_cases hlt : i < k
    · obtain ⟨p, Hp⟩ : ∃ p, Hid (i * B = p) := ⟨_, (rfl : _ = _)⟩
      obtain ⟨p', Hp'⟩ : ∃ p, Hid ((i + 1) * B = p) := ⟨_, (rfl : _ = _)⟩
      obtain ⟨lo, Hlo⟩ : ∃ q, Hid (p / k = q) := ⟨_, (rfl : _ = _)⟩
      obtain ⟨hi', Hhi⟩ : ∃ q, Hid (p' / k = q) := ⟨_, (rfl : _ = _)⟩
      have hp1 : (i : Int) * (B : Int) = (p : Int) := by rw [← Hp.out, Int.natCast_mul]
      have hp2 : ((i : Int) + 1) * (B : Int) = (p' : Int) := by rw [← Hp'.out, Int.natCast_mul]; rfl
      have hpb : p ≤ 64 := by rw [← Hp.out]; exact Nat.le_trans (Nat.mul_le_mul (show i ≤ 8 by omega) hb8) (by decide)
      have hpb' : p' ≤ 64 := by rw [← Hp'.out]; exact Nat.le_trans (Nat.mul_le_mul (show i + 1 ≤ 8 by omega) hb8) (by decide)
      have hl1 : (p : Int) / (k : Int) = (lo : Int) := by rw [← Hlo.out, Int.natCast_ediv]
      have hl2 : (p' : Int) / (k : Int) = (hi' : Int) := by rw [← Hhi.out, Int.natCast_ediv]
      have hl3 : (p : Int).tdiv (k : Int) = (lo : Int) := by rw [Int.tdiv_eq_ediv_of_nonneg (by omega)]; exact hl1
      have hl4 : (p' : Int).tdiv (k : Int) = (hi' : Int) := by rw [Int.tdiv_eq_ediv_of_nonneg (by omega)]; exact hl2
      have hlob : lo ≤ hi' := by rw [← Hlo.out, ← Hhi.out, ← Hp.out, ← Hp'.out]; exact part_le B k i
      have hhib : hi' ≤ B := by
        have := HQb.out (i + 1) (by omega)
        rw [Hp'.out, Hhi.out] at this
        exact this
      have HWk : Hid (workN cf X st k i = missedN cf X st lo hi') := by
        show _ = _
        rw [HBt.out i, Hp.out, Hlo.out, Hp'.out, Hhi.out]
      have HSn : Hid _ := workTo_snoc cf X st k i
      have hwb := HWl.out i hlt
      rw [HWk.out] at HSn hwb
      have HT1 : Hid (CellsAt wr.drew w.heap.size 112 (tab 128 (flat (gradN cf X st lo)))) := by
        have h := HT.out.1
        rw [Hp.out, Hlo.out] at h
        exact h
      have HR1 : Hid (ProgRun wr.drew g cf mk (.slice aX X.length cX) st) := CellsAt.kept HR.out HT.out.2.drew hgl
      have HO1 : Hid (wr.drew.ownsRow bX 97 2 (.slice aX X.length cX) X.length (exNsCells X)) := ownsRow_below HO.out HT.out.2.drew
      have hne : w.heap.size ≠ g := by omega
      have HNe : Hid (∀ j, u8.ownBlock = some j → ¬ j = w.heap.size) := fun j hj e => by
        subst e
        exact own_ne hown HT.out.1 (by decide) hj
      have e1 := (HT.out.2.cell (p := ⟨g, 1, none⟩) hgl).trans d1
      have hws := HT.out.2.size
      have HK : Hid (∀ w', Spared wr w' (fun j => j = w.heap.size) → w'.cell? ⟨g, 1, none⟩ = some (.int .u8 B)) := fun w' hs => (World.cell?_of_block (w := wr) (a := ⟨g, 1, none⟩) (hs.block g (by omega) (by omega))).trans e1
      have HC : Hid (Calls Tryz.prog 34 #[.pointer (some ⟨g, 0, none⟩), .int .i64 lo, .int .i64 hi', .pointer (some ⟨w.heap.size, 0, none⟩)] wr.drew fun e w' => e = .returned (.int .i64 (missedN cf X st lo hi' : Nat)) ∧ PullAt wr.drew w' w.heap.size (flat (gradN cf X st hi'))) := by
        exact rows_any g cf hcf aX cX bX X HX.out hn1 hn2 st hst h4 lo hi' hlob (by rw [HB.out]; exact hhib) w.heap.size hne _ HR1.out HO1.out HT1.out Hgx.out
      have HDL : Hid ((p : Int) / (k : Int) = (lo : Int)) := hl1
      have HDH : Hid ((p' : Int) / (k : Int) = (hi' : Int)) := hl2
      have HWH : Hid (IntKind.i64.wrap (hi' : Int) = (hi' : Int)) := wrap_small _ (by omega) (by omega)
      have HWO : Hid (IntKind.i64.wrap (lo : Int) = (lo : Int)) := wrap_small _ (by omega) (by omega)
      have HQi : Hid ((i + 1) * B / k = hi') := by show _ = _; rw [Hp'.out, Hhi.out]
      clear hl1 hl2 HQb HQe HBt Hp Hp' Hlo Hhi HR1 HO1 HT1
      go_wp2_with fail
      go_region_held_law (fun w' => w'.cell? ⟨g, 1, none⟩ = some (.int .u8 B)) (first | exact HK.out _ ⟨hP3.s.os, hP3.s.tape, hP3.s.output, hP3.s.size, hP3.s.block⟩ | go_keep) (first | (go_at_call 34; (try rw [HWH.out]); (try rw [HWO.out]); (try rw [HDL.out]); (try rw [HDH.out]); refine HC.out.mono ?_; rintro e w3 ⟨rfl, hP3⟩))
      all_goals (
        have HS3 : Hid (Spared wr w3 (fun j => j = w.heap.size)) := ⟨hP3.s.os, hP3.s.tape, hP3.s.output, hP3.s.size, hP3.s.block⟩
        have HP3 : Hid (CellsAt w3 w.heap.size 112 (tab 128 (flat (gradN cf X st hi')))) := hP3.P
        have hb3 : Below w.heap.size w w3 := HT.out.2.trans (HS3.out.below (fun _ h => by omega) hws)
        have ho3 : w3.ownsRow w.heap.size 3 1 u8 i (intCells (workTo cf X st k i)) := ownsRow_spared hown HS3.out HNe.out
        have hz3 := hb3.size
        clear hP3 HK e1 HC HWH HWO HDL HDH HNe
        generalize missedN cf X st lo hi' = mw at *
        go_wp2_with (at_builtin; refine wpList_append_own _ rfl (.tmp 46) (.tmp 48) 73 rfl w.heap.size 3 i0 (.int .i64 0) 1 8 Tryz.underlying73 hi hz0 hz1 hz2 rfl (by decide) _ _ _ rfl (ho3.alloc _) ⟨w3.heap.size, 0, none⟩ 1 1 [.int .i64 mw] rfl rfl (news_at _ _ rfl _ _ _ rfl) (oneCell_nums _ rfl) (by unfold maxLen; omega) (by omega) (by simp; omega) ?_; intro v' w6 ho6 hgr hxx; clear hxx)
        have HP6 : Hid (CellsAt w6 w.heap.size 112 (tab 128 (flat (gradN cf X st ((i + 1) * B / k)))) ∧ Below w.heap.size w w6) := by
          refine ⟨?_, (hb3.alloc hz3 _).grown hgr (by simp; omega) (fun j hj => (ho3.lt j hj).1)⟩
          rw [HQi.out]
          exact CellsAt.grown (CellsAt.alloc HP3.out _) hgr (own_ne ho3 HP3.out (by decide))
        go_roundg (gk - 1)
        case measure => omega
        case rel => exact ⟨i + 1, by omega, by go_num, by rw [HSn.out, intCells_snoc]; exact ho6, HP6⟩)
    · obtain rfl : i = k := by omega
      have HPk : Hid (CellsAt wr w.heap.size 112 (tab 128 (flat (gradN cf X st B)))) := by
        have h := HT.out.1
        rw [HQe.out] at h
        exact h
      have hb3 := HT.out.2
      have hz3 := hb3.size
      have HR3 : Hid (LrnAt wr g 67 (prHead cf mk (.slice aX X.length cX) st.steps) [] st) := CellsAt.kept HR.out hb3 hgl
      have HR3d : Hid (LrnAt wr.drew g 67 (prHead cf mk (.slice aX X.length cX) st.steps) [] st) := HR3.out
      have HGb : Hid (∀ c b, -56 ≤ gradN cf X st B c b ∧ gradN cf X st B c b ≤ 56) := fun c b => by
        have := gradN_le cf X st B c b
        omega
      have HStp : Hid ((⟨st.steps, fun a b => weightN cf (st.w a b) (speedN cf (st.v a b) (gradN cf X st B a b)), fun a b => speedN cf (st.v a b) (gradN cf X st B a b)⟩ : St) = ⟨st.steps, (stepN cf X st).w, (stepN cf X st).v⟩) := by
        show _ = _
        rw [← HB.out]; rfl
      obtain ⟨pc, Hpc⟩ : ∃ pc, Hid (tab 128 (flat (gradN cf X st B)) = pc) := ⟨_, (rfl : _ = _)⟩
      have HMv : Hid (Calls Tryz.prog 35 #[.pointer (some ⟨g, 8, none⟩), .agg pc.toArray, .agg #[.int .u64 cf.seed, .int .u8 cf.batch, .int .i32 cf.rate, .int .i32 cf.mom, .int .u8 cf.decay]] wr.drew fun e w' => e = .returned (.tuple #[]) ∧ LrnAt w' g 67 (prHead cf mk (.slice aX X.length cX) st.steps) [] ⟨st.steps, (stepN cf X st).w, (stepN cf X st).v⟩ ∧ Spared wr.drew w' (fun j => j = g)) := by
        have h := move_any g 67 (prHead cf mk (.slice aX X.length cX) st.steps) [] 8 rfl cf hcf st hst (gradN cf X st B) HGb.out wr.drew HR3d.out
        rw [HStp.out, Hpc.out] at h
        exact h
      have HpL : Hid (pc.length = 128) := by show _ = _; rw [← Hpc.out]; exact tab_length _ _
      have hpi : (Tryz.prog.info? 112).map (·.size) = some pc.length := by rw [HpL.out]; exact info_pull
      have hpu := Tryz.underlying112
      have HRg : Hid (wr.rangeAt w.heap.size 0 pc) := by
        have h := HPk.out
        rw [Hpc.out] at h
        exact CellsAt.range h
      have hcs : ∀ (w' : World) (st' : St), LrnAt w' g 67 (prHead cf mk (.slice aX X.length cX) st.steps) [] st' → w'.cell? ⟨g, 0, none⟩ = some (.int .u64 cf.seed) ∧ w'.cell? ⟨g, 1, none⟩ = some (.int .u8 cf.batch) ∧ w'.cell? ⟨g, 2, none⟩ = some (.int .i32 cf.rate) ∧ w'.cell? ⟨g, 3, none⟩ = some (.int .i32 cf.mom) ∧ w'.cell? ⟨g, 4, none⟩ = some (.int .u8 cf.decay) ∧ w'.cell? ⟨g, 7, none⟩ = some (.int .i64 st.steps) := fun w' st' h => ⟨CellsAt.cell h 0, CellsAt.cell h 1, CellsAt.cell h 2, CellsAt.cell h 3, CellsAt.cell h 4, CellsAt.cell h 7⟩
      have HCS : Hid _ := hcs
      obtain ⟨e0, e1, e2, e3, e4, e6⟩ := hcs wr st HR3.out
      have hRg : wr.rangeAt w.heap.size 0 pc := HRg.out
      clear hcs
      go_wp2_with fail
      have HLw : Hid (∀ w', Spared wr w' (fun j => j = g) → w'.rangeAt w.heap.size 0 pc) := fun w' hs j v hv => by
        have hlt : w.heap.size < wr.heap.size := CellsAt.lt HPk.out
        exact (World.cell?_of_block (w := wr) (a := ⟨w.heap.size, 0 + j, none⟩) (hs.block _ hlt (fun e => by have e' : w.heap.size = g := e; omega))).trans (HRg.out j v hv)
      have HK2 : Hid (∀ w', LrnAt w' g 67 (prHead cf mk (.slice aX X.length cX) st.steps) [] ⟨st.steps, (stepN cf X st).w, (stepN cf X st).v⟩ → Spared wr w' (fun j => j = g) → (fun w' => w'.rangeAt w.heap.size 0 pc ∧ w'.cell? ⟨g, 0, none⟩ = some (.int .u64 cf.seed) ∧ w'.cell? ⟨g, 1, none⟩ = some (.int .u8 cf.batch) ∧ w'.cell? ⟨g, 2, none⟩ = some (.int .i32 cf.rate) ∧ w'.cell? ⟨g, 3, none⟩ = some (.int .i32 cf.mom) ∧ w'.cell? ⟨g, 4, none⟩ = some (.int .u8 cf.decay)) w') := fun w' hl hs => by
        obtain ⟨f0, f1, f2, f3, f4, _⟩ := HCS.out w' _ hl
        exact ⟨HLw.out _ hs, f0, f1, f2, f3, f4⟩
      have HK1 : Hid ((fun w' => w'.rangeAt w.heap.size 0 pc ∧ w'.cell? ⟨g, 0, none⟩ = some (.int .u64 cf.seed) ∧ w'.cell? ⟨g, 1, none⟩ = some (.int .u8 cf.batch) ∧ w'.cell? ⟨g, 2, none⟩ = some (.int .i32 cf.rate) ∧ w'.cell? ⟨g, 3, none⟩ = some (.int .i32 cf.mom) ∧ w'.cell? ⟨g, 4, none⟩ = some (.int .u8 cf.decay)) wr.drew) := ⟨HRg.out, e0, e1, e2, e3, e4⟩
      have HPi : Hid ((Tryz.prog.info? 112).map (·.size) = some pc.length) := hpi
      clear hRg hpi hpu
      refine wp_region_held_drew (S := (fun w' => w'.rangeAt w.heap.size 0 pc ∧ w'.cell? ⟨g, 0, none⟩ = some (.int .u64 cf.seed) ∧ w'.cell? ⟨g, 1, none⟩ = some (.int .u8 cf.batch) ∧ w'.cell? ⟨g, 2, none⟩ = some (.int .i32 cf.rate) ∧ w'.cell? ⟨g, 3, none⟩ = some (.int .i32 cf.mom) ∧ w'.cell? ⟨g, 4, none⟩ = some (.int .u8 cf.decay))) (by kernel_rfl) HK1.out (fun hHeld => ?_)
      refine takeTo (i := 3) (v := .agg pc.toArray) (some 53) rfl (by kernel_rfl) (by kernel_rfl) (by kernel_rfl) (fun _ _ _ h => h) rfl (yieldsIf_load_mid (by rfl) 112 (.tmp 7) rfl w.heap.size 0 rfl pc _ (fun w' h => h.1) Tryz.underlying112 rfl HPi.out) hHeld ?_
      simp only [Act.put, List.setIfInBounds_toArray, List.set_cons_zero, List.set_cons_succ]
      refine takeTo (i := 0) (v := (.pointer (some ⟨g, 0, none⟩))) (some 50) rfl (by kernel_rfl) (by kernel_rfl) (by kernel_rfl) (fun _ _ _ h => h) rfl (Or.inl ⟨by rfl, ?_⟩) hHeld ?_
      · intro w' hSw
        (try dsimp only at hSw)
        go_simp
      simp only [Act.put, List.setIfInBounds_toArray, List.set_cons_zero, List.set_cons_succ]
      refine takeTo (i := 1) (v := (.pointer (some ⟨g, 0, none⟩))) (some 51) rfl (by kernel_rfl) (by kernel_rfl) (by kernel_rfl) (fun _ _ _ h => h) rfl (Or.inl ⟨by rfl, ?_⟩) hHeld ?_
      · intro w' hSw
        (try dsimp only at hSw)
        go_simp
      simp only [Act.put, List.setIfInBounds_toArray, List.set_cons_zero, List.set_cons_succ]
      refine takeTo (i := 2) (v := (.pointer (some ⟨g, 8, none⟩))) (some 52) rfl (by kernel_rfl) (by kernel_rfl) (by kernel_rfl) (fun _ _ _ h => h) rfl (Or.inl ⟨by rfl, ?_⟩) hHeld ?_
      · intro w' hSw
        (try dsimp only at hSw)
        go_simp
      simp only [Act.put, List.setIfInBounds_toArray, List.set_cons_zero, List.set_cons_succ]
      refine takeTo (i := 4) (v := (.pointer (some ⟨g, 0, none⟩))) (some 54) rfl (by kernel_rfl) (by kernel_rfl) (by kernel_rfl) (fun _ _ _ h => h) rfl (Or.inl ⟨by rfl, ?_⟩) hHeld ?_
      · intro w' hSw
        (try dsimp only at hSw)
        go_simp
      simp only [Act.put, List.setIfInBounds_toArray, List.set_cons_zero, List.set_cons_succ]
      refine takeTo (i := 5) (v := (.pointer (some ⟨g, 0, none⟩))) (some 55) rfl (by kernel_rfl) (by kernel_rfl) (by kernel_rfl) (fun _ _ _ h => h) rfl (Or.inl ⟨by rfl, ?_⟩) hHeld ?_
      · intro w' hSw
        (try dsimp only at hSw)
        go_simp
      simp only [Act.put, List.setIfInBounds_toArray, List.set_cons_zero, List.set_cons_succ]
      refine takeTo (i := 6) (v := (.pointer (some ⟨g, 0, none⟩))) (some 56) rfl (by kernel_rfl) (by kernel_rfl) (by kernel_rfl) (fun _ _ _ h => h) rfl (Or.inl ⟨by rfl, ?_⟩) hHeld ?_
      · intro w' hSw
        (try dsimp only at hSw)
        go_simp
      simp only [Act.put, List.setIfInBounds_toArray, List.set_cons_zero, List.set_cons_succ]
      refine takeTo (i := 7) (v := (.agg #[.int .u64 cf.seed, .int .u8 cf.batch, .int .i32 cf.rate, .int .i32 cf.mom, .int .u8 cf.decay])) (some 57) rfl (by kernel_rfl) (by kernel_rfl) (by kernel_rfl) (fun _ _ _ h => h) rfl (Or.inl ⟨by rfl, ?_⟩) hHeld ?_
      · intro w' hSw
        (try dsimp only at hSw)
        go_simp
      simp only [Act.put, List.setIfInBounds_toArray, List.set_cons_zero, List.set_cons_succ]
      refine wpAnyH_ready (rs := [8]) (by kernel_rfl) (by simp) ?_
      refine AllReadyH.cons rfl (fun K hK => ?_) AllReadyH.nil
      go_simp
      go_at_call 35
      refine HMv.out.mono ?_
      rintro e w5 ⟨rfl, hL5, hS5⟩
      refine hK.out _ _ (HK2.out _ hL5 ⟨hS5.os, hS5.tape, hS5.output, hS5.size, hS5.block⟩) (fun hHeld5 => ?_)
      clear hK K hHeld hHeld5
      refine wpAnyH_done (by kernel_rfl) ?_ _
      have c6 := (HCS.out w5 _ hL5).2.2.2.2.2
      have f6 : w5.frozen? ⟨g, 7, none⟩ = false := CellsAt.frozen hL5 7
      have HL6 : Hid (ProgRun (w5.setCell ⟨g, 7, none⟩ (.int .i64 ((st.steps : Int) + 1))) g cf mk (.slice aX X.length cX) (stepN cf X st)) := by
        have h := CellsAt.set hL5 7 (.int .i64 ((st.steps + 1 : Nat) : Int))
        rw [pr_steps] at h
        rw [show ((st.steps + 1 : Nat) : Int) = (st.steps : Int) + 1 from rfl] at h
        exact h
      have HS6 : Hid (Spared w (w5.setCell ⟨g, 7, none⟩ (.int .i64 ((st.steps : Int) + 1))) (fun j => j = g)) :=
        ((Spared.of_below hb3 (fun j => j = g)).trans (T := fun j => j = g) ⟨hS5.os, hS5.tape, hS5.output, hS5.size, hS5.block⟩ (fun _ _ h => h)).trans (Spared.of_set w5 g 7 _) (fun _ _ h => h)
      have HO6 : Hid ((w5.setCell ⟨g, 7, none⟩ (.int .i64 ((st.steps : Int) + 1))).ownsRow w.heap.size 3 1 u8 i (intCells (workTo cf X st i i))) := by
        have hne : ∀ j, u8.ownBlock = some j → ¬ j = g := fun j hj e => by
          have := (hown.lt j hj).1
          omega
        have h := ownsRow_spared (S := fun j => j = g) hown ⟨hS5.os, hS5.tape, hS5.output, hS5.size, hS5.block⟩ hne
        exact ownsRow_spared h (Spared.of_set w5 g 7 _) hne
      clear hL5 hS5 e0 e1 e2 e3 e4 e6 HCS HK1 HK2 HLw HRg HPk HMv hown HT HR3 HR3d
      generalize st.steps = sp at *
      go_wp2
      go_ret2
      exact ⟨u8, rfl, HO6.out, HL6.out, HS6.out⟩
end Go.Proofs.YtfpodnleimhohabGreatDoor
