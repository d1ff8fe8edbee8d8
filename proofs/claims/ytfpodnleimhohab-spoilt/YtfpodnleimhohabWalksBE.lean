/-
  WALKS: the program's weights are turned.
-/
import Derived.Test.YtfpodnleimhohabWalksBC
namespace Go.Proofs.Ytfpodnleimhohab
open Go.RowKit
set_option linter.unusedVariables false

theorem lrn_set_w {hd tl : List Value} (sp : Nat) (tw tv : Tab) {c b : Nat} (hc : c < 4) (hb : b < 32) (z : Int) : (hd ++ (lrnCells ⟨sp, tw, tv⟩ ++ tl)).set (hd.length + c * 32 + b) (.int .i32 z) = hd ++ (lrnCells ⟨sp, updT tw c b z, tv⟩ ++ tl) := by
  rw [List.set_append_right _ _ (by omega), List.set_append_left _ _ (by rw [lrnCells_length]; omega)]
  unfold lrnCells
  rw [List.set_append_left _ _ (by rw [tabw_length]; omega), show hd.length + c * 32 + b - hd.length = c * 32 + b by omega, tabw_set, flat_upd _ _ _ _ hb]
theorem lrn_set_v {hd tl : List Value} (sp : Nat) (tw tv : Tab) {c b : Nat} (hc : c < 4) (hb : b < 32) (z : Int) : (hd ++ (lrnCells ⟨sp, tw, tv⟩ ++ tl)).set (hd.length + 128 + c * 32 + b) (.int .i64 z) = hd ++ (lrnCells ⟨sp, tw, updT tv c b z⟩ ++ tl) := by
  rw [List.set_append_right _ _ (by omega), List.set_append_left _ _ (by rw [lrnCells_length]; omega)]
  unfold lrnCells
  rw [List.set_append_right _ _ (by rw [tabw_length]; omega), tabw_length, show hd.length + 128 + c * 32 + b - hd.length - 128 = c * 32 + b by omega, tab_set, flat_upd _ _ _ _ hb]
theorem lrn_tabs (sp sp' : Nat) {tw tv tw' tv' : Tab} (h1 : ∀ c b, c < 4 → b < 32 → tw c b = tw' c b) (h2 : ∀ c b, c < 4 → b < 32 → tv c b = tv' c b) : lrnCells ⟨sp, tw, tv⟩ = lrnCells ⟨sp', tw', tv'⟩ := by
  unfold lrnCells
  have e1 : tabw 128 (flat tw) = tabw 128 (flat tw') := tabw_congr fun i hi => h1 _ _ (by omega) (Nat.mod_lt _ (by decide))
  have e2 : tab 128 (flat tv) = tab 128 (flat tv') := tab_congr fun i hi => h2 _ _ (by omega) (Nat.mod_lt _ (by decide))
  simp only [e1, e2]
/-- Memory while the weights are turned. -/
structure MovAt (w wr : World) (g : Nat) (t : TypeId) (rc pc fc : List Value) : Prop where
  r : CellsAt wr g t rc
  p : CellsAt wr w.heap.size 85 pc
  c : CellsAt wr (w.heap.size + 1) 24 fc
  s : Spared w wr (fun j => j = g)
theorem MovAt.set {w wr : World} {g : Nat} {t : TypeId} {rc pc fc : List Value} (h : MovAt w wr g t rc pc fc) (hg : g < w.heap.size) (i : Nat) (u : Value) : MovAt w (wr.setCell ⟨g, i, none⟩ u) g t (rc.set i u) pc fc :=
  ⟨h.r.set i u, h.p.other (by omega) _ _, h.c.other (by omega) _ _, h.s.trans (Spared.of_set wr g i u) (fun _ _ h => h)⟩
theorem MovAt.later {w wr wr' : World} {g : Nat} {t : TypeId} {rc pc fc : List Value} (h : MovAt w wr g t rc pc fc) (hb : Below wr.heap.size wr wr') : MovAt w wr' g t rc pc fc :=
  ⟨h.r.later hb, h.p.later hb, h.c.later hb, h.s.trans (Spared.of_below hb (fun k => k = g)) (fun _ _ h => h)⟩
theorem MovAt.drewN {w wr : World} {g : Nat} {t : TypeId} {rc pc fc : List Value} (h : MovAt w wr g t rc pc fc) (n : Nat) : MovAt w (wr.drewN n) g t rc pc fc := ⟨h.r, h.p, h.c, ⟨h.s.os, h.s.tape, h.s.output, h.s.size, h.s.block⟩⟩
theorem MovAt.drew {w wr : World} {g : Nat} {t : TypeId} {rc pc fc : List Value} (h : MovAt w wr g t rc pc fc) : MovAt w wr.drew g t rc pc fc := ⟨h.r, h.p, h.c, ⟨h.s.os, h.s.tape, h.s.output, h.s.size, h.s.block⟩⟩
theorem MovAt.to {w wr : World} {g : Nat} {t : TypeId} {rc rc' pc fc : List Value} (h : MovAt w wr g t rc pc fc) (e : rc = rc') : MovAt w wr g t rc' pc fc := e ▸ h
theorem info_pull : (Try.prog.info? 85).map (·.size) = some 128 := by kernel_rfl

set_option maxRecDepth 100000 in
set_option maxHeartbeats 4000000 in
theorem move_any (g : Nat) (t : TypeId) (hd tl : List Value) (o : Nat) (ho : hd.length = o) (cf : Cf) (hcf : cf.Ok) (st : St) (hst : st.Ok) (G : Tab) (hG : ∀ c b, -56 ≤ G c b ∧ G c b ≤ 56) (w : World) (hR : LrnAt w g t hd tl st) :
    Calls Try.prog 31 #[.pointer (some ⟨g, o, none⟩), .agg (tab 128 (flat G)).toArray, .agg (cfCells cf).toArray] w fun e w' => e = .returned (.tuple #[]) ∧ LrnAt w' g t hd tl ⟨st.steps, fun a b => weightN cf (st.w a b) (speedN cf (st.v a b) (G a b)), fun a b => speedN cf (st.v a b) (G a b)⟩ ∧ Spared w w' (fun j => j = g) := by
  have hgl := CellsAt.lt hR
  have HR : Hid (LrnAt w g t hd tl st) := hR
  have HG : Hid _ := hG
  clear hR hG
  obtain ⟨pc, Hpc⟩ : ∃ pc, Hid (tab 128 (flat G) = pc) := ⟨_, (rfl : _ = _)⟩
  rw [Hpc.out]
  obtain ⟨V, HV⟩ : ∃ V : Tab, Hid ((fun a b => speedN cf (st.v a b) (G a b)) = V) := ⟨_, (rfl : _ = _)⟩
  obtain ⟨W, HW⟩ : ∃ W : Tab, Hid ((fun a b => weightN cf (st.w a b) (V a b)) = W) := ⟨_, (rfl : _ = _)⟩
  have HE : Hid ((⟨st.steps, fun a b => weightN cf (st.w a b) (speedN cf (st.v a b) (G a b)), fun a b => speedN cf (st.v a b) (G a b)⟩ : St) = ⟨st.steps, W, V⟩) := by
    show _ = _
    rw [← HW.out, ← HV.out]
  rw [HE.out]
  have HVb : Hid (∀ a b, -1073741824 ≤ V a b ∧ V a b ≤ 1073741824) := fun a b => by rw [← HV.out]; exact clamp_le _ _ (by decide)
  have HVe : Hid (∀ a b, speedN cf (st.v a b) (G a b) = V a b) := fun a b => by rw [← HV.out]
  have HWe : Hid (∀ a b, weightN cf (st.w a b) (V a b) = W a b) := fun a b => by rw [← HW.out]
  have hra := hcf.rate
  have hmo := hcf.mom
  obtain ⟨sd, bt, ra, mo, de⟩ := cf
  simp only at hra hmo
  show Calls Try.prog 31 #[.pointer (some ⟨g, o, none⟩), .agg pc.toArray, .agg #[.int .u64 sd, .int .u8 bt, .int .i32 ra, .int .i32 mo, .int .u8 de]] w _
  go_enter Try.func31, Try.ntmps31
  go_wp2_with fail
  obtain ⟨w0, Hw0⟩ : ∃ w0, Hid ((w.alloc (.cells pc.toArray 85)).alloc (.cells #[.int .u64 sd, .int .u8 bt, .int .i32 ra, .int .i32 mo, .int .u8 de] 24) = w0) := ⟨_, (rfl : _ = _)⟩
  have H0 : Hid (MovAt w w0 g t (hd ++ (lrnCells ⟨st.steps, mixT W st.w 0 0, mixT V st.v 0 0⟩ ++ tl)) pc [.int .u64 sd, .int .u8 bt, .int .i32 ra, .int .i32 mo, .int .u8 de]) := by
    show MovAt _ _ _ _ _ _ _
    rw [← Hw0.out, mixT_none, mixT_none]
    exact ⟨(CellsAt.alloc (CellsAt.alloc HR.out _) _), (CellsAt.new w _ _ _ rfl rfl).alloc _, CellsAt.new _ _ _ _ rfl (by simp), Spared.of_below (((Below.refl _ _).alloc (Nat.le_refl _) _).alloc (by simp) _) _⟩
  rw [Hw0.out]
  clear Hw0 HR
  go_loopw [6] (fun cv wr => ∃ c : Nat, c ≤ 4 ∧ cv = .int .i64 c ∧ Hid (MovAt w wr g t (hd ++ (lrnCells ⟨st.steps, mixT W st.w c 0, mixT V st.v c 0⟩ ++ tl)) pc [.int .u64 sd, .int .u8 bt, .int .i32 ra, .int .i32 mo, .int .u8 de])) (fun c _ => 4 - (intOf c).toNat)
  case atStart => exact ⟨0, by omega, rfl, H0⟩
  case round =>
    obtain ⟨c, hc, rfl, HS⟩ := hrel
    clear H0
    by_cases hlt : c < 4
    · go_wp2_with fail
      generalize decide ((c : Int) < 4) = q4
      go_loopg [7] 32 (fun gk bv wq => ∃ b : Nat, gk + b = 32 ∧ bv = .int .i64 b ∧ Hid (MovAt w wq g t (hd ++ (lrnCells ⟨st.steps, mixT W st.w c b, mixT V st.v c b⟩ ++ tl)) pc [.int .u64 sd, .int .u8 bt, .int .i32 ra, .int .i32 mo, .int .u8 de]))
      case atStart => exact ⟨0, by omega, rfl, HS⟩
      case round =>
        obtain ⟨b, hgb, rfl, HT⟩ := hrel
        clear HS
        by_cases hbl : b < 32
        · have d1 := (HT.out.r.cell (hd.length + 128 + c * 32 + b)).trans (lrn_v _ hlt hbl)
          have d2 := (HT.out.r.cell (hd.length + c * 32 + b)).trans (lrn_w _ hlt hbl)
          simp only [mixT_at] at d1 d2
          rw [ho] at d1 d2
          have e3 : pc[c * 32 + b]? = some (.int .i64 (G c b)) := by rw [← Hpc.out, tab_get _ (show c * 32 + b < 128 by omega), flat_at _ hbl]
          have d3 := (HT.out.p.cell (c * 32 + b)).trans e3
          clear e3
          have k0 := HT.out.c.cell 0
          have k1 := HT.out.c.cell 1
          have k2 := HT.out.c.cell 2
          have k3 := HT.out.c.cell 3
          have k4 := HT.out.c.cell 4
          simp only [List.getElem?_cons_zero, List.getElem?_cons_succ] at k0 k1 k2 k3 k4
          have hv := hst.v c b hlt hbl
          have hw := hst.w c b hlt hbl
          have hg := HG.out c b
          have hVb := HVb.out c b
          have HVc : Hid _ := HVe.out c b
          have HWc : Hid _ := HWe.out c b
          have HSt : Hid (MovAt w wr g t (hd ++ (lrnCells ⟨st.steps, mixT W st.w c b, mixT V st.v c b⟩ ++ tl)) pc [.int .u64 sd, .int .u8 bt, .int .i32 ra, .int .i32 mo, .int .u8 de]) := HT.out
          clear HT
          generalize st.v c b = v0 at *
          generalize st.w c b = x0 at *
          generalize G c b = g0 at *
          have HK : Hid (∀ w', Below wr.heap.size wr w' → w'.cell? ⟨g, o + 128 + c * 32 + b, none⟩ = some (.int .i64 v0) ∧ w'.cell? ⟨w.heap.size, c * 32 + b, none⟩ = some (.int .i64 g0) ∧ w'.cell? ⟨w.heap.size + 1, 0, none⟩ = some (.int .u64 sd) ∧ w'.cell? ⟨w.heap.size + 1, 1, none⟩ = some (.int .u8 bt) ∧ w'.cell? ⟨w.heap.size + 1, 2, none⟩ = some (.int .i32 ra) ∧ w'.cell? ⟨w.heap.size + 1, 3, none⟩ = some (.int .i32 mo) ∧ w'.cell? ⟨w.heap.size + 1, 4, none⟩ = some (.int .u8 de)) := fun w' hb => by
            have l1 := HSt.out.r.lt
            have l2 := HSt.out.p.lt
            have l3 := HSt.out.c.lt
            exact ⟨(hb.cell l1).trans d1, (hb.cell l2).trans d3, (hb.cell l3).trans k0, (hb.cell l3).trans k1, (hb.cell l3).trans k2, (hb.cell l3).trans k3, (hb.cell l3).trans k4⟩
          go_wp2_with fail
          go_region_held_law (fun w' => w'.cell? ⟨g, o + 128 + c * 32 + b, none⟩ = some (.int .i64 v0) ∧ w'.cell? ⟨w.heap.size, c * 32 + b, none⟩ = some (.int .i64 g0) ∧ w'.cell? ⟨w.heap.size + 1, 0, none⟩ = some (.int .u64 sd) ∧ w'.cell? ⟨w.heap.size + 1, 1, none⟩ = some (.int .u8 bt) ∧ w'.cell? ⟨w.heap.size + 1, 2, none⟩ = some (.int .i32 ra) ∧ w'.cell? ⟨w.heap.size + 1, 3, none⟩ = some (.int .i32 mo) ∧ w'.cell? ⟨w.heap.size + 1, 4, none⟩ = some (.int .u8 de)) (first | go_keep | exact HK.out _ ⟨hb7.os, hb7.tape, hb7.output, hb7.size, hb7.block⟩) (first | (go_at_call 49; refine (nextSpeed_any ⟨sd, bt, ra, mo, de⟩ hcf v0 g0 hv hg _).mono ?_; rintro e w7 ⟨rfl, hb7⟩))
          have HS7 : Hid (MovAt w w7 g t (hd ++ (lrnCells ⟨st.steps, mixT W st.w c b, mixT V st.v c b⟩ ++ tl)) pc [.int .u64 sd, .int .u8 bt, .int .i32 ra, .int .i32 mo, .int .u8 de]) := HSt.out.later ⟨hb7.os, hb7.tape, hb7.output, hb7.size, hb7.block⟩
          have hx7 : w7.cell? ⟨g, o + c * 32 + b, none⟩ = some (.int .i32 x0) := (hb7.cell (p := ⟨g, o + c * 32 + b, none⟩) HSt.out.r.lt).trans d2
          rw [HVc.out]
          obtain ⟨V0, HV0⟩ : ∃ V0, Hid (V c b = V0) := ⟨_, (rfl : _ = _)⟩
          obtain ⟨W0, HW0⟩ : ∃ W0, Hid (W c b = W0) := ⟨_, (rfl : _ = _)⟩
          rw [HV0.out] at hVb HWc ⊢
          rw [HW0.out] at HWc
          clear hb7 HK HSt d1 d2 d3 k0 k1 k2 k3 k4
          have k0 := HS7.out.c.cell 0
          have k1 := HS7.out.c.cell 1
          have k2 := HS7.out.c.cell 2
          have k3 := HS7.out.c.cell 3
          have k4 := HS7.out.c.cell 4
          simp only [List.getElem?_cons_zero, List.getElem?_cons_succ] at k0 k1 k2 k3 k4
          have HK : Hid (∀ w', Below w7.heap.size w7 w' → w'.cell? ⟨g, o + c * 32 + b, none⟩ = some (.int .i32 x0) ∧ w'.cell? ⟨w.heap.size + 1, 0, none⟩ = some (.int .u64 sd) ∧ w'.cell? ⟨w.heap.size + 1, 1, none⟩ = some (.int .u8 bt) ∧ w'.cell? ⟨w.heap.size + 1, 2, none⟩ = some (.int .i32 ra) ∧ w'.cell? ⟨w.heap.size + 1, 3, none⟩ = some (.int .i32 mo) ∧ w'.cell? ⟨w.heap.size + 1, 4, none⟩ = some (.int .u8 de)) := fun w' hb => by
            have l1 := HS7.out.r.lt
            have l3 := HS7.out.c.lt
            exact ⟨(hb.cell l1).trans hx7, (hb.cell l3).trans k0, (hb.cell l3).trans k1, (hb.cell l3).trans k2, (hb.cell l3).trans k3, (hb.cell l3).trans k4⟩
          go_wp2_with fail
          go_region_held_law (fun w' => w'.cell? ⟨g, o + c * 32 + b, none⟩ = some (.int .i32 x0) ∧ w'.cell? ⟨w.heap.size + 1, 0, none⟩ = some (.int .u64 sd) ∧ w'.cell? ⟨w.heap.size + 1, 1, none⟩ = some (.int .u8 bt) ∧ w'.cell? ⟨w.heap.size + 1, 2, none⟩ = some (.int .i32 ra) ∧ w'.cell? ⟨w.heap.size + 1, 3, none⟩ = some (.int .i32 mo) ∧ w'.cell? ⟨w.heap.size + 1, 4, none⟩ = some (.int .u8 de)) (first | go_keep | exact HK.out _ ⟨hb8.os, hb8.tape, hb8.output, hb8.size, hb8.block⟩) (first | (go_at_call 50; refine (nextWeight_any ⟨sd, bt, ra, mo, de⟩ hcf x0 V0 hw hVb _).mono ?_; rintro e w8 ⟨rfl, hb8⟩))
          have HS8 : Hid (MovAt w w8 g t (hd ++ (lrnCells ⟨st.steps, mixT W st.w c b, mixT V st.v c b⟩ ++ tl)) pc [.int .u64 sd, .int .u8 bt, .int .i32 ra, .int .i32 mo, .int .u8 de]) := HS7.out.later ⟨hb8.os, hb8.tape, hb8.output, hb8.size, hb8.block⟩
          rw [HWc.out]
          have c1 := (HS8.out.r.cell (hd.length + 128 + c * 32 + b)).trans (lrn_v _ hlt hbl)
          have c2 := (HS8.out.r.cell (hd.length + c * 32 + b)).trans (lrn_w _ hlt hbl)
          have f1 := HS8.out.r.frozen (hd.length + 128 + c * 32 + b)
          have f2 := HS8.out.r.frozen (hd.length + c * 32 + b)
          have HS9 : Hid (MovAt w ((w8.setCell ⟨g, hd.length + 128 + c * 32 + b, none⟩ (.int .i64 V0)).setCell ⟨g, hd.length + c * 32 + b, none⟩ (.int .i32 W0)) g t (hd ++ (lrnCells ⟨st.steps, mixT W st.w c (b + 1), mixT V st.v c (b + 1)⟩ ++ tl)) pc [.int .u64 sd, .int .u8 bt, .int .i32 ra, .int .i32 mo, .int .u8 de]) := by
            refine ((HS8.out.set hgl _ _).set hgl _ _).to ?_
            rw [lrn_set_v _ _ _ hlt hbl, lrn_set_w _ _ _ hlt hbl, ← HV0.out, ← HW0.out, mixT_next, mixT_next]
          rw [ho] at c1 c2 f1 f2 HS9
          clear HS8 HS7 HK hb8 hx7 k0 k1 k2 k3 k4
          go_wp2
          go_roundg (gk - 1)
          case measure => omega
          case rel => exact ⟨b + 1, by omega, by go_num, HS9⟩
        · obtain rfl : b = 32 := by omega
          have HS2 : Hid (MovAt w wr g t (hd ++ (lrnCells ⟨st.steps, mixT W st.w (c + 1) 0, mixT V st.v (c + 1) 0⟩ ++ tl)) pc [.int .u64 sd, .int .u8 bt, .int .i32 ra, .int .i32 mo, .int .u8 de]) := by
            refine HT.out.to ?_
            rw [lrn_tabs st.steps st.steps (mixT_row W st.w c) (mixT_row V st.v c)]
          clear HT
          go_wp2
          go_roundw
          case rel => exact ⟨c + 1, by omega, by go_num, HS2⟩
          case measure => simp [intOf]; omega
    · obtain rfl : c = 4 := by omega
      have HS2 : Hid (LrnAt wr g t hd tl ⟨st.steps, W, V⟩ ∧ Spared w wr (fun j => j = g)) := by
        refine ⟨?_, HS.out.s⟩
        have h := HS.out.r
        rw [lrn_tabs st.steps st.steps (mixT_all W st.w) (mixT_all V st.v)] at h
        exact h
      clear HS
      go_wp2
      go_end0
      exact ⟨rfl, HS2.out.1, HS2.out.2⟩
end Go.Proofs.Ytfpodnleimhohab
