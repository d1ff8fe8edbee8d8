/-
  WALKS: the program's scores, and the class with the greatest.
-/
import Derived.Test.YtfpodnleimhohabGreatDoorWalksBB
namespace Go.Proofs.YtfpodnleimhohabGreatDoor
open Go.RowKit
set_option linter.unusedVariables false

theorem wpList_index_rowTo {P : Program} {ops : Array Oper} {rest : List Oper} {op : Oper} {a : Act} {w : World} {Q : Exit → Act → World → Prop} (hgd : op.guard = none) (ty : TypeId) (x y : Operand) (ho : op.op = .index ty x y)
    (e : TypeId) (n s : Nat) (cs ds : Array Value) (i : Nat) (hx : a.eval x = .agg cs) (hy : a.eval y = .int .i64 (i : Int)) (hu : P.underlying ty = some (.array n e)) (d : TypeDesc) (he : P.underlying e = some d) (hd : d.isRow = true)
    (hi : (P.info? e).map (·.size) = some s) (h : i < n) (hds : cs.extract (i * s) (i * s + s) = ds) (hK : wpList P ops Q rest (a.put op.dst (.agg ds)) w) : wpList P ops Q (op :: rest) a w :=
  wpList_index_row hgd ty x y ho e n s cs i hx hy hu d he hd hi h (by rw [hds]; exact hK)
theorem tabw_row (t : Tab) (c : Nat) (hc : c < 4) : (tabw 128 (flat t)).toArray.extract (c * 32) (c * 32 + 32) = (tabw 32 (t c)).toArray := by
  apply Array.ext_getElem?
  intro j
  rw [Array.getElem?_extract]
  simp only [List.size_toArray, tabw_length]
  rw [show min (c * 32 + 32) 128 - c * 32 = 32 by omega]
  by_cases hj : j < 32
  · rw [if_pos hj]
    simp only [List.getElem?_toArray]
    rw [tabw_get _ (show c * 32 + j < 128 by omega), tabw_get _ hj, flat_at _ hj]
  · rw [if_neg hj]
    simp only [List.getElem?_toArray]
    rw [List.getElem?_eq_none (by rw [tabw_length]; omega)]

/-! ### a learner in memory: somewhere in a block -/
def lrnCells (st : St) : List Value := tabw 128 (flat st.w) ++ tab 128 (flat st.v)
theorem lrnCells_length (st : St) : (lrnCells st).length = 256 := by simp [lrnCells, tabw_length, tab_length]
abbrev LrnAt (w : World) (g : Nat) (t : TypeId) (hd tl : List Value) (st : St) : Prop := CellsAt w g t (hd ++ (lrnCells st ++ tl))
theorem lrn_mid {hd tl : List Value} (st : St) {i : Nat} (h : i < 256) : (hd ++ (lrnCells st ++ tl))[hd.length + i]? = (lrnCells st)[i]? := by
  rw [List.getElem?_append_right (by omega), List.getElem?_append_left (by rw [lrnCells_length]; omega)]
  congr 1; omega
theorem lrn_w {hd tl : List Value} (st : St) {c b : Nat} (hc : c < 4) (hb : b < 32) : (hd ++ (lrnCells st ++ tl))[hd.length + c * 32 + b]? = some (.int .i32 (st.w c b)) := by
  rw [show hd.length + c * 32 + b = hd.length + (c * 32 + b) by omega, lrn_mid st (by omega)]
  unfold lrnCells
  rw [List.getElem?_append_left (by rw [tabw_length]; omega), tabw_get _ (by omega), flat_at _ hb]
theorem lrn_v {hd tl : List Value} (st : St) {c b : Nat} (hc : c < 4) (hb : b < 32) : (hd ++ (lrnCells st ++ tl))[hd.length + 128 + c * 32 + b]? = some (.int .i64 (st.v c b)) := by
  rw [show hd.length + 128 + c * 32 + b = hd.length + (128 + c * 32 + b) by omega, lrn_mid st (by omega)]
  unfold lrnCells
  rw [List.getElem?_append_right (by rw [tabw_length]; omega), tabw_length, show 128 + c * 32 + b - 128 = c * 32 + b by omega, tab_get _ (by omega), flat_at _ hb]
theorem LrnAt.range {w : World} {g : Nat} {t : TypeId} {hd tl : List Value} {st : St} (h : LrnAt w g t hd tl st) : w.rangeAt g hd.length (tabw 128 (flat st.w)) := fun j v hv => by
  have hj : j < 128 := by
    have := (List.getElem?_eq_some_iff.1 hv).1
    rwa [tabw_length] at this
  rw [CellsAt.cell h, lrn_mid st (by omega)]
  unfold lrnCells
  rw [List.getElem?_append_left (by rw [tabw_length]; omega)]
  exact hv

/-- Memory while scores are made. -/
structure LSc (w wr : World) (nc : List Value) (f : Nat → Int) : Prop where
  n : CellsAt wr w.heap.size 171 nc
  z : CellsAt wr (w.heap.size + 1) 119 (tab 4 fun _ => 0)
  o : CellsAt wr (w.heap.size + 2) 119 (tab 4 f)
  l : Below w.heap.size w wr
theorem LSc.set {w wr : World} {nc : List Value} {f : Nat → Int} (h : LSc w wr nc f) (q : Nat) (z : Int) : LSc w (wr.setCell ⟨w.heap.size + 2, q, none⟩ (.int .i64 z)) nc (upd f q z) :=
  ⟨h.n.other (by omega) _ _, h.z.other (by omega) _ _, by rw [← tab_set]; exact h.o.set q _, h.l.setCell (by show w.heap.size ≤ w.heap.size + 2; omega) _⟩
theorem LSc.drew {w wr : World} {nc : List Value} {f : Nat → Int} (h : LSc w wr nc f) : LSc w wr.drew nc f := ⟨h.n, h.z, h.o, h.l.drew⟩
theorem LSc.to {w wr : World} {nc : List Value} {f f' : Nat → Int} (h : LSc w wr nc f) (e : f = f') : LSc w wr nc f' := e ▸ h
theorem LSc.alloc {w wr : World} {nc : List Value} {f : Nat → Int} (h : LSc w wr nc f) (x : Obj) : LSc w (wr.alloc x) nc f := ⟨h.n.alloc _, h.z.alloc _, h.o.alloc _, h.l.alloc h.l.size _⟩
theorem info_w128 : (Tryz.prog.info? 61).map (·.size) = some 128 := by kernel_rfl
theorem info_w32 : (Tryz.prog.info? 60).map (·.size) = some 32 := by kernel_rfl
theorem info_w1 : (Tryz.prog.info? 21).map (·.size) = some 1 := by kernel_rfl
theorem info_s4 : (Tryz.prog.info? 119).map (·.size) = some 4 := by kernel_rfl

set_option maxRecDepth 100000 in
set_option maxHeartbeats 1000000 in
theorem lscores_any (g : Nat) (t : TypeId) (hd tl : List Value) (o : Nat) (ho : hd.length = o) (st : St) (hst : st.Ok) (n : Nat → Nat) (hn : ∀ b, n b ≤ 7) (w : World) (hR : LrnAt w g t hd tl st) :
    Calls Tryz.prog 83 #[.pointer (some ⟨g, o, none⟩), .agg (tab 32 fun b => ((n b : Nat) : Int)).toArray] w fun e w' => e = .returned (.agg (tab 4 (scoreN n st.w)).toArray) ∧ Below w.heap.size w w' := by
  have hgl := CellsAt.lt hR
  have HRg0 : Hid (w.rangeAt g o (tabw 128 (flat st.w))) := by rw [← ho]; exact LrnAt.range hR
  have Hn : Hid _ := hn
  obtain ⟨nc, Hnc⟩ : ∃ nc, Hid (tab 32 (fun b => ((n b : Nat) : Int)) = nc) := ⟨_, (rfl : _ = _)⟩
  obtain ⟨wc, Hwc⟩ : ∃ wc, Hid (tabw 128 (flat st.w) = wc) := ⟨_, (rfl : _ = _)⟩
  have HwL : Hid ((Tryz.prog.info? 61).map (·.size) = some wc.length) := by show _ = _; rw [← Hwc.out, tabw_length]; exact info_w128
  have HwR : Hid (∀ c, c < 4 → wc.toArray.extract (c * 32) (c * 32 + 32) = (tabw 32 (st.w c)).toArray) := fun c hc => by rw [← Hwc.out]; exact tabw_row st.w c hc
  rw [Hnc.out]
  rw [Hwc.out] at HRg0
  clear hR hn
  go_enter Tryz.func83, Tryz.ntmps83
  have HRg : Hid ((((w.alloc (.cells nc.toArray 171)).alloc (.cells #[.int .i64 0, .int .i64 0, .int .i64 0, .int .i64 0] 119)).alloc (.cells #[.int .i64 0, .int .i64 0, .int .i64 0, .int .i64 0] 119)).rangeAt g o wc) := fun j v hv => by
    have h := HRg0.out j v hv
    have hb : Below w.heap.size w (((w.alloc (.cells nc.toArray 171)).alloc (.cells #[.int .i64 0, .int .i64 0, .int .i64 0, .int .i64 0] 119)).alloc (.cells #[.int .i64 0, .int .i64 0, .int .i64 0, .int .i64 0] 119)) := (((Below.refl _ _).alloc (Nat.le_refl _) _).alloc (by simp) _).alloc (by simp; omega) _
    exact (hb.cell (p := ⟨g, o + j, none⟩) hgl).trans h
  go_wp2_with (refine wpList_load_mid rfl 61 (.tmp 12) rfl _ _ rfl wc _ HRg.out Tryz.underlying61 rfl HwL.out ?_)
  obtain ⟨w3, Hw3⟩ : ∃ w3, Hid (((w.alloc (.cells nc.toArray 171)).alloc (.cells #[.int .i64 0, .int .i64 0, .int .i64 0, .int .i64 0] 119)).alloc (.cells #[.int .i64 0, .int .i64 0, .int .i64 0, .int .i64 0] 119) = w3) := ⟨_, (rfl : _ = _)⟩
  rw [Hw3.out, show w.heap.size + 1 + 1 = w.heap.size + 2 from rfl]
  have H0 : Hid (LSc w w3 nc (scTo n st.w 0 0)) := by
    show LSc _ _ _ _
    rw [← Hw3.out]
    refine ⟨((CellsAt.new w _ _ _ rfl rfl).alloc _).alloc _, (CellsAt.new _ _ _ _ rfl (by simp)).alloc _, CellsAt.new _ _ _ _ rfl (by simp), (((Below.refl _ _).alloc (Nat.le_refl _) _).alloc (by simp) _).alloc (by simp; omega) _⟩
  clear Hw3 HRg HRg0
  go_loopw [14] (fun cv wr => ∃ c : Nat, c ≤ 4 ∧ cv = .int .i64 c ∧ Hid (LSc w wr nc (scTo n st.w c 0))) (fun c _ => 4 - (intOf c).toNat)
  case atStart => exact ⟨0, by omega, rfl, H0⟩
  case round =>
    obtain ⟨c, hc, rfl, HS⟩ := hrel
    clear H0
    by_cases hlt : c < 4
    · obtain ⟨rc, Hrc⟩ : ∃ rc, Hid (tabw 32 (st.w c) = rc) := ⟨_, (rfl : _ = _)⟩
      have HrL : Hid (rc.length = 32) := by show _ = _; rw [← Hrc.out]; exact tabw_length _ _
      have HrO : Hid (∀ u ∈ rc, u.oneCell' = true) := by show ∀ u ∈ rc, _; rw [← Hrc.out]; exact tabw_one _ _
      have HrI : Hid ((Tryz.prog.info? 60).map (·.size) = some rc.length) := by show _ = _; rw [HrL.out]; exact info_w32
      have HrE : Hid (wc.toArray.extract (c * 32) (c * 32 + 32) = rc.toArray) := by show _ = _; rw [← Hrc.out]; exact HwR.out c hlt
      have HS1 : Hid (LSc w (wr.alloc (.cells rc.toArray 60)) nc (scTo n st.w c 0)) := HS.out.alloc _
      have HR1 : Hid (CellsAt (wr.alloc (.cells rc.toArray 60)) wr.heap.size 60 rc) := CellsAt.new _ _ _ _ rfl rfl
      go_wp2_with (first
        | (refine wpList_index_rowTo rfl 61 (.tmp 13) (.tmp 14) rfl 60 4 32 _ rc.toArray c rfl rfl Tryz.underlying61 _ Tryz.underlying60 rfl info_w32 hlt HrE.out ?_)
        | (refine wpList_store_new rfl 60 (.tmp 7) (.tmp 17) rfl _ rc rfl rfl HrI.out HrL.out.symm HrO.out ?_)
        | (refine wpList_load_mid rfl 60 (.tmp 7) rfl _ _ rfl rc _ (CellsAt.range HR1.out) Tryz.underlying60 rfl HrI.out ?_))
      clear HS HrE HrO
      generalize hwa : wr.alloc (.cells rc.toArray 60) = wa at *
      clear hwa
      go_loopw [19] (fun bv wq => ∃ b : Nat, b ≤ 32 ∧ bv = .int .i64 b ∧ Hid (LSc w wq nc (scTo n st.w c b))) (fun b _ => 32 - (intOf b).toNat)
      case atStart => exact ⟨0, by omega, rfl, HS1⟩
      case round =>
        obtain ⟨b, hb, rfl, HT⟩ := hrel
        clear HS1 HR1
        by_cases hbl : b < 32
        · have d1 := (HT.out.o.cell c).trans (tab_get _ hlt)
          have f1 := HT.out.o.frozen c
          have e2 : nc[b]? = some (.int .i64 ((n b : Nat) : Int)) := by rw [← Hnc.out]; exact tab_get (fun b => ((n b : Nat) : Int)) hbl
          have d2 := (HT.out.n.cell b).trans e2
          clear e2
          have HV : Hid (rc.toArray[b]? = some (.int .i32 (st.w c b))) := by show _ = _; rw [← Hrc.out]; simp only [List.getElem?_toArray]; exact tabw_get _ hbl
          have HN : Hid _ := (HT.out.set c (scTo n st.w c b c + (n b : Int) * st.w c b)).to (scTo_next n st.w c b)
          have b1 := sc_bound n Hn.out st.w c (fun b hb => hst.w c b hlt hb) b hb
          rw [← scTo_at] at b1
          have b2 := mul_bound (n b) (st.w c b) (Hn.out b) (hst.w c b hlt hbl).1 (hst.w c b hlt hbl).2
          have b3 := Hn.out b
          have b4 := hst.w c b hlt hbl
          generalize scTo n st.w c b c = x at *
          generalize n b = y at *
          generalize st.w c b = z at *
          go_wp2_with (refine wpList_index_one rfl 60 (.tmp 18) (.tmp 19) rfl 21 32 _ b _ rfl rfl Tryz.underlying60 _ Tryz.underlying21 rfl info_w1 hbl HV.out ?_)
          go_region
          go_wp2
          go_roundw
          case rel => exact ⟨b + 1, by omega, by go_num, HN.out.drew⟩
          case measure => simp [intOf]; omega
        · obtain rfl : b = 32 := by omega
          go_wp2
          go_roundw
          case rel => exact ⟨c + 1, by omega, by go_num, HT.out.to (scTo_row n st.w c)⟩
          case measure => simp [intOf]; omega
    · obtain rfl : c = 4 := by omega
      have HE : Hid (tab 4 (scTo n st.w 4 0) = tab 4 (scoreN n st.w)) := tab_congr fun b hb => by simp only [scTo]; rw [if_pos hb]
      obtain ⟨_, A1, A2, A4⟩ := HS.out
      rw [HE.out] at A2
      obtain ⟨cs, Hcs⟩ : ∃ cs, Hid (tab 4 (scoreN n st.w) = cs) := ⟨_, (rfl : _ = _)⟩
      have HcsL : Hid (cs.length = 4) := by show _ = _; rw [← Hcs.out]; exact tab_length _ _
      have HcsO : Hid (∀ u ∈ cs, u.oneCell' = true) := by show ∀ u ∈ cs, _; rw [← Hcs.out]; exact tab_one _ _
      have HI : Hid ((Tryz.prog.info? 119).map (·.size) = some cs.length) := by show _ = _; rw [HcsL.out]; exact info_s4
      have HI2 : Hid ((Tryz.prog.info? 119).map (·.size) = some cs.toArray.size) := by show _ = _; rw [List.size_toArray]; exact HI.out
      rw [Hcs.out] at A2
      have HRg : Hid (wr.rangeAt (w.heap.size + 2) 0 cs) := CellsAt.range A2
      have HTh : Hid (wr.there (w.heap.size + 1) 0 cs.toArray.size) := by
        have := CellsAt.there A1
        rw [tab_length] at this
        show wr.there (w.heap.size + 1) 0 cs.length
        rw [HcsL.out]; exact this
      have HA4 : Hid (Below w.heap.size w wr) := A4
      clear A1 A2 A4 HS HE
      go_wp2_with (first
        | (refine wpList_load_mid rfl 119 (.tmp 5) rfl _ _ rfl cs _ HRg.out Tryz.underlying119 rfl HI.out ?_)
        | (refine wpList_store_mid rfl 119 (.tmp 4) (.tmp 37) rfl _ _ cs.toArray rfl rfl HTh.out HI2.out (all_oneCell_toArray HcsO.out) ?_))
      have hld := run_loadVar_mid (P := Tryz.prog) (wr.setCells (w.heap.size + 1) 0 cs) (w.heap.size + 1) 0 119 cs _ (World.rangeAt_setCells_same _ _ _ _ (by have := HTh.out; rw [List.size_toArray] at this; exact this)) Tryz.underlying119 rfl HI.out
      rw [Hcs.out]
      refine bodyPost_ret (v := .agg cs.toArray) ?_ rfl ⟨rfl, below_setCells (by omega) cs 0 HA4.out⟩
      simp [results, Tryz.results83, asAddr, hld, Act.put]

/-! ### the class with the greatest score -/
theorem bestF_one {s : Nat → Int} {but : Int} (h : but ≠ 0) : bestF s but 1 = ((0 : Nat) : Int) := bestF_next_yes (s := s) (but := but) (k := 0) (o := -1) rfl (by omega) (.inl (by decide))
theorem bestF_two (s : Nat → Int) : bestF s 0 2 = 1 := by
  simp [bestF]
set_option maxRecDepth 100000 in
set_option maxHeartbeats 1000000 in
theorem greatest_any (s : Nat → Int) (but : Int) (hb : -1 ≤ but ∧ but < 4) (w : World) :
    Calls Tryz.prog 84 #[.agg (tab 4 s).toArray, .int .i64 but] w fun e w' => e = .returned (.int .i64 (bestN s but : Nat)) ∧ Below w.heap.size w w' := by
  have HE : Hid (((bestN s but : Nat) : Int) = bestF s but 4) := by
    show _ = _
    have := bestF_some s but 4 (by decide)
    unfold bestN; omega
  rw [HE.out]
  obtain ⟨hb1, hb2⟩ := hb
  obtain ⟨cs, Hcs⟩ : ∃ cs, Hid (tab 4 s = cs) := ⟨_, (rfl : _ = _)⟩
  rw [Hcs.out]
  obtain ⟨w1, Hw1⟩ : ∃ w1, Hid (w.alloc (.cells cs.toArray 119) = w1) := ⟨_, (rfl : _ = _)⟩
  have HC : Hid (∀ k, k < 4 → w1.cell? ⟨w.heap.size, k, none⟩ = some (.int .i64 (s k))) := fun k hk => by
    have h : CellsAt w1 w.heap.size 119 cs := by rw [← Hw1.out]; exact CellsAt.new w _ _ _ rfl rfl
    rw [h.cell, ← Hcs.out]; exact tab_get s hk
  have HB : Hid (Below w.heap.size w w1) := by rw [← Hw1.out]; exact (Below.refl _ _).alloc (Nat.le_refl _) _
  by_cases hz : but = 0
  · subst hz
    go_enter Tryz.func84, Tryz.ntmps84
    go_wp2_with fail
    rw [Hw1.out]
    clear Hw1
    go_loopw [5, 6] (fun ov cv wr => ∃ (k nq o : Nat), k ≤ 4 ∧ cv = .int .i64 k ∧ ov = .int .i64 o ∧ o < k ∧ Hid (bestF s 0 k = (o : Int)) ∧ wr = w1.drewN nq) (fun _ c _ => 4 - (intOf c).toNat)
    case atStart => exact ⟨2, 0, 1, by omega, rfl, rfl, by omega, bestF_two s, rfl⟩
    case round =>
      obtain ⟨k, nq, m, hk, rfl, rfl, ho2, HO, rfl⟩ := hrel
      by_cases hlt : k < 4
      · by_cases hA : (k : Int) = 0
        · have HN : Hid _ := bestF_next_no HO.out (fun h => h.1 hA)
          have hA' : ((k : Int) != 0) = false := by simp [hA]
          go_wp2
          go_quiet (fail)
          go_wp2
          go_roundw
          case rel => exact ⟨k + 1, _, m, by omega, by go_num, rfl, by omega, HN, rfl⟩
          case measure => simp [intOf]; omega
        · have hA' : ((k : Int) != 0) = true := by simp; omega
          have hm4 : m < 4 := by omega
          have c1 := HC.out k hlt
          have c2 := HC.out m (by omega)
          by_cases hD : s m < s k
          · have HN : Hid _ := bestF_next_yes HO.out hA (.inr (by simpa using hD))
            have hd : decide (s m < s k) = true := by simp [hD]
            generalize s k = sk at *
            generalize s m = sm at *
            go_wp2
            go_quiet (fail)
            go_wp2
            go_roundw
            case rel => exact ⟨k + 1, _, k, by omega, by go_num, rfl, by omega, HN, rfl⟩
            case measure => simp [intOf]; omega
          · have HN : Hid _ := bestF_next_no HO.out (fun h => h.2.elim (fun e => by omega) (fun e => hD (by simpa using e)))
            have hd : decide (s m < s k) = false := by simp [hD]
            generalize s k = sk at *
            generalize s m = sm at *
            go_wp2
            go_quiet (fail)
            go_wp2
            go_roundw
            case rel => exact ⟨k + 1, _, m, by omega, by go_num, rfl, by omega, HN, rfl⟩
            case measure => simp [intOf]; omega
      · obtain rfl : k = 4 := by omega
        go_wp2
        rw [HO.out]
        go_ret
        exact ⟨rfl, below_drewN HB.out _⟩
  · have hz' : (but == 0) = false := by simp [hz]
    go_enter Tryz.func84, Tryz.ntmps84
    go_wp2_with fail
    rw [Hw1.out]
    clear Hw1
    go_loopw [5, 6] (fun ov cv wr => ∃ (k nq o : Nat), k ≤ 4 ∧ cv = .int .i64 k ∧ ov = .int .i64 o ∧ o < k ∧ Hid (bestF s but k = (o : Int)) ∧ wr = w1.drewN nq) (fun _ c _ => 4 - (intOf c).toNat)
    case atStart => exact ⟨1, 0, 0, by omega, rfl, rfl, by omega, bestF_one hz, rfl⟩
    case round =>
      obtain ⟨k, nq, m, hk, rfl, rfl, ho2, HO, rfl⟩ := hrel
      by_cases hlt : k < 4
      · by_cases hA : (k : Int) = but
        · have HN : Hid _ := bestF_next_no HO.out (fun h => h.1 hA)
          have hA' : ((k : Int) != but) = false := by simp [hA]
          go_wp2
          go_quiet (fail)
          go_wp2
          go_roundw
          case rel => exact ⟨k + 1, _, m, by omega, by go_num, rfl, by omega, HN, rfl⟩
          case measure => simp [intOf]; omega
        · have hA' : ((k : Int) != but) = true := by simp; omega
          have hm4 : m < 4 := by omega
          have c1 := HC.out k hlt
          have c2 := HC.out m (by omega)
          by_cases hD : s m < s k
          · have HN : Hid _ := bestF_next_yes HO.out hA (.inr (by simpa using hD))
            have hd : decide (s m < s k) = true := by simp [hD]
            generalize s k = sk at *
            generalize s m = sm at *
            go_wp2
            go_quiet (fail)
            go_wp2
            go_roundw
            case rel => exact ⟨k + 1, _, k, by omega, by go_num, rfl, by omega, HN, rfl⟩
            case measure => simp [intOf]; omega
          · have HN : Hid _ := bestF_next_no HO.out (fun h => h.2.elim (fun e => by omega) (fun e => hD (by simpa using e)))
            have hd : decide (s m < s k) = false := by simp [hD]
            generalize s k = sk at *
            generalize s m = sm at *
            go_wp2
            go_quiet (fail)
            go_wp2
            go_roundw
            case rel => exact ⟨k + 1, _, m, by omega, by go_num, rfl, by omega, HN, rfl⟩
            case measure => simp [intOf]; omega
      · obtain rfl : k = 4 := by omega
        go_wp2
        rw [HO.out]
        go_ret
        exact ⟨rfl, below_drewN HB.out _⟩
end Go.Proofs.YtfpodnleimhohabGreatDoor
