/-
  WALKS: the program's row of a step.
-/
import Derived.Test.YtfpodnleimhohabGreatDoorWalksBC
namespace Go.Proofs.YtfpodnleimhohabGreatDoor
open Go.RowKit
set_option linter.unusedVariables false

/-- Memory while a row is added to the pull. -/
structure PullAt (w wr : World) (gp : Nat) (f : Nat → Int) : Prop where
  P : CellsAt wr gp 112 (tab 128 f)
  s : Spared w wr (fun k => k = gp)
theorem PullAt.set {w wr : World} {gp : Nat} {f : Nat → Int} (h : PullAt w wr gp f) (i : Nat) (z : Int) : PullAt w (wr.setCell ⟨gp, i, none⟩ (.int .i64 z)) gp (upd f i z) :=
  ⟨by rw [← tab_set]; exact h.P.set i _, h.s.trans (Spared.of_set wr gp i _) (fun _ _ h => h)⟩
theorem PullAt.drew {w wr : World} {gp : Nat} {f : Nat → Int} (h : PullAt w wr gp f) : PullAt w wr.drew gp f := ⟨h.P, ⟨h.s.os, h.s.tape, h.s.output, h.s.size, h.s.block⟩⟩
theorem PullAt.drewN {w wr : World} {gp : Nat} {f : Nat → Int} (h : PullAt w wr gp f) (n : Nat) : PullAt w (wr.drewN n) gp f := ⟨h.P, ⟨h.s.os, h.s.tape, h.s.output, h.s.size, h.s.block⟩⟩
theorem PullAt.to {w wr : World} {gp : Nat} {f f' : Nat → Int} (h : PullAt w wr gp f) (e : tab 128 f = tab 128 f') : PullAt w wr gp f' := ⟨e ▸ h.P, h.s⟩
theorem PullAt.later {w wr wr' : World} {gp : Nat} {f : Nat → Int} (h : PullAt w wr gp f) (hb : Below wr.heap.size wr wr') : PullAt w wr' gp f := ⟨h.P.later hb, h.s.trans (Spared.of_below hb (fun k => k = gp)) (fun _ _ h => h)⟩
theorem add_yes (w : Tab) (G : Tab) (lab rv : Nat) (txt : List UInt8) (hm : missN w (lab, txt) = true) (hv : rivalN w (lab, txt) = rv) : flat (addTo G lab rv (countsN txt) 32) = flat (addN w (lab, txt) G) := by
  funext i
  have hml : i % 32 < 32 := Nat.mod_lt _ (by decide)
  simp only [flat, addTo, addN]
  rw [hm, hv, if_pos hml]; rfl
theorem add_no (w : Tab) (G : Tab) (x : Ex) (hm : missN w x = false) : addN w x G = G := by
  funext c b
  simp only [addN]
  rw [hm]; simp
theorem info_c32 : (Tryz.prog.info? 62).map (·.size) = some 32 := by kernel_rfl
theorem info_c1 : (Tryz.prog.info? 2).map (·.size) = some 1 := by kernel_rfl

set_option maxRecDepth 100000 in
set_option maxHeartbeats 4000000 in
theorem row_any (g : Nat) (t : TypeId) (hd tl : List Value) (o : Nat) (ho : hd.length = o) (st : St) (hst : st.Ok) (lab : Nat) (hlab : lab < 4) (txt : List UInt8) (htx : txt.length ≤ 200) (gp : Nat) (G : Tab) (hG : ∀ c b, -1000 ≤ G c b ∧ G c b ≤ 1000) (w : World) (hR : LrnAt w g t hd tl st) (hP : CellsAt w gp 112 (tab 128 (flat G))) :
    Calls Tryz.prog 65 #[.pointer (some ⟨g, o, none⟩), .agg #[.int .u8 lab, .string (bs txt)], .pointer (some ⟨gp, 0, none⟩)] w fun e w' => e = .returned (.bool (missN st.w (lab, txt))) ∧ PullAt w w' gp (flat (addN st.w (lab, txt) G)) := by
  have hgl := CellsAt.lt hR
  have hgp := hP.lt
  have HR : Hid (LrnAt w g t hd tl st) := hR
  have HP : Hid (PullAt w w gp (flat G)) := ⟨hP, Spared.refl _ _⟩
  have HG : Hid _ := hG
  clear hR hP hG
  have hbz : (bs txt).size = txt.length := bs_size txt
  obtain ⟨sc, Hsc⟩ : ∃ sc, Hid (scoreN (countsN txt) st.w = sc) := ⟨_, (rfl : _ = _)⟩
  have HScB : Hid (∀ c, c < 4 → -(3758096384 : Int) ≤ sc c ∧ sc c ≤ 3758096384) := fun c hc => by
    rw [← Hsc.out]; exact sc_bound (countsN txt) (countsN_le txt) st.w c (fun b hb => hst.w c b hc hb) 32 (Nat.le_refl _)
  have hrv := bestN_lt sc (lab : Int)
  have hne := bestN_ne sc lab
  obtain ⟨rv, Hrv⟩ : ∃ rv, Hid (bestN sc (lab : Int) = rv) := ⟨_, (rfl : _ = _)⟩
  rw [Hrv.out] at hrv hne
  have HRv : Hid (rivalN st.w (lab, txt) = rv) := by show _ = _; unfold rivalN; simp only; rw [Hsc.out, Hrv.out]
  have HMs : Hid (missN st.w (lab, txt) = decide (sc lab - sc rv < 65536)) := by show _ = _; unfold missN; rw [HRv.out]; simp only; rw [Hsc.out]
  have hs1 := HScB.out lab hlab
  have hs2 := HScB.out rv hrv
  go_enter Tryz.func65, Tryz.ntmps65
  go_wp2_with fail
  obtain ⟨w1, Hw1⟩ : ∃ w1, Hid (w.alloc (.cells #[.int .u8 lab, .string (bs txt)] 97) = w1) := ⟨_, (rfl : _ = _)⟩
  have HB1 : Hid (Below w.heap.size w w1) := by rw [← Hw1.out]; exact (Below.refl _ _).alloc (Nat.le_refl _) _
  rw [Hw1.out]
  clear Hw1
  refine (countsOf_any (bs txt) (by omega) _).mono ?_
  rintro e w2 ⟨rfl, hb2⟩
  rw [ls_bs]
  have HB2 : Hid (Below w.heap.size w w2) := HB1.out.trans (hb2.mono HB1.out.size)
  clear hb2 HB1
  obtain ⟨cN, HcN⟩ : ∃ cN, Hid (tab 32 (fun b => ((countsN txt b : Nat) : Int)) = cN) := ⟨_, (rfl : _ = _)⟩
  rw [HcN.out]
  have HNl : Hid (cN.length = 32) := by show _ = _; rw [← HcN.out]; exact tab_length _ _
  have HNo : Hid (∀ u ∈ cN, u.oneCell' = true) := by show ∀ u ∈ cN, _; rw [← HcN.out]; exact tab_one _ _
  have HNi : Hid ((Tryz.prog.info? 171).map (·.size) = some cN.length) := by show _ = _; rw [HNl.out]; exact info_counts
  have HB3 : Hid (Below w.heap.size w (w2.alloc (.cells cN.toArray 171))) := HB2.out.alloc HB2.out.size _
  have HN3 : Hid (CellsAt (w2.alloc (.cells cN.toArray 171)) w2.heap.size 171 cN) := CellsAt.new _ _ _ _ rfl rfl
  go_wp2_with (first
    | (refine wpList_store_new rfl 171 (.tmp 8) (.tmp 21) rfl _ cN rfl rfl HNi.out HNl.out.symm HNo.out ?_)
    | (refine wpList_load_mid rfl 171 (.tmp 8) rfl _ _ rfl cN _ (CellsAt.range HN3.out) Tryz.underlying171 rfl HNi.out ?_))
  generalize hw3 : w2.alloc (.cells cN.toArray 171) = w3 at *
  clear hw3 HB2
  generalize w2.heap.size = gN at *
  rw [← HcN.out]
  refine (lscores_any g t hd tl o ho st hst (countsN txt) (countsN_le txt) _ (CellsAt.kept HR.out HB3.out hgl)).mono ?_
  rintro e w4 ⟨rfl, hb4⟩
  have HB4 : Hid (Below w.heap.size w w4) := HB3.out.trans (hb4.mono HB3.out.size)
  have HN4 : Hid (CellsAt w4 gN 171 cN) := CellsAt.later HN3.out hb4
  clear hb4 HB3 HN3
  rw [Hsc.out]
  obtain ⟨cS, HcS⟩ : ∃ cS, Hid (tab 4 sc = cS) := ⟨_, (rfl : _ = _)⟩
  rw [HcS.out]
  have HSl : Hid (cS.length = 4) := by show _ = _; rw [← HcS.out]; exact tab_length _ _
  have HSo : Hid (∀ u ∈ cS, u.oneCell' = true) := by show ∀ u ∈ cS, _; rw [← HcS.out]; exact tab_one _ _
  have HSi : Hid ((Tryz.prog.info? 119).map (·.size) = some cS.length) := by show _ = _; rw [HSl.out]; exact info_s4
  have HB5 : Hid (Below w.heap.size w (w4.alloc (.cells cS.toArray 119))) := HB4.out.alloc HB4.out.size _
  have HN5 : Hid (CellsAt (w4.alloc (.cells cS.toArray 119)) gN 171 cN) := CellsAt.alloc HN4.out _
  have HC5 : Hid (CellsAt (w4.alloc (.cells cS.toArray 119)) w4.heap.size 119 cS) := CellsAt.new _ _ _ _ rfl rfl
  go_wp2_with (first
    | (refine wpList_store_new rfl 119 (.tmp 9) (.tmp 24) rfl _ cS rfl rfl HSi.out HSl.out.symm HSo.out ?_)
    | (refine wpList_load_mid rfl 119 (.tmp 9) rfl _ _ rfl cS _ (CellsAt.range HC5.out) Tryz.underlying119 rfl HSi.out ?_))
  generalize hw5 : w4.alloc (.cells cS.toArray 119) = w5 at *
  clear hw5 HB4 HN4
  generalize w4.heap.size = gS at *
  rw [← HcS.out]
  refine (greatest_any sc (lab : Int) (by omega) _).mono ?_
  rintro e w6 ⟨rfl, hb6⟩
  rw [Hrv.out]
  have HB6 : Hid (Below w.heap.size w w6) := HB5.out.trans (hb6.mono HB5.out.size)
  have HN6 : Hid (CellsAt w6 gN 171 cN) := CellsAt.later HN5.out hb6
  have s1 := (CellsAt.cell (CellsAt.later HC5.out hb6) lab).trans (by rw [← HcS.out]; exact tab_get sc hlab : cS[lab]? = some (.int .i64 (sc lab)))
  have s2 := (CellsAt.cell (CellsAt.later HC5.out hb6) rv).trans (by rw [← HcS.out]; exact tab_get sc hrv : cS[rv]? = some (.int .i64 (sc rv)))
  clear hb6 HB5 HN5 HC5 HScB
  have HP6 : Hid (PullAt w w6 gp (flat G)) := ⟨CellsAt.kept HP.out.P HB6.out hgp, Spared.of_below HB6.out _⟩
  generalize sc lab = sl at *
  generalize sc rv = sr at *
  by_cases hms : sl - sr < 65536
  · have hd' : decide ((65536 : Int) ≤ sl - sr) = false := by simp; omega
    have HMt : Hid (missN st.w (lab, txt) = true) := by show _ = _; rw [HMs.out]; simpa using hms
    have HRg : Hid (∀ n, (w6.drewN n).rangeAt gN 0 cN) := fun n => by
      have h : CellsAt (w6.drewN n) gN 171 cN := HN6.out
      exact CellsAt.range h
    have HI3 : Hid ((Tryz.prog.info? 62).map (·.size) = some cN.length) := by show _ = _; rw [HNl.out]; exact info_c32
    go_wp2_with fail
    go_quiet (fail)
    go_wp2_with (refine wpList_load_mid rfl 62 (.tmp 36) rfl _ _ rfl cN _ (HRg.out _) Tryz.underlying62 rfl HI3.out ?_)
    have H0 : Hid (PullAt w (w6.drewN nq) gp (flat (addTo G lab rv (countsN txt) 0))) := by
      show PullAt _ _ _ _
      rw [addTo_zero]; exact HP6.out.drewN nq
    clear HP6 HN6 s1 s2 hs1 hs2 hd' hms HMs HRg
    go_loopw [38] (fun bv wq => ∃ b : Nat, b ≤ 32 ∧ bv = .int .i64 b ∧ Hid (PullAt w wq gp (flat (addTo G lab rv (countsN txt) b)))) (fun b _ => 32 - (intOf b).toNat)
    case atStart => exact ⟨0, by omega, rfl, H0⟩
    case round =>
      obtain ⟨b, hb, rfl, HT⟩ := hrel
      clear H0
      by_cases hbl : b < 32
      · have g1 := (HT.out.P.cell (lab * 32 + b)).trans (tab_get _ (show lab * 32 + b < 128 by omega))
        rw [flat_at _ hbl, addTo_lab] at g1
        have f1 := HT.out.P.frozen (lab * 32 + b)
        have HV : Hid (cN.toArray[b]? = some (.int .i64 ((countsN txt b : Nat) : Int))) := by show _ = _; simp only [List.getElem?_toArray]; rw [← HcN.out]; exact tab_get (fun b => ((countsN txt b : Nat) : Int)) hbl
        have HTa : Hid (PullAt w (wr.setCell ⟨gp, lab * 32 + b, none⟩ (.int .i64 (G lab b + (countsN txt b : Nat)))).drew gp (upd (flat (addTo G lab rv (countsN txt) b)) (lab * 32 + b) (G lab b + (countsN txt b : Nat)))) := (HT.out.set _ _).drew
        have hG1 := HG.out lab b
        have hG2 := HG.out rv b
        have hcn := countsN_le txt b
        have HN := addTo_next G lab rv (countsN txt) b hne hbl
        have g2' : flat (addTo G lab rv (countsN txt) b) (rv * 32 + b) = G rv b := by rw [flat_at _ hbl, addTo_rv]
        clear HT
        generalize flat (addTo G lab rv (countsN txt) b) = fB at *
        generalize G lab b = x1 at *
        generalize G rv b = x2 at *
        generalize countsN txt b = y1 at *
        have HNx : Hid _ := HN
        have HG2 : Hid _ := g2'
        clear HN g2'
        go_wp2_with (refine wpList_index_one rfl 62 (.tmp 37) (.tmp 38) rfl 2 32 _ b _ rfl rfl Tryz.underlying62 _ Tryz.underlying2 rfl info_c1 hbl HV.out ?_)
        go_region
        clear g1 f1
        generalize (wr.setCell ⟨gp, lab * 32 + b, none⟩ (.int .i64 (x1 + (y1 : Int)))).drew = w7 at *
        have g2 := (HTa.out.P.cell (rv * 32 + b)).trans (tab_get _ (show rv * 32 + b < 128 by omega))
        have g3 : upd fB (lab * 32 + b) (x1 + (y1 : Int)) (rv * 32 + b) = x2 := by
          simp only [upd]; rw [if_neg (by omega)]; exact HG2.out
        rw [g3] at g2
        have f2 := HTa.out.P.frozen (rv * 32 + b)
        clear g3
        have HTb : Hid (PullAt w (w7.setCell ⟨gp, rv * 32 + b, none⟩ (.int .i64 (x2 - (y1 : Int)))).drew gp (flat (addTo G lab rv (countsN txt) (b + 1)))) := ((HTa.out.set _ _).drew).to HNx.out
        clear HTa HNx HG2
        go_wp2_with fail
        go_region
        go_wp2
        go_roundw
        case rel => exact ⟨b + 1, by omega, by go_num, HTb⟩
        case measure => simp [intOf]; omega
      · obtain rfl : b = 32 := by omega
        have HT2 : Hid (PullAt w wr gp (flat (addN st.w (lab, txt) G))) := by
          have h := HT.out
          rw [add_yes st.w G lab rv txt HMt.out HRv.out] at h
          exact h
        go_wp2
        go_ret
        exact ⟨by rw [HMt.out]; rfl, HT2.out⟩
  · have hd' : decide ((65536 : Int) ≤ sl - sr) = true := by simp; omega
    have HMt : Hid (missN st.w (lab, txt) = false) := by show _ = _; rw [HMs.out]; simpa using hms
    have HAn : Hid (addN st.w (lab, txt) G = G) := add_no _ _ _ HMt.out
    go_wp2_with fail
    go_quiet (fail)
    go_wp2
    go_ret
    exact ⟨by rw [HMt.out]; rfl, by rw [HAn.out]; exact HP6.out.drewN _⟩
end Go.Proofs.YtfpodnleimhohabGreatDoor
