/-
  WALKS: the program's rows of a worker; its Step.
-/
import Derived.Test.YtfpodnleimhohabWalksBG
import Derived.Test.YtfpodnleimhohabWalksBD
namespace Go.Proofs.Ytfpodnleimhohab
open Go.RowKit
set_option linter.unusedVariables false
variable {mk : ByteArray}

/-- G of the rows from p to below q. -/
theorem missedN_more (c : Cf) (X : List Ex) (s : St) (p q : Nat) (h : p ≤ q) : missedN c X s p (q + 1) = missedN c X s p q + (if missN s.w (rowN c X (s.steps * c.batch + q)) then 1 else 0) := by
  simp only [missedN]
  by_cases hm : missN s.w (rowN c X (s.steps * c.batch + q)) = true
  · rw [if_pos ⟨h, hm⟩, if_pos hm]
  · rw [if_neg (fun e => hm e.2), if_neg hm]
theorem missedN_none (c : Cf) (X : List Ex) (s : St) (p : Nat) : ∀ q, q ≤ p → missedN c X s p q = 0 := by
  intro q
  induction q with
  | zero => intro _; rfl
  | succ q ih => intro h; simp only [missedN]; rw [ih (by omega), if_neg (fun e => by omega)]

set_option maxRecDepth 100000 in
set_option maxHeartbeats 4000000 in
theorem rows_any (g : Nat) (cf : Cf) (hcf : cf.Ok) (aX : Option Addr) (cX bX : Nat) (X : List Ex) (hX : ∀ x ∈ X, x.1 < 4 ∧ x.2.length ≤ 200) (hn1 : 1 ≤ X.length) (hn2 : X.length ≤ 600) (st : St) (hst : st.Ok) (h4 : st.steps < 400) (p q : Nat) (hpq : p ≤ q) (hq : q ≤ cf.batch) (gp : Nat) (hne : gp ≠ g) (w : World)
    (hR : ProgRun w g cf mk (.slice aX X.length cX) st) (hO : w.ownsRow bX 72 2 (.slice aX X.length cX) X.length (exNsCells X)) (hP : CellsAt w gp 85 (tab 128 (flat (gradN cf X st p)))) (hgx : ∀ k, aX = some ⟨k, 0, none⟩ → k ≠ gp) :
    Calls Try.prog 30 #[.pointer (some ⟨g, 0, none⟩), .int .i64 p, .int .i64 q, .pointer (some ⟨gp, 0, none⟩)] w fun e w' => e = .returned (.int .i64 (missedN cf X st p q : Nat)) ∧ PullAt w w' gp (flat (gradN cf X st q)) := by
  have hgl := CellsAt.lt hR
  have hgp := hP.lt
  have hb8 := hcf.batch8
  have d5 := (CellsAt.cell hR 6).trans (pr_head cf (.slice aX X.length cX) st (by decide))
  simp only [prHead, List.getElem?_cons_zero, List.getElem?_cons_succ] at d5
  have HR : Hid (ProgRun w g cf mk (.slice aX X.length cX) st) := hR
  have HX : Hid _ := hX
  obtain ⟨_, _, hLv, hcL1, hcL2, hrd⟩ := own_read hO
  simp only [Value.slice.injEq, true_and] at hLv
  obtain ⟨rfl, rfl⟩ := hLv
  obtain ⟨gX, rfl, _, hgXl, hgc⟩ := hrd (by omega)
  have HGC : Hid _ := hgc
  have hgX := hgx gX rfl
  unfold maxLen at hcL2
  have H0 : Hid (PullAt w w gp (flat (gradN cf X st p))) := ⟨hP, Spared.refl _ _⟩
  clear hrd hgc hR hO hP hX hgx
  obtain ⟨n, Hn⟩ : ∃ n, Hid (X.length = n) := ⟨_, (rfl : _ = _)⟩
  have hms : st.steps * cf.batch ≤ 399 * 8 := Nat.mul_le_mul (by omega) hb8
  have HRow : Hid (∀ k, rowN cf X (st.steps * cf.batch + k) = X.getD (drawN cf X.length (st.steps * cf.batch + k)) (0, [])) := fun k => rfl
  have HMp : Hid (missedN cf X st p p = 0) := missedN_none cf X st p p (Nat.le_refl _)
  go_enter Try.func30, Try.ntmps30
  go_wp2_with fail
  refine (nextDraw_any g cf hcf _ st hst _ HR.out).mono ?_
  rintro e w1 ⟨rfl, n1, rfl⟩
  obtain ⟨m, Hm⟩ : ∃ m, Hid (st.steps * cf.batch = m) := ⟨_, (rfl : _ = _)⟩
  rw [Hm.out] at hms ⊢
  go_wp2_with fail
  have H1 : Hid (PullAt w (w.drewN n1) gp (flat (gradN cf X st p))) := H0.out.drewN n1
  generalize w.drewN n1 = w1 at *
  clear H0
  go_loopg [10, 11] (q - p) (fun gk mv rv wr => ∃ row : Nat, gk + row = q ∧ p ≤ row ∧ rv = .int .i64 row ∧ mv = .int .i64 (missedN cf X st p row : Nat) ∧ missedN cf X st p row ≤ row ∧ Hid (PullAt w wr gp (flat (gradN cf X st row))))
  case atStart => exact ⟨p, by omega, Nat.le_refl _, rfl, by rw [HMp.out]; rfl, by rw [HMp.out]; omega, H1⟩
  case round =>
    obtain ⟨row, hgk, hpr, rfl, rfl, hmr, HT⟩ := hrel
    clear H1
    by_cases hlt : row < q
    · have HR1 : Hid (ProgRun wr g cf mk (.slice (some ⟨gX, 0, none⟩) X.length cX) st) := by
        show CellsAt _ _ _ _
        exact (HT.out.s.block g hgl (fun e => hne e.symm)).trans HR.out
      go_wp2_with fail
      rw [show (m : Int) + (row : Int) = ((m + row : Nat) : Int) by omega]
      refine (drawn_any g cf hcf _ X.length cX hn1 (by omega) st (m + row) (by omega) _ HR1.out).mono ?_
      rintro e w2 ⟨rfl, n2, rfl⟩
      have hx := drawN_lt cf (n := X.length) (m + row) hn1 (by omega)
      have hrow := HRow.out row
      rw [Hm.out] at hrow
      obtain ⟨x, Hx⟩ : ∃ x, Hid (drawN cf X.length (m + row) = x) := ⟨_, (rfl : _ = _)⟩
      rw [Hx.out] at hx hrow ⊢
      have hxe := List.getElem?_eq_getElem hx
      rw [List.getD_eq_getElem?_getD, hxe] at hrow
      have hok := HX.out _ (List.getElem_mem hx)
      obtain ⟨q0, q1⟩ := exN_get hxe
      generalize X[x] = ex at *
      obtain ⟨lab, txt⟩ := ex
      simp only [Option.getD_some] at hrow hok q0 q1
      obtain ⟨hlab, htx⟩ := hok
      have HGr : Hid (gradN cf X st (row + 1) = addN st.w (lab, txt) (gradN cf X st row)) := by
        show _ = _
        simp only [gradN]
        rw [Hm.out, hrow]
      have HMi : Hid (missedN cf X st p (row + 1) = missedN cf X st p row + (if missN st.w (lab, txt) then 1 else 0)) := by
        show _ = _
        rw [missedN_more cf X st p row hpr, Hm.out, hrow]
      have HGb : Hid (∀ c b, -1000 ≤ gradN cf X st row c b ∧ gradN cf X st row c b ≤ 1000) := fun c b => by
        have := gradN_le cf X st row c b
        omega
      have HR2 : Hid (ProgRun (wr.drewN n2).drew g cf mk (.slice (some ⟨gX, 0, none⟩) X.length cX) st) := HR1.out
      have HT2 : Hid (PullAt w (wr.drewN n2) gp (flat (gradN cf X st row))) := HT.out.drewN n2
      have HP2 : Hid (CellsAt (wr.drewN n2).drew gp 85 (tab 128 (flat (gradN cf X st row)))) := HT.out.P
      have e5 : (wr.drewN n2).cell? ⟨g, 6, none⟩ = some (.slice (some ⟨gX, 0, none⟩) X.length cX) := by
        have h := (CellsAt.cell HR1.out 6).trans (pr_head cf (.slice (some ⟨gX, 0, none⟩) X.length cX) st (by decide))
        simp only [prHead, List.getElem?_cons_zero, List.getElem?_cons_succ] at h
        exact h
      have hcl : ∀ j, (wr.drewN n2).cell? ⟨gX, j, none⟩ = w.cell? ⟨gX, j, none⟩ := fun j => World.cell?_of_block (w := w) (a := ⟨gX, j, none⟩) (HT2.out.s.block gX hgXl hgX)
      have e6 := (hcl (x * 2)).trans ((HGC.out _ (by omega)).trans q0)
      have e7 := (hcl (x * 2 + 1)).trans ((HGC.out _ (by omega)).trans q1)
      have hsz := HT2.out.s.size
      clear hcl q0 q1 HT HR1 hxe
      generalize wr.drewN n2 = w2 at *
      have HK : Hid (∀ w', Spared w2 w' (fun k => k = gp) → w'.cell? ⟨g, 6, none⟩ = some (.slice (some ⟨gX, 0, none⟩) X.length cX) ∧ w'.cell? ⟨gX, x * 2, none⟩ = some (.int .u8 lab) ∧ w'.cell? ⟨gX, x * 2 + 1, none⟩ = some (.string (bs txt))) := fun w' hs => by
        refine ⟨(World.cell?_of_block (w := w2) (a := ⟨g, 6, none⟩) (hs.block g (by omega) (fun e => hne e.symm))).trans e5, (World.cell?_of_block (w := w2) (a := ⟨gX, x * 2, none⟩) (hs.block gX (by omega) hgX)).trans e6, (World.cell?_of_block (w := w2) (a := ⟨gX, x * 2 + 1, none⟩) (hs.block gX (by omega) hgX)).trans e7⟩
      have hxi : (x : Int) < (X.length : Int) := by omega
      generalize missedN cf X st p row = mr at *
      obtain ⟨b, Hb⟩ : ∃ b, Hid (missN st.w (lab, txt) = b) := ⟨_, (rfl : _ = _)⟩
      rw [Hb.out] at HMi
      go_wp2_with fail
      go_region_held_law (fun w' => w'.cell? ⟨g, 6, none⟩ = some (.slice (some ⟨gX, 0, none⟩) X.length cX) ∧ w'.cell? ⟨gX, x * 2, none⟩ = some (.int .u8 lab) ∧ w'.cell? ⟨gX, x * 2 + 1, none⟩ = some (.string (bs txt))) (first | exact HK.out _ ⟨hP3.s.os, hP3.s.tape, hP3.s.output, hP3.s.size, hP3.s.block⟩ | go_keep) (first | (go_at_call 48; refine (row_any g 59 (prHead cf mk (.slice (some ⟨gX, 0, none⟩) X.length cX) st.steps) [] 8 rfl st hst lab hlab txt htx gp (gradN cf X st row) HGb.out _ HR2.out HP2.out).mono ?_; rintro e w3 ⟨rfl, hP3⟩))
      rw [Hb.out]
      have HT3 : Hid (PullAt w w3 gp (flat (gradN cf X st (row + 1)))) := by
        refine ⟨?_, ?_⟩
        · rw [HGr.out]; exact hP3.P
        · exact HT2.out.s.trans ⟨hP3.s.os, hP3.s.tape, hP3.s.output, hP3.s.size, hP3.s.block⟩ (fun _ _ h => h)
      clear hP3 HK e5 e6 e7 HR2 HP2 HT2
      cases b with
      | true =>
        simp only [if_true] at HMi
        go_wp2
        go_roundg (gk - 1)
        case measure => omega
        case rel => exact ⟨row + 1, by omega, by omega, by go_num, by rw [HMi.out]; go_num, by rw [HMi.out]; omega, HT3⟩
      | false =>
        simp only [Bool.false_eq_true, if_false, Nat.add_zero] at HMi
        go_wp2
        go_roundg (gk - 1)
        case measure => omega
        case rel => exact ⟨row + 1, by omega, by omega, by go_num, by rw [HMi.out], by rw [HMi.out]; omega, HT3⟩
    · obtain rfl : row = q := by omega
      go_wp2
      go_ret
      exact ⟨rfl, HT.out⟩
end Go.Proofs.Ytfpodnleimhohab
