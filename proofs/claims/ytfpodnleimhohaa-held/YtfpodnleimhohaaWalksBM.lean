/-
  WALKS: steps of a run, one after the other.
-/
import Derived.Test.YtfpodnleimhohaaWalksBK
import Derived.Test.YtfpodnleimhohaaOpen2
namespace Go.Proofs.Ytfpodnleimhohaa
open Go.RowKit
set_option linter.unusedVariables false
variable {mk : ByteArray}

/-- A run so many steps later. -/
def itN (c : Cf) (X : List Ex) (s : St) : Nat → St
  | 0 => s
  | k + 1 => stepN c X (itN c X s k)
theorem itN_steps (c : Cf) (X : List Ex) (s : St) (k : Nat) : (itN c X s k).steps = s.steps + k := by
  induction k with
  | zero => rfl
  | succ k ih => show (itN c X s k).steps + 1 = _; rw [ih]; omega
theorem itN_ok (c : Cf) (X : List Ex) (s : St) (hs : s.Ok) (k : Nat) (hk : s.steps + k ≤ 400) : (itN c X s k).Ok := by
  cases k with
  | zero => exact hs
  | succ k => exact stepN_ok c X _ (by rw [itN_steps]; omega)
theorem itN_zero (c : Cf) (X : List Ex) (k : Nat) : itN c X St.zero k = runN c X k := by
  induction k with
  | zero => rfl
  | succ k ih => show stepN c X _ = stepN c X _; rw [ih]
/-- How many rows miss, step by step. -/
def missL (c : Cf) (X : List Ex) (s : St) (n : Nat) : List Nat := (List.range n).map fun i => missedN c X (itN c X s i) 0 c.batch
theorem missL_snoc (c : Cf) (X : List Ex) (s : St) (n : Nat) : missL c X s (n + 1) = missL c X s n ++ [missedN c X (itN c X s n) 0 c.batch] := by
  unfold missL
  rw [List.range_succ, List.map_append]; rfl
/-- By how many workers step i goes. -/
def byN (lw : Nat) (N : Nat → Int) (i : Nat) : Nat := if lw = 0 then 1 else 1 + pickN (N (i % lw)) 8
theorem byN_ok (lw : Nat) (N : Nat → Int) (i : Nat) : 1 ≤ byN lw N i ∧ byN lw N i ≤ 8 := by
  unfold byN
  split
  · omega
  · have := pickN_lt (N (i % lw)) (n := 8) (by decide)
    omega
theorem workTo_get (cf : Cf) (X : List Ex) (st : St) (W i j : Nat) (h : j < i) : (workTo cf X st W i)[j]? = some (workN cf X st W j) := by
  unfold workTo
  rw [List.getElem?_map, List.getElem?_range h]; rfl
theorem sumNat_le (f : Nat → Nat) (m : Nat) (h : ∀ i, f i ≤ m) : ∀ k, sumNat f k ≤ k * m := by
  intro k
  induction k with
  | zero => simp [sumNat]
  | succ k ih => simp only [sumNat]; have := h k; rw [Nat.succ_mul]; omega

set_option maxRecDepth 100000 in
set_option maxHeartbeats 8000000 in
theorem steps_any (g : Nat) (cf : Cf) (hcf : cf.Ok) (aX : Option Addr) (cX bX : Nat) (X : List Ex) (hX : ∀ x ∈ X, x.1 < 4 ∧ x.2.length ≤ 200) (hn1 : 1 ≤ X.length) (hn2 : X.length ≤ 600) (st : St) (hst : st.Ok) (n : Nat) (hn : st.steps + n ≤ 400)
    (aw : Option Addr) (lw cw : Nat) (N : Nat → Int) (w : World) (hW : IsInts w aw lw cw N) (hWg : lw ≠ 0 → ∀ b o, aw = some ⟨b, o, none⟩ → b ≠ g)
    (hR : ProgRun w g cf mk (.slice aX X.length cX) st) (hO : w.ownsRow bX 27 2 (.slice aX X.length cX) X.length (exNsCells X)) :
    Calls Try.prog 32 #[.pointer (some ⟨g, 0, none⟩), .agg (cfCells cf).toArray, .slice aw lw cw, .int .i64 n] w fun e w' => ∃ v, e = .returned (.tuple #[v, .bool true]) ∧ w'.ownsRow w.heap.size 3 1 v n (intCells (missL cf X st n)) ∧
      ProgRun w' g cf mk (.slice aX X.length cX) (itN cf X st n) ∧ w'.ownsRow bX 27 2 (.slice aX X.length cX) X.length (exNsCells X) ∧ Spared w w' (fun j => j = g) := by
  obtain ⟨i0, hi, hz0, hz1, hz2⟩ := info_parts info_int
  have hgl := CellsAt.lt hR
  have hb8 := hcf.batch8
  have hlm := hW.len
  unfold maxLen at hlm
  have HW : Hid (IsInts w aw lw cw N) := hW
  have HWg : Hid _ := hWg
  have HX : Hid _ := hX
  have HRO : Hid (ProgRun w g cf mk (.slice aX X.length cX) st ∧ w.ownsRow bX 27 2 (.slice aX X.length cX) X.length (exNsCells X)) := ⟨hR, hO⟩
  clear hR hO hX hW hWg
  obtain ⟨sd, bt, ra, mo, de⟩ := cf
  simp only at hb8
  show Calls Try.prog 32 #[.pointer (some ⟨g, 0, none⟩), .agg #[.int .u64 sd, .int .u8 bt, .int .i32 ra, .int .i32 mo, .int .u8 de], .slice aw lw cw, .int .i64 n] w _
  go_enter Try.func32, Try.ntmps32
  go_wp2_with fail
  obtain ⟨w0, Hw0⟩ : ∃ w0, Hid (w.alloc (.cells #[.int .u64 sd, .int .u8 bt, .int .i32 ra, .int .i32 mo, .int .u8 de] 70) = w0) := ⟨_, (rfl : _ = _)⟩
  have HB0 : Hid (Spared w w0 (fun j => j = g)) := by rw [← Hw0.out]; exact Spared.of_below ((Below.refl _ _).alloc (Nat.le_refl _) _) _
  have HC0 : Hid (CellsAt w0 w.heap.size 70 [.int .u64 sd, .int .u8 bt, .int .i32 ra, .int .i32 mo, .int .u8 de]) := by rw [← Hw0.out]; exact CellsAt.new w _ _ _ rfl rfl
  have HRO0 : Hid (ProgRun w0 g ⟨sd, bt, ra, mo, de⟩ mk (.slice aX X.length cX) st ∧ w0.ownsRow bX 27 2 (.slice aX X.length cX) X.length (exNsCells X)) := by
    rw [← Hw0.out]
    exact ⟨CellsAt.alloc HRO.out.1 _, ownsRow_below HRO.out.2 ((Below.refl _ _).alloc (Nat.le_refl _) _)⟩
  rw [Hw0.out]
  clear Hw0 HRO
  obtain ⟨cf, Hcf⟩ : ∃ cf : Cf, Hid (cf = ⟨sd, bt, ra, mo, de⟩) := ⟨_, (rfl : _ = _)⟩
  rw [← Hcf.out] at HRO0 hcf
  have HBt : Hid (cf.batch = bt) := by show _ = _; rw [Hcf.out]
  go_loopg [10, 11] n (fun gk v iv wr => ∃ i : Nat, gk + i = n ∧ iv = .int .i64 i ∧ wr.ownsRow w.heap.size 3 1 v i (intCells (missL cf X st i)) ∧ Hid (ProgRun wr g cf mk (.slice aX X.length cX) (itN cf X st i) ∧ wr.ownsRow bX 27 2 (.slice aX X.length cX) X.length (exNsCells X) ∧ CellsAt wr w.heap.size 70 [.int .u64 sd, .int .u8 bt, .int .i32 ra, .int .i32 mo, .int .u8 de] ∧ Spared w wr (fun j => j = g)))
  case atStart => exact ⟨0, by omega, rfl, World.ownsRow_nil _ _ _ _, ⟨HRO0.out.1, HRO0.out.2, HC0.out, HB0.out⟩⟩
  case round =>
    obtain ⟨i, hgi, rfl, hown, HT⟩ := hrel
    obtain ⟨gK, hgK⟩ : ∃ gK, gK = gk := ⟨_, rfl⟩
    clear HRO0 HC0 HB0
    by_cases hlt : i < n
    · obtain ⟨k, Hk⟩ : ∃ k, Hid (byN lw N i = k) := ⟨_, (rfl : _ = _)⟩
      have hk := byN_ok lw N i
      rw [Hk.out] at hk
      have HW1 : Hid (IsInts wr aw lw cw N) := by
        by_cases hl0 : lw = 0
        · exact .inl hl0
        rcases HW.out with h | ⟨b, off, h1, h2, h3, h4, h5⟩
        · exact .inl h
        · exact .inr ⟨b, off, h1, h2, h3, Nat.lt_of_lt_of_le h4 HT.out.2.2.2.size, fun j hj => ⟨(World.cell?_of_block (w := w) (a := ⟨b, off + j, none⟩) (HT.out.2.2.2.block b h4 (HWg.out hl0 b off h1))).trans (h5 j hj).1, (h5 j hj).2⟩⟩
      go_upto_if 25 with fail
      go_cut [12] (fun kv wc => kv = .int .i64 k ∧ wc = wr)
      case first =>
        by_cases hl0 : lw = 0
        · subst hl0
          have HK1 : Hid (k = 1) := by show _ = _; rw [← Hk.out]; rfl
          go_wp2
          go_meet
          case rel => exact ⟨by rw [HK1.out]; rfl, rfl⟩
        · obtain ⟨b, off, rfl, h2, h3, h4, h5⟩ := HW1.out.resolve_left hl0
          have hml := Nat.mod_lt i (show 0 < lw by omega)
          obtain ⟨c5, l5, u5⟩ := h5 _ hml
          have HK1 : Hid (k = 1 + pickN (N (i % lw)) 8) := by show _ = _; rw [← Hk.out]; unfold byN; rw [if_neg hl0]
          have hp8 := pickN_lt (N (i % lw)) (n := 8) (by decide)
          obtain ⟨z, Hz⟩ : ∃ z, Hid (i % lw = z) := ⟨_, (rfl : _ = _)⟩
          rw [Hz.out] at hml c5 l5 u5 HK1 hp8
          have hq2 : (i : Int) % (lw : Int) = (z : Int) := by rw [← Hz.out, Int.natCast_emod]
          have hq4 : (i : Int).tmod (lw : Int) = (z : Int) := by rw [Int.tmod_eq_emod_of_nonneg (by omega)]; exact hq2
          have hl0' : ((lw : Int) == 0) = false := beq_eq_false_iff_ne.2 (by omega)
          have hl1 : ¬ ((lw : Int) = 0) := by omega
          have hlp : (0 : Int) < (lw : Int) := by omega
          unfold maxLen at h3
          clear h5
          go_wp2_with fail
          refine (pick_any (N z) 8 l5 u5 (by omega) (by omega) _).mono ?_
          rintro e w2 ⟨rfl, hw⟩
          have hw' := hw.symm
          clear hw
          subst hw'
          generalize pickN (N z) 8 = y at *
          go_wp2
          go_meet
          case rel => exact ⟨by rw [HK1.out]; go_num, rfl⟩
      case rest =>
        obtain ⟨rfl, rfl⟩ := hcut
        have HOk := itN_ok cf X st hst i (by omega)
        have h4 : (itN cf X st i).steps < 400 := by rw [itN_steps]; omega
        have HIt : Hid (itN cf X st (i + 1) = stepN cf X (itN cf X st i)) := rfl
        have HSn : Hid _ := missL_snoc cf X st i
        obtain ⟨hk1, hk8⟩ := hk
        have HAll : Hid (sumNat (workN cf X (itN cf X st i) k) k = missedN cf X (itN cf X st i) 0 cf.batch) := workers_all cf X (itN cf X st i) hk1
        have HWl : Hid (∀ h, workN cf X (itN cf X st i) k h ≤ (h + 1) * cf.batch / k - h * cf.batch / k) := fun h => workN_le cf X (itN cf X st i) k h
        have HQb : Hid (∀ h, h ≤ k → h * cf.batch / k ≤ cf.batch) := fun h hh => Nat.div_le_of_le_mul (Nat.mul_le_mul_right _ hh)
        have HGt : Hid _ := workTo_get cf X (itN cf X st i) k k
        rw [HBt.out] at HWl HQb
        go_wp2_with fail
        refine (progStep_any g cf hcf aX cX bX X HX.out hn1 hn2 (itN cf X st i) HOk h4 k ⟨hk1, hk8⟩ _ HT.out.1 HT.out.2.1).mono ?_
        rintro e w5 ⟨vl, rfl, hl5, hP5, hS5⟩
        have HPO : Hid (ProgRun w5 g cf mk (.slice aX X.length cX) (itN cf X st (i + 1)) ∧ w5.ownsRow bX 27 2 (.slice aX X.length cX) X.length (exNsCells X) ∧ CellsAt w5 w.heap.size 70 [.int .u64 sd, .int .u8 bt, .int .i32 ra, .int .i32 mo, .int .u8 de] ∧ Spared w w5 (fun j => j = g)) := by
          refine ⟨by rw [HIt.out]; exact hP5, ownsRow_spared HT.out.2.1 hS5 (fun j hj e => ?_), (hS5.block _ HT.out.2.2.1.lt (fun e => by have e' : w.heap.size = g := e; omega)).trans HT.out.2.2.1, HT.out.2.2.2.trans hS5 (fun _ _ h => h)⟩
          subst e
          exact own_ne HT.out.2.1 HT.out.1 (by decide) hj
        have ho5 : w5.ownsRow w.heap.size 3 1 u10 i (intCells (missL cf X st i)) := ownsRow_spared hown hS5 (fun j hj e => by have := (hown.lt j hj).1; have e' : j = g := e; omega)
        have hws : w.heap.size ≤ w5.heap.size := HPO.out.2.2.2.size
        have hcc := CellsAt.cell HPO.out.2.2.1 1
        simp only [List.getElem?_cons_zero, List.getElem?_cons_succ] at hcc
        obtain ⟨al, cl, hvl, hcl1, hcl2, hrd⟩ := own_read hl5
        subst hvl
        have HRD : Hid _ := hrd
        unfold maxLen at hcl2
        clear hrd hl5 hP5 hS5 HT hown HW1 Hk HOk
        generalize workN cf X (itN cf X st i) k = F at *
        have HFb : Hid (∀ h, h < k → F h ≤ 8) := fun h hh => by
          have h1 := HWl.out h
          have h2 := HQb.out (h + 1) hh
          exact Nat.le_trans h1 (Nat.le_trans (Nat.sub_le _ _) (Nat.le_trans h2 hb8))
        go_wp2_with fail
        go_loopg [15, 16] k (fun gq sv hv wq => ∃ (h nq : Nat), gq + h = k ∧ hv = .int .i64 h ∧ sv = .int .i64 (sumNat F h : Nat) ∧ sumNat F h ≤ 8 * h ∧ wq = w5.drewN nq)
        case atStart => exact ⟨0, 0, by omega, rfl, rfl, by simp [sumNat], rfl⟩
        case round =>
          obtain ⟨h, nq, hgh, rfl, rfl, hsb, rfl⟩ := hrel
          by_cases hhl : h < k
          · obtain ⟨p, Hp⟩ : ∃ p, Hid (h * bt = p) := ⟨_, (rfl : _ = _)⟩
            obtain ⟨p', Hp'⟩ : ∃ p, Hid ((h + 1) * bt = p) := ⟨_, (rfl : _ = _)⟩
            obtain ⟨lo, Hlo⟩ : ∃ q, Hid (p / k = q) := ⟨_, (rfl : _ = _)⟩
            obtain ⟨hi', Hhi⟩ : ∃ q, Hid (p' / k = q) := ⟨_, (rfl : _ = _)⟩
            have hp1 : (h : Int) * (bt : Int) = (p : Int) := by rw [← Hp.out, Int.natCast_mul]
            have hp2 : ((h : Int) + 1) * (bt : Int) = (p' : Int) := by rw [← Hp'.out, Int.natCast_mul]; rfl
            have hpb : p ≤ 64 := by rw [← Hp.out]; exact Nat.le_trans (Nat.mul_le_mul (show h ≤ 8 by omega) hb8) (by decide)
            have hpb' : p' ≤ 64 := by rw [← Hp'.out]; exact Nat.le_trans (Nat.mul_le_mul (show h + 1 ≤ 8 by omega) hb8) (by decide)
            have hl1 : (p : Int) / (k : Int) = (lo : Int) := by rw [← Hlo.out, Int.natCast_ediv]
            have hl2 : (p' : Int) / (k : Int) = (hi' : Int) := by rw [← Hhi.out, Int.natCast_ediv]
            have hl3 : (p : Int).tdiv (k : Int) = (lo : Int) := by rw [Int.tdiv_eq_ediv_of_nonneg (by omega)]; exact hl1
            have hl4 : (p' : Int).tdiv (k : Int) = (hi' : Int) := by rw [Int.tdiv_eq_ediv_of_nonneg (by omega)]; exact hl2
            have hk0 : ((k : Int) == 0) = false := beq_eq_false_iff_ne.2 (by omega)
            have hlob : lo ≤ hi' := by rw [← Hlo.out, ← Hhi.out, ← Hp.out, ← Hp'.out]; exact part_le bt k h
            have hhib : hi' ≤ 64 := by have := Nat.div_le_self p' k; rw [Hhi.out] at this; omega
            have hfl := HWl.out h
            rw [Hp.out, Hp'.out, Hlo.out, Hhi.out] at hfl
            have hfb := HFb.out h hhl
            obtain ⟨gl, rfl, hgl1, hgl2, hgl3⟩ := HRD.out (by omega)
            have hce := (hgl3 h (by omega)).trans (intCells_get (HGt.out h hhl))
            have HSu : Hid (sumNat F (h + 1) = sumNat F h + F h) := rfl
            generalize sumNat F h = sm at *
            generalize F h = fh at *
            have hn0 : decide ((fh : Int) < 0) = false := by simp
            have hn1' : decide ((hi' : Int) - (lo : Int) < (fh : Int)) = false := by simp; omega
            have hcc' : (w5.drewN nq).cell? ⟨w.heap.size, 1, none⟩ = some (.int .u8 bt) := hcc
            have hce' : (w5.drewN nq).cell? ⟨gl, h, none⟩ = some (.int .i64 fh) := hce
            clear hgl3 hl1 hl2
            go_wp2_with fail
            go_quiet (fail)
            go_wp2
            go_roundg (gk - 1)
            case measure => omega
            case rel => exact ⟨h + 1, _, by omega, by go_num, by rw [HSu.out]; go_num, by rw [HSu.out]; omega, rfl⟩
          · obtain rfl : h = k := by omega
            rw [HAll.out] at hsb ⊢
            have HPO6 : Hid (ProgRun (w5.drewN nq) g cf mk (.slice aX X.length cX) (itN cf X st (i + 1)) ∧ (w5.drewN nq).ownsRow bX 27 2 (.slice aX X.length cX) X.length (exNsCells X) ∧ CellsAt (w5.drewN nq) w.heap.size 70 [.int .u64 sd, .int .u8 bt, .int .i32 ra, .int .i32 mo, .int .u8 de] ∧ Spared w (w5.drewN nq) (fun j => j = g)) :=
              ⟨HPO.out.1, HPO.out.2.1, HPO.out.2.2.1, ⟨HPO.out.2.2.2.os, HPO.out.2.2.2.tape, HPO.out.2.2.2.output, HPO.out.2.2.2.size, HPO.out.2.2.2.block⟩⟩
            have ho6 : (w5.drewN nq).ownsRow w.heap.size 3 1 u10 i (intCells (missL cf X st i)) := ho5
            have hws6 : w.heap.size ≤ (w5.drewN nq).heap.size := hws
            generalize missedN cf X (itN cf X st i) 0 cf.batch = mw at *
            generalize w5.drewN nq = w6 at *
            clear ho5 HPO hws hcc HRD HFb HGt HWl HQb HAll
            go_wp2_with (at_builtin; refine wpList_append_own _ rfl (.tmp 91) (.tmp 93) 75 rfl w.heap.size 3 i0 (.int .i64 0) 1 8 Try.underlying75 hi hz0 hz1 hz2 rfl (by decide) _ _ _ rfl (ho6.alloc _) ⟨w6.heap.size, 0, none⟩ 1 1 [.int .i64 mw] rfl rfl (news_at _ _ rfl _ _ _ rfl) (oneCell_nums _ rfl) (by unfold maxLen; omega) (by omega) (by simp; omega) ?_; intro v' w7 ho7 hgr hxx; clear hxx)
            have HPO7 : Hid (ProgRun w7 g cf mk (.slice aX X.length cX) (itN cf X st (i + 1)) ∧ w7.ownsRow bX 27 2 (.slice aX X.length cX) X.length (exNsCells X) ∧ CellsAt w7 w.heap.size 70 [.int .u64 sd, .int .u8 bt, .int .i32 ra, .int .i32 mo, .int .u8 de] ∧ Spared w w7 (fun j => j = g)) := by
              have n1 := own_ne ho6 HPO6.out.1 (by decide)
              have n2 := own_ne ho6 HPO6.out.2.2.1 (by decide)
              refine ⟨CellsAt.grown (CellsAt.alloc HPO6.out.1 _) hgr n1, ?_, CellsAt.grown (CellsAt.alloc HPO6.out.2.2.1 _) hgr n2, ?_⟩
              · have hb := ownsRow_below HPO6.out.2.1 ((Below.refl _ w6).alloc (Nat.le_refl _) (.cells #[.int .i64 mw] 3))
                have ha := ho6.alloc (.cells #[.int .i64 mw] 3)
                exact ownsRow_spared hb (Spared.of_grown hgr) (fun j hj h => by
                  obtain ⟨cs, hc⟩ := own_tag hb hj
                  exact own_ne ha hc (by decide) h.symm)
              · exact (HPO6.out.2.2.2.trans (Spared.of_below ((Below.refl _ w6).alloc (Nat.le_refl _) (.cells #[.int .i64 mw] 3)) (fun j => j = g)) (fun _ _ h => h)).trans (Spared.of_grown hgr) (fun j hj h => by
                  have := (ho6.lt j h.symm).1
                  omega)
            go_roundg (gK - 1)
            case measure => omega
            case rel => exact ⟨i + 1, by omega, by go_num, by rw [HSn.out, intCells_snoc]; exact ho7, HPO7⟩
    · obtain rfl : i = n := by omega
      go_wp2
      go_ret2
      exact ⟨u10, rfl, by rw [← Hcf.out]; exact hown, by rw [← Hcf.out]; exact HT.out.1, HT.out.2.1, HT.out.2.2.2⟩
end Go.Proofs.Ytfpodnleimhohaa
