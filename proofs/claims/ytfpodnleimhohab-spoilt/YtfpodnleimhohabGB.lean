import Derived.Test.YtfpodnleimhohabWalksBK
import Derived.Test.YtfpodnleimhohabGO
import Derived.Test.YtfpodnleimhohabWalksBG
import Derived.Test.YtfpodnleimhohabGen
import Derived.Maps.AppendAt
import Derived.Test.YtfpodnleimhohabWalksSA
import Derived.Test.YtfpodnleimhohabWalks9
import Derived.Test.YtfpodnleimhohabMath3
/-
  WALKS: steps of a run, one after the other.
-/
namespace Go.Proofs.Ytfpodnleimhohab
open Go.RowKit
set_option linter.unusedVariables false
variable {mk : ByteArray}

/-- A run so many steps later. -/
def itN (c : Cf) (X : List Ex) (s : St) : Nat → St
  | 0 => s
  | k + 1 => stepN c X (itN c X s k)
theorem itN_steps (c : Cf) (X : List Ex) (s : St) (k : Nat) : (itN c X s k).steps = s.steps + k := by
  induction k with
  | zero => rfl
  | succ k ih => show (itN c X s k).steps + 1 = _; rw [ih]; omega
theorem itN_ok (c : Cf) (X : List Ex) (s : St) (hs : s.Ok) (k : Nat) (hk : s.steps + k ≤ 400) : (itN c X s k).Ok := by
  cases k with
  | zero => exact hs
  | succ k => exact stepN_ok c X _ (by rw [itN_steps]; omega)
theorem itN_zero (c : Cf) (X : List Ex) (k : Nat) : itN c X St.zero k = runN c X k := by
  induction k with
  | zero => rfl
  | succ k ih => show stepN c X _ = stepN c X _; rw [ih]
/-- How many rows miss, step by step. -/
def missL (c : Cf) (X : List Ex) (s : St) (n : Nat) : List Nat := (List.range n).map fun i => missedN c X (itN c X s i) 0 c.batch
theorem missL_snoc (c : Cf) (X : List Ex) (s : St) (n : Nat) : missL c X s (n + 1) = missL c X s n ++ [missedN c X (itN c X s n) 0 c.batch] := by
  unfold missL
  rw [List.range_succ, List.map_append]; rfl
/-- By how many workers step i goes. -/
def byN (lw : Nat) (N : Nat → Int) (i : Nat) : Nat := if lw = 0 then 1 else 1 + pickN (N (i % lw)) 8
theorem byN_ok (lw : Nat) (N : Nat → Int) (i : Nat) : 1 ≤ byN lw N i ∧ byN lw N i ≤ 8 := by
  unfold byN
  split
  · omega
  · have := pickN_lt (N (i % lw)) (n := 8) (by decide)
    omega
theorem workTo_get (cf : Cf) (X : List Ex) (st : St) (W i j : Nat) (h : j < i) : (workTo cf X st W i)[j]? = some (workN cf X st W j) := by
  unfold workTo
  rw [List.getElem?_map, List.getElem?_range h]; rfl
theorem sumNat_le (f : Nat → Nat) (m : Nat) (h : ∀ i, f i ≤ m) : ∀ k, sumNat f k ≤ k * m := by
  intro k
  induction k with
  | zero => simp [sumNat]
  | succ k ih => simp only [sumNat]; have := h k; rw [Nat.succ_mul]; omega

set_option maxRecDepth 100000 in
set_option maxHeartbeats 8000000 in
theorem steps_any (g : Nat) (cf : Cf) (hcf : cf.Ok) (aX : Option Addr) (cX bX : Nat) (X : List Ex) (hX : ∀ x ∈ X, x.1 < 4 ∧ x.2.length ≤ 200) (hn1 : 1 ≤ X.length) (hn2 : X.length ≤ 600) (st : St) (hst : st.Ok) (n : Nat) (hn : st.steps + n ≤ 400)
    (aw : Option Addr) (lw cw : Nat) (N : Nat → Int) (w : World) (hW : IsInts w aw lw cw N) (hWg : lw ≠ 0 → ∀ b o, aw = some ⟨b, o, none⟩ → b ≠ g)
    (hR : ProgRun w g cf mk (.slice aX X.length cX) st) (hO : w.ownsRow bX 72 2 (.slice aX X.length cX) X.length (exNsCells X)) :
    Calls Try.prog 7 #[.pointer (some ⟨g, 0, none⟩), .agg (cfCells cf).toArray, .slice aw lw cw, .int .i64 n] w fun e w' => ∃ v, e = .returned (.tuple #[v, .bool true]) ∧ w'.ownsRow w.heap.size 3 1 v n (intCells (missL cf X st n)) ∧
      ProgRun w' g cf mk (.slice aX X.length cX) (itN cf X st n) ∧ w'.ownsRow bX 72 2 (.slice aX X.length cX) X.length (exNsCells X) ∧ Spared w w' (fun j => j = g) := by
  obtain ⟨i0, hi, hz0, hz1, hz2⟩ := info_parts info_int
  have hgl := CellsAt.lt hR
  have hb8 := hcf.batch8
  have hlm := hW.len
  unfold maxLen at hlm
  have HW : Hid (IsInts w aw lw cw N) := hW
  have HWg : Hid _ := hWg
  have HX : Hid _ := hX
  have HRO : Hid (ProgRun w g cf mk (.slice aX X.length cX) st ∧ w.ownsRow bX 72 2 (.slice aX X.length cX) X.length (exNsCells X)) := ⟨hR, hO⟩
  clear hR hO hX hW hWg
  obtain ⟨sd, bt, ra, mo, de⟩ := cf
  simp only at hb8
  show Calls Try.prog 7 #[.pointer (some ⟨g, 0, none⟩), .agg #[.int .u64 sd, .int .u8 bt, .int .i32 ra, .int .i32 mo, .int .u8 de], .slice aw lw cw, .int .i64 n] w _
  go_enter Try.func7, Try.ntmps7
  go_wp2_with fail
  obtain ⟨w0, Hw0⟩ : ∃ w0, Hid (w.alloc (.cells #[.int .u64 sd, .int .u8 bt, .int .i32 ra, .int .i32 mo, .int .u8 de] 24) = w0) := ⟨_, (rfl : _ = _)⟩
  have HB0 : Hid (Spared w w0 (fun j => j = g)) := by rw [← Hw0.out]; exact Spared.of_below ((Below.refl _ _).alloc (Nat.le_refl _) _) _
  have HC0 : Hid (CellsAt w0 w.heap.size 24 [.int .u64 sd, .int .u8 bt, .int .i32 ra, .int .i32 mo, .int .u8 de]) := by rw [← Hw0.out]; exact CellsAt.new w _ _ _ rfl rfl
  have HRO0 : Hid (ProgRun w0 g ⟨sd, bt, ra, mo, de⟩ mk (.slice aX X.length cX) st ∧ w0.ownsRow bX 72 2 (.slice aX X.length cX) X.length (exNsCells X)) := by
    rw [← Hw0.out]
    exact ⟨CellsAt.alloc HRO.out.1 _, ownsRow_below HRO.out.2 ((Below.refl _ _).alloc (Nat.le_refl _) _)⟩
  rw [Hw0.out]
  clear Hw0 HRO
  obtain ⟨cf, Hcf⟩ : ∃ cf : Cf, Hid (cf = ⟨sd, bt, ra, mo, de⟩) := ⟨_, (rfl : _ = _)⟩
  rw [← Hcf.out] at HRO0 hcf
  have HBt : Hid (cf.batch = bt) := by show _ = _; rw [Hcf.out]
  go_loopg [10, 11] n (fun gk v iv wr => ∃ i : Nat, gk + i = n ∧ iv = .int .i64 i ∧ wr.ownsRow w.heap.size 3 1 v i (intCells (missL cf X st i)) ∧ Hid (ProgRun wr g cf mk (.slice aX X.length cX) (itN cf X st i) ∧ wr.ownsRow bX 72 2 (.slice aX X.length cX) X.length (exNsCells X) ∧ CellsAt wr w.heap.size 24 [.int .u64 sd, .int .u8 bt, .int .i32 ra, .int .i32 mo, .int .u8 de] ∧ Spared w wr (fun j => j = g)))
  case atStart => exact ⟨0, by omega, rfl, World.ownsRow_nil _ _ _ _, ⟨HRO0.out.1, HRO0.out.2, HC0.out, HB0.out⟩⟩
  case round =>
    obtain ⟨i, hgi, rfl, hown, HT⟩ := hrel
    obtain ⟨gK, hgK⟩ : ∃ gK, gK = gk := ⟨_, rfl⟩
    clear HRO0 HC0 HB0
    by_cases hlt : i < n
    · obtain ⟨k, Hk⟩ : ∃ k, Hid (byN lw N i = k) := ⟨_, (rfl : _ = _)⟩
      have hk := byN_ok lw N i
      rw [Hk.out] at hk
      have HW1 : Hid (IsInts wr aw lw cw N) := by
        by_cases hl0 : lw = 0
        · exact .inl hl0
        rcases HW.out with h | ⟨b, off, h1, h2, h3, h4, h5⟩
        · exact .inl h
        · exact .inr ⟨b, off, h1, h2, h3, Nat.lt_of_lt_of_le h4 HT.out.2.2.2.size, fun j hj => ⟨(World.cell?_of_block (w := w) (a := ⟨b, off + j, none⟩) (HT.out.2.2.2.block b h4 (HWg.out hl0 b off h1))).trans (h5 j hj).1, (h5 j hj).2⟩⟩
      go_upto_if 25 with fail
      go_cut [12] (fun kv wc => kv = .int .i64 k ∧ wc = wr)
      case first =>
        by_cases hl0 : lw = 0
        · subst hl0
          have HK1 : Hid (k = 1) := by show _ = _; rw [← Hk.out]; rfl
          go_wp2
          go_meet
          case rel => exact ⟨by rw [HK1.out]; rfl, rfl⟩
        · obtain ⟨b, off, rfl, h2, h3, h4, h5⟩ := HW1.out.resolve_left hl0
          have hml := Nat.mod_lt i (show 0 < lw by omega)
          obtain ⟨c5, l5, u5⟩ := h5 _ hml
          have HK1 : Hid (k = 1 + pickN (N (i % lw)) 8) := by show _ = _; rw [← Hk.out]; unfold byN; rw [if_neg hl0]
          have hp8 := pickN_lt (N (i % lw)) (n := 8) (by decide)
          obtain ⟨z, Hz⟩ : ∃ z, Hid (i % lw = z) := ⟨_, (rfl : _ = _)⟩
          rw [Hz.out] at hml c5 l5 u5 HK1 hp8
          have hq2 : (i : Int) % (lw : Int) = (z : Int) := by rw [← Hz.out, Int.natCast_emod]
          have hq4 : (i : Int).tmod (lw : Int) = (z : Int) := by rw [Int.tmod_eq_emod_of_nonneg (by omega)]; exact hq2
          have hl0' : ((lw : Int) == 0) = false := beq_eq_false_iff_ne.2 (by omega)
          have hl1 : ¬ ((lw : Int) = 0) := by omega
          have hlp : (0 : Int) < (lw : Int) := by omega
          unfold maxLen at h3
          clear h5
          go_wp2_with fail
          refine (pick_any (N z) 8 l5 u5 (by omega) (by omega) _).mono ?_
          rintro e w2 ⟨rfl, hw⟩
          have hw' := hw.symm
          clear hw
          subst hw'
          generalize pickN (N z) 8 = y at *
          go_wp2
          go_meet
          case rel => exact ⟨by rw [HK1.out]; go_num, rfl⟩
      case rest =>
        obtain ⟨rfl, rfl⟩ := hcut
        have HOk := itN_ok cf X st hst i (by omega)
        have h4 : (itN cf X st i).steps < 400 := by rw [itN_steps]; omega
        have HIt : Hid (itN cf X st (i + 1) = stepN cf X (itN cf X st i)) := rfl
        have HSn : Hid _ := missL_snoc cf X st i
        obtain ⟨hk1, hk8⟩ := hk
        have HAll : Hid (sumNat (workN cf X (itN cf X st i) k) k = missedN cf X (itN cf X st i) 0 cf.batch) := workers_all cf X (itN cf X st i) hk1
        have HWl : Hid (∀ h, workN cf X (itN cf X st i) k h ≤ (h + 1) * cf.batch / k - h * cf.batch / k) := fun h => workN_le cf X (itN cf X st i) k h
        have HQb : Hid (∀ h, h ≤ k → h * cf.batch / k ≤ cf.batch) := fun h hh => Nat.div_le_of_le_mul (Nat.mul_le_mul_right _ hh)
        have HGt : Hid _ := workTo_get cf X (itN cf X st i) k k
        rw [HBt.out] at HWl HQb
        go_wp2_with fail
        refine (progStep_any g cf hcf aX cX bX X HX.out hn1 hn2 (itN cf X st i) HOk h4 k ⟨hk1, hk8⟩ _ HT.out.1 HT.out.2.1).mono ?_
        rintro e w5 ⟨vl, rfl, hl5, hP5, hS5⟩
        have HPO : Hid (ProgRun w5 g cf mk (.slice aX X.length cX) (itN cf X st (i + 1)) ∧ w5.ownsRow bX 72 2 (.slice aX X.length cX) X.length (exNsCells X) ∧ CellsAt w5 w.heap.size 24 [.int .u64 sd, .int .u8 bt, .int .i32 ra, .int .i32 mo, .int .u8 de] ∧ Spared w w5 (fun j => j = g)) := by
          refine ⟨by rw [HIt.out]; exact hP5, ownsRow_spared HT.out.2.1 hS5 (fun j hj e => ?_), (hS5.block _ HT.out.2.2.1.lt (fun e => by have e' : w.heap.size = g := e; omega)).trans HT.out.2.2.1, HT.out.2.2.2.trans hS5 (fun _ _ h => h)⟩
          subst e
          exact own_ne HT.out.2.1 HT.out.1 (by decide) hj
        have ho5 : w5.ownsRow w.heap.size 3 1 u10 i (intCells (missL cf X st i)) := ownsRow_spared hown hS5 (fun j hj e => by have := (hown.lt j hj).1; have e' : j = g := e; omega)
        have hws : w.heap.size ≤ w5.heap.size := HPO.out.2.2.2.size
        have hcc := CellsAt.cell HPO.out.2.2.1 1
        simp only [List.getElem?_cons_zero, List.getElem?_cons_succ] at hcc
        obtain ⟨al, cl, hvl, hcl1, hcl2, hrd⟩ := own_read hl5
        subst hvl
        have HRD : Hid _ := hrd
        unfold maxLen at hcl2
        clear hrd hl5 hP5 hS5 HT hown HW1 Hk HOk
        generalize workN cf X (itN cf X st i) k = F at *
        have HFb : Hid (∀ h, h < k → F h ≤ 8) := fun h hh => by
          have h1 := HWl.out h
          have h2 := HQb.out (h + 1) hh
          exact Nat.le_trans h1 (Nat.le_trans (Nat.sub_le _ _) (Nat.le_trans h2 hb8))
        go_wp2_with fail
        go_loopg [15, 16] k (fun gq sv hv wq => ∃ (h nq : Nat), gq + h = k ∧ hv = .int .i64 h ∧ sv = .int .i64 (sumNat F h : Nat) ∧ sumNat F h ≤ 8 * h ∧ wq = w5.drewN nq)
        case atStart => exact ⟨0, 0, by omega, rfl, rfl, by simp [sumNat], rfl⟩
        case round =>
          obtain ⟨h, nq, hgh, rfl, rfl, hsb, rfl⟩ := hrel
          by_cases hhl : h < k
          · obtain ⟨p, Hp⟩ : ∃ p, Hid (h * bt = p) := ⟨_, (rfl : _ = _)⟩
            obtain ⟨p', Hp'⟩ : ∃ p, Hid ((h + 1) * bt = p) := ⟨_, (rfl : _ = _)⟩
            obtain ⟨lo, Hlo⟩ : ∃ q, Hid (p / k = q) := ⟨_, (rfl : _ = _)⟩
            obtain ⟨hi', Hhi⟩ : ∃ q, Hid (p' / k = q) := ⟨_, (rfl : _ = _)⟩
            have hp1 : (h : Int) * (bt : Int) = (p : Int) := by rw [← Hp.out, Int.natCast_mul]
            have hp2 : ((h : Int) + 1) * (bt : Int) = (p' : Int) := by rw [← Hp'.out, Int.natCast_mul]; rfl
            have hpb : p ≤ 64 := by rw [← Hp.out]; exact Nat.le_trans (Nat.mul_le_mul (show h ≤ 8 by omega) hb8) (by decide)
            have hpb' : p' ≤ 64 := by rw [← Hp'.out]; exact Nat.le_trans (Nat.mul_le_mul (show h + 1 ≤ 8 by omega) hb8) (by decide)
            have hl1 : (p : Int) / (k : Int) = (lo : Int) := by rw [← Hlo.out, Int.natCast_ediv]
            have hl2 : (p' : Int) / (k : Int) = (hi' : Int) := by rw [← Hhi.out, Int.natCast_ediv]
            have hl3 : (p : Int).tdiv (k : Int) = (lo : Int) := by rw [Int.tdiv_eq_ediv_of_nonneg (by omega)]; exact hl1
            have hl4 : (p' : Int).tdiv (k : Int) = (hi' : Int) := by rw [Int.tdiv_eq_ediv_of_nonneg (by omega)]; exact hl2
            have hk0 : ((k : Int) == 0) = false := beq_eq_false_iff_ne.2 (by omega)
            have hlob : lo ≤ hi' := by rw [← Hlo.out, ← Hhi.out, ← Hp.out, ← Hp'.out]; exact part_le bt k h
            have hhib : hi' ≤ 64 := by have := Nat.div_le_self p' k; rw [Hhi.out] at this; omega
            have hfl := HWl.out h
            rw [Hp.out, Hp'.out, Hlo.out, Hhi.out] at hfl
            have hfb := HFb.out h hhl
            obtain ⟨gl, rfl, hgl1, hgl2, hgl3⟩ := HRD.out (by omega)
            have hce := (hgl3 h (by omega)).trans (intCells_get (HGt.out h hhl))
            have HSu : Hid (sumNat F (h + 1) = sumNat F h + F h) := rfl
            generalize sumNat F h = sm at *
            generalize F h = fh at *
            have hn0 : decide ((fh : Int) < 0) = false := by simp
            have hn1' : decide ((hi' : Int) - (lo : Int) < (fh : Int)) = false := by simp; omega
            have hcc' : (w5.drewN nq).cell? ⟨w.heap.size, 1, none⟩ = some (.int .u8 bt) := hcc
            have hce' : (w5.drewN nq).cell? ⟨gl, h, none⟩ = some (.int .i64 fh) := hce
            clear hgl3 hl1 hl2
            go_wp2_with fail
            go_quiet (fail)
            go_wp2
            go_roundg (gk - 1)
            case measure => omega
            case rel => exact ⟨h + 1, _, by omega, by go_num, by rw [HSu.out]; go_num, by rw [HSu.out]; omega, rfl⟩
          · obtain rfl : h = k := by omega
            rw [HAll.out] at hsb ⊢
            have HPO6 : Hid (ProgRun (w5.drewN nq) g cf mk (.slice aX X.length cX) (itN cf X st (i + 1)) ∧ (w5.drewN nq).ownsRow bX 72 2 (.slice aX X.length cX) X.length (exNsCells X) ∧ CellsAt (w5.drewN nq) w.heap.size 24 [.int .u64 sd, .int .u8 bt, .int .i32 ra, .int .i32 mo, .int .u8 de] ∧ Spared w (w5.drewN nq) (fun j => j = g)) :=
              ⟨HPO.out.1, HPO.out.2.1, HPO.out.2.2.1, ⟨HPO.out.2.2.2.os, HPO.out.2.2.2.tape, HPO.out.2.2.2.output, HPO.out.2.2.2.size, HPO.out.2.2.2.block⟩⟩
            have ho6 : (w5.drewN nq).ownsRow w.heap.size 3 1 u10 i (intCells (missL cf X st i)) := ho5
            have hws6 : w.heap.size ≤ (w5.drewN nq).heap.size := hws
            generalize missedN cf X (itN cf X st i) 0 cf.batch = mw at *
            generalize w5.drewN nq = w6 at *
            clear ho5 HPO hws hcc HRD HFb HGt HWl HQb HAll
            go_wp2_with (at_builtin; refine wpList_append_own _ rfl (.tmp 91) (.tmp 93) 31 rfl w.heap.size 3 i0 (.int .i64 0) 1 8 Try.underlying31 hi hz0 hz1 hz2 rfl (by decide) _ _ _ rfl (ho6.alloc _) ⟨w6.heap.size, 0, none⟩ 1 1 [.int .i64 mw] rfl rfl (news_at _ _ rfl _ _ _ rfl) (oneCell_nums _ rfl) (by unfold maxLen; omega) (by omega) (by simp; omega) ?_; intro v' w7 ho7 hgr hxx; clear hxx)
            have HPO7 : Hid (ProgRun w7 g cf mk (.slice aX X.length cX) (itN cf X st (i + 1)) ∧ w7.ownsRow bX 72 2 (.slice aX X.length cX) X.length (exNsCells X) ∧ CellsAt w7 w.heap.size 24 [.int .u64 sd, .int .u8 bt, .int .i32 ra, .int .i32 mo, .int .u8 de] ∧ Spared w w7 (fun j => j = g)) := by
              have n1 := own_ne ho6 HPO6.out.1 (by decide)
              have n2 := own_ne ho6 HPO6.out.2.2.1 (by decide)
              refine ⟨CellsAt.grown (CellsAt.alloc HPO6.out.1 _) hgr n1, ?_, CellsAt.grown (CellsAt.alloc HPO6.out.2.2.1 _) hgr n2, ?_⟩
              · have hb := ownsRow_below HPO6.out.2.1 ((Below.refl _ w6).alloc (Nat.le_refl _) (.cells #[.int .i64 mw] 3))
                have ha := ho6.alloc (.cells #[.int .i64 mw] 3)
                exact ownsRow_spared hb (Spared.of_grown hgr) (fun j hj h => by
                  obtain ⟨cs, hc⟩ := own_tag hb hj
                  exact own_ne ha hc (by decide) h.symm)
              · exact (HPO6.out.2.2.2.trans (Spared.of_below ((Below.refl _ w6).alloc (Nat.le_refl _) (.cells #[.int .i64 mw] 3)) (fun j => j = g)) (fun _ _ h => h)).trans (Spared.of_grown hgr) (fun j hj h => by
                  have := (ho6.lt j h.symm).1
                  omega)
            go_roundg (gK - 1)
            case measure => omega
            case rel => exact ⟨i + 1, by omega, by go_num, by rw [HSn.out, intCells_snoc]; exact ho7, HPO7⟩
    · obtain rfl : i = n := by omega
      go_wp2
      go_ret2
      exact ⟨u10, rfl, by rw [← Hcf.out]; exact hown, by rw [← Hcf.out]; exact HT.out.1, HT.out.2.1, HT.out.2.2.2⟩
end Go.Proofs.Ytfpodnleimhohab

/-
  WALKS: the program's Status, Weights.
-/
namespace Go.Proofs.Ytfpodnleimhohab
open Go.RowKit
set_option linter.unusedVariables false
variable {mk : ByteArray}

set_option maxRecDepth 100000 in
set_option maxHeartbeats 1000000 in
theorem progStatus_any (g : Nat) (cf : Cf) (hcf : cf.Ok) (a : Option Addr) (n cap : Nat) (hn1 : 1 ≤ n) (hn2 : n ≤ 65536) (st : St) (hst : st.Ok) (w : World) (hR : ProgRun w g cf mk (.slice a n cap) st) :
    Calls Try.prog 20 #[.pointer (some ⟨g, 0, none⟩)] w fun e w' => e = .returned (.agg (statusAns cf n st).toArray) ∧ Below w.heap.size w w' := by
  have hgl := CellsAt.lt hR
  have d6 := (CellsAt.cell hR 7).trans (pr_head cf (.slice a n cap) st (by decide))
  simp only [prHead, List.getElem?_cons_zero, List.getElem?_cons_succ] at d6
  have hmul : st.steps * cf.batch ≤ 400 * 8 := Nat.mul_le_mul hst.steps hcf.batch8
  have HR : Hid (ProgRun w g cf mk (.slice a n cap) st) := hR
  clear hR
  obtain ⟨j, Hj⟩ : ∃ j, Hid (st.steps * cf.batch = j) := ⟨_, (rfl : _ = _)⟩
  obtain ⟨q, Hq⟩ : ∃ q, Hid (j / n = q) := ⟨_, (rfl : _ = _)⟩
  obtain ⟨r, Hr⟩ : ∃ r, Hid (j % n = r) := ⟨_, (rfl : _ = _)⟩
  have HA : Hid (statusAns cf n st = [.int .i64 st.steps, .int .i64 q, .int .i64 r]) := by show _ = _; unfold statusAns; rw [Hj.out, Hq.out, Hr.out]
  obtain ⟨sp, Hsp⟩ : ∃ sp, Hid (st.steps = sp) := ⟨_, (rfl : _ = _)⟩
  rw [Hsp.out] at HA d6
  rw [HA.out]
  rw [Hj.out] at hmul
  go_enter Try.func20, Try.ntmps20
  go_wp2_with fail
  obtain ⟨w1, Hw1⟩ : ∃ w1, Hid (w.alloc (.cells #[.int .i64 0, .int .i64 0, .int .i64 0] 65) = w1) := ⟨_, (rfl : _ = _)⟩
  have HB : Hid (Below w.heap.size w w1) := by rw [← Hw1.out]; exact (Below.refl _ _).alloc (Nat.le_refl _) _
  have HC : Hid (CellsAt w1 w.heap.size 65 [.int .i64 0, .int .i64 0, .int .i64 0]) := by rw [← Hw1.out]; exact CellsAt.new w _ _ _ rfl rfl
  rw [Hw1.out]
  clear Hw1
  refine (nextDraw_any g cf hcf _ st hst _ (CellsAt.kept HR.out HB.out hgl)).mono ?_
  rintro e w2 ⟨rfl, n2, rfl⟩
  rw [Hj.out]
  go_wp2_with fail
  refine (epochAndRow_any g cf a n cap hn1 hn2 st j (by omega) _ (show ProgRun (w1.drewN n2) g cf mk (.slice a n cap) st from CellsAt.kept HR.out (below_drewN HB.out n2) hgl)).mono ?_
  rintro e w3 ⟨rfl, n3, rfl⟩
  rw [Hq.out, Hr.out]
  have HC3 : Hid (CellsAt ((w1.drewN n2).drewN n3) w.heap.size 65 [.int .i64 0, .int .i64 0, .int .i64 0]) := HC.out
  have HB3 : Hid (Below w.heap.size w ((w1.drewN n2).drewN n3)) := below_drewN (below_drewN HB.out n2) n3
  have e6 := (HB3.out.cell (p := ⟨g, 7, none⟩) hgl).trans d6
  generalize (w1.drewN n2).drewN n3 = w3 at *
  have HTh : Hid (w3.there w.heap.size 0 3) := CellsAt.there HC3.out
  have c0 := CellsAt.cell HC3.out 0
  have c1 := CellsAt.cell HC3.out 1
  have c2 := CellsAt.cell HC3.out 2
  simp only [List.getElem?_cons_zero, List.getElem?_cons_succ] at c0 c1 c2
  have f0 := CellsAt.frozen HC3.out 0
  have f1 := CellsAt.frozen HC3.out 1
  have f2 := CellsAt.frozen HC3.out 2
  have HF : Hid (CellsAt (((w3.setCell ⟨w.heap.size, 0, none⟩ (.int .i64 sp)).setCell ⟨w.heap.size, 1, none⟩ (.int .i64 q)).setCell ⟨w.heap.size, 2, none⟩ (.int .i64 r)) w.heap.size 65 [.int .i64 sp, .int .i64 q, .int .i64 r]) :=
    CellsAt.set (CellsAt.set (CellsAt.set HC3.out 0 (.int .i64 sp)) 1 (.int .i64 q)) 2 (.int .i64 r)
  have HB2 : Hid (Below w.heap.size w (((w3.setCell ⟨w.heap.size, 0, none⟩ (.int .i64 sp)).setCell ⟨w.heap.size, 1, none⟩ (.int .i64 q)).setCell ⟨w.heap.size, 2, none⟩ (.int .i64 r))) :=
    ((HB3.out.setCell (p := ⟨w.heap.size, 0, none⟩) (Nat.le_refl _) _).setCell (p := ⟨w.heap.size, 1, none⟩) (Nat.le_refl _) _).setCell (p := ⟨w.heap.size, 2, none⟩) (Nat.le_refl _) _
  go_wp2
  generalize ((w3.setCell ⟨w.heap.size, 0, none⟩ (.int .i64 sp)).setCell ⟨w.heap.size, 1, none⟩ (.int .i64 q)).setCell ⟨w.heap.size, 2, none⟩ (.int .i64 r) = w5 at *
  have hld := run_loadVar_mid (P := Try.prog) w5 w.heap.size 0 65 [.int .i64 sp, .int .i64 q, .int .i64 r] _ (CellsAt.range HF.out) Try.underlying65 rfl (by kernel_rfl)
  refine bodyPost_ret (v := .agg #[.int .i64 sp, .int .i64 q, .int .i64 r]) ?_ rfl ⟨rfl, HB2.out⟩
  simp [results, Try.results20, asAddr, hld]

set_option maxRecDepth 100000 in
set_option maxHeartbeats 1000000 in
theorem progWeights_any (g : Nat) (cf : Cf) (lv : Value) (st : St) (hst : st.Ok) (c : Nat) (hc : c < 4) (w : World) (hR : ProgRun w g cf mk lv st) :
    Calls Try.prog 42 #[.pointer (some ⟨g, 0, none⟩), .int .i64 c] w fun e w' => ∃ v, e = .returned (.tuple #[v, .int .i64 0]) ∧ w'.ownsRow w.heap.size 21 1 v 32 (wCells (st.w c) 32) ∧ Below w.heap.size w w' := by
  obtain ⟨i0, hi, hz0, hz1, hz2⟩ := info_parts info_i32
  obtain ⟨rc, Hrc⟩ : ∃ rc, Hid (tabw 32 (st.w c) = rc) := ⟨_, (rfl : _ = _)⟩
  have HRg : Hid (w.rangeAt g (8 + c * 32) rc) := by
    intro j v hv
    rw [← Hrc.out] at hv
    have hj : j < 32 := by
      have := (List.getElem?_eq_some_iff.1 hv).1
      rwa [tabw_length] at this
    rw [tabw_get _ hj] at hv
    rw [CellsAt.cell hR, show 8 + c * 32 + j = (prHead cf mk lv st.steps).length + c * 32 + j from rfl, lrn_w st hc hj]
    exact hv
  have HrI : Hid ((Try.prog.info? 52).map (·.size) = some rc.length) := by show _ = _; rw [← Hrc.out, tabw_length]; exact info_w32
  clear hR
  go_enter Try.func42, Try.ntmps42
  go_wp2_with (refine wpList_load_mid rfl 52 (.tmp 20) rfl _ _ rfl rc _ HRg.out Try.underlying52 rfl HrI.out ?_)
  go_loopw [6, 22] (fun v bv wr => ∃ b : Nat, b ≤ 32 ∧ bv = .int .i64 b ∧ wr.ownsRow w.heap.size 21 1 v b (wCells (st.w c) b) ∧ Below w.heap.size w wr) (fun _ b _ => 32 - (intOf b).toNat)
  case atStart => exact ⟨0, by omega, rfl, World.ownsRow_nil _ _ _ _, Below.refl _ _⟩
  case round =>
    obtain ⟨b, hb, rfl, hown, hbel⟩ := hrel
    by_cases hlt : b < 32
    · have HV : Hid (rc.toArray[b]? = some (.int .i32 (st.w c b))) := by show _ = _; simp only [List.getElem?_toArray]; rw [← Hrc.out]; exact tabw_get _ hlt
      have hb4 := hst.w c b hc hlt
      have HS : Hid _ := wCells_snoc (st.w c) b
      generalize st.w c b = z at *
      have hzs := hbel.size
      go_wp2_with (first
        | (refine wpList_index_one rfl 52 (.tmp 21) (.tmp 22) rfl 21 32 _ b _ rfl rfl Try.underlying52 _ Try.underlying21 rfl info_w1 hlt HV.out ?_)
        | (at_builtin; refine wpList_append_own _ rfl (.tmp 25) (.tmp 27) 67 rfl w.heap.size 21 i0 (.int .i32 0) 1 4 Try.underlying67 hi hz0 hz1 hz2 rfl (by decide) _ _ _ rfl (hown.alloc _) ⟨wr.heap.size, 0, none⟩ 1 1 [.int .i32 z] rfl rfl (news_at _ _ rfl _ _ _ rfl) (oneCell_nums _ rfl) (by unfold maxLen; omega) (by omega) (by simp; omega) ?_; intro v' w3 ho3 hgr hxx; clear hxx))
      go_roundw
      case rel => exact ⟨b + 1, by omega, by go_num, by rw [HS.out]; exact ho3, (hbel.alloc hzs _).grown hgr (by simp; omega) (fun j hj => (hown.lt j hj).1)⟩
      case measure => simp [intOf]; omega
    · obtain rfl : b = 32 := by omega
      go_wp2
      go_ret2
      exact ⟨_, rfl, hown, hbel⟩
set_option maxRecDepth 100000 in
theorem progWeights_bad (g : Nat) (c : Int) (hc : ¬ (0 ≤ c ∧ c < 4)) (w : World) :
    Calls Try.prog 42 #[.pointer (some ⟨g, 0, none⟩), .int .i64 c] w fun e w' => e = .returned (.tuple #[.slice none 0 0, .int .i64 1]) ∧ w' = w := by
  go_enter Try.func42, Try.ntmps42
  by_cases h : c < 0
  · go_wp2
    go_ret2
    exact ⟨rfl, rfl⟩
  · go_wp2
    go_ret2
    exact ⟨rfl, rfl⟩
end Go.Proofs.Ytfpodnleimhohab

/-
  WALKS: two lists of numbers, of weights held against each other.
-/
namespace Go.Proofs.Ytfpodnleimhohab
open Go.RowKit
set_option linter.unusedVariables false

theorem wCells_get {n i : Nat} (f : Nat → Int) (h : i < n) : (wCells f n)[i]? = some (.int .i32 (f i)) := by
  unfold wCells
  rw [List.getElem?_map, List.getElem?_range h]; rfl
theorem intCells_tab (l : List Nat) : intCells l = tab l.length (fun i => ((l.getD i 0 : Nat) : Int)) := by
  apply List.ext_getElem?
  intro i
  by_cases h : i < l.length
  · rw [tab_get _ h, intCells_get (List.getElem?_eq_getElem h), List.getD_eq_getElem?_getD, List.getElem?_eq_getElem h]; rfl
  · rw [List.getElem?_eq_none (by simp [intCells]; omega), List.getElem?_eq_none (by rw [tab_length]; omega)]
set_option maxRecDepth 100000 in
set_option maxHeartbeats 2000000 in
theorem keepInts_same (bA bB : Nat) (vA vB : Value) (f : Nat → Int) (n : Nat) (w : World) (hA : w.ownsRow bA 3 1 vA n (tab n f)) (hB : w.ownsRow bB 3 1 vB n (tab n f)) (hn : n ≤ 100000) :
    Calls Try.prog 12 #[vA, vB] w fun e w' => e = .returned (.bool true) ∧ ∃ n, w' = w.drewN n := by
  obtain ⟨aA, cA, rfl, hA1, hA2, HAd⟩ := own_read hA
  obtain ⟨aB, cB, rfl, hB1, hB2, HBd⟩ := own_read hB
  unfold maxLen at hA2 hB2
  have HA : Hid _ := HAd
  have HB : Hid _ := HBd
  clear HAd HBd hA hB
  go_enter Try.func12, Try.ntmps12
  go_wp2
  go_loopw [5] (fun i wr => ∃ k nq : Nat, k ≤ n ∧ i = .int .i64 k ∧ wr = w.drewN nq) (fun i _ => n - (intOf i).toNat)
  case atStart => exact ⟨0, 0, by omega, rfl, rfl⟩
  case round =>
    obtain ⟨k, nq, hk, rfl, rfl⟩ := hrel
    by_cases hlt : k < n
    · obtain ⟨gA, rfl, _, _, hgA⟩ := HA.out (by omega)
      obtain ⟨gB, rfl, _, _, hgB⟩ := HB.out (by omega)
      have q0 : (tab n f)[k]? = some (.int .i64 (f k)) := tab_get f hlt
      have a0 := (hgA k (by omega)).trans q0
      have b0 := (hgB k (by omega)).trans q0
      clear hgA hgB q0
      generalize f k = x0 at *
      have hki : (k : Int) < (n : Int) := by omega
      go_wp2
      go_quiet (fail)
      go_wp2
      go_roundw
      case rel => exact ⟨k + 1, _, by omega, by go_num, rfl⟩
      case measure => simp [intOf]; omega
    · go_wp2
      go_ret
      exact ⟨rfl, _, rfl⟩
set_option maxRecDepth 100000 in
set_option maxHeartbeats 2000000 in
theorem keepWeights_same (bA bB : Nat) (vA vB : Value) (f : Nat → Int) (n : Nat) (w : World) (hA : w.ownsRow bA 21 1 vA n (wCells f n)) (hB : w.ownsRow bB 21 1 vB n (wCells f n)) (hn : n ≤ 100000) :
    Calls Try.prog 22 #[vA, vB] w fun e w' => e = .returned (.bool true) ∧ ∃ n, w' = w.drewN n := by
  obtain ⟨aA, cA, rfl, hA1, hA2, HAd⟩ := own_read hA
  obtain ⟨aB, cB, rfl, hB1, hB2, HBd⟩ := own_read hB
  unfold maxLen at hA2 hB2
  have HA : Hid _ := HAd
  have HB : Hid _ := HBd
  clear HAd HBd hA hB
  go_enter Try.func22, Try.ntmps22
  go_wp2
  go_loopw [5] (fun i wr => ∃ k nq : Nat, k ≤ n ∧ i = .int .i64 k ∧ wr = w.drewN nq) (fun i _ => n - (intOf i).toNat)
  case atStart => exact ⟨0, 0, by omega, rfl, rfl⟩
  case round =>
    obtain ⟨k, nq, hk, rfl, rfl⟩ := hrel
    by_cases hlt : k < n
    · obtain ⟨gA, rfl, _, _, hgA⟩ := HA.out (by omega)
      obtain ⟨gB, rfl, _, _, hgB⟩ := HB.out (by omega)
      have q0 : (wCells f n)[k]? = some (.int .i32 (f k)) := wCells_get f hlt
      have a0 := (hgA k (by omega)).trans q0
      have b0 := (hgB k (by omega)).trans q0
      clear hgA hgB q0
      generalize f k = x0 at *
      have hki : (k : Int) < (n : Int) := by omega
      go_wp2
      go_quiet (fail)
      go_wp2
      go_roundw
      case rel => exact ⟨k + 1, _, by omega, by go_num, rfl⟩
      case measure => simp [intOf]; omega
    · go_wp2
      go_ret
      exact ⟨rfl, _, rfl⟩
end Go.Proofs.Ytfpodnleimhohab

/-
  WALKS: the weights of all classes; two runs that stand together.
-/
namespace Go.Proofs.Ytfpodnleimhohab
open Go.RowKit
set_option linter.unusedVariables false
variable {mk : ByteArray}

/-- All weights, one class behind the other: the first k. -/
def wAll (t : Tab) (k : Nat) : List Value := wCells (flat t) k
theorem wAll_snoc (t : Tab) (c b : Nat) (hb : b < 32) : wAll t (c * 32 + b + 1) = wAll t (c * 32 + b) ++ [.int .i32 (t c b)] := by
  unfold wAll
  rw [wCells_snoc, flat_at _ hb]

set_option maxRecDepth 100000 in
set_option maxHeartbeats 4000000 in
theorem weights_any (g : Nat) (cf : Cf) (lv : Value) (st : St) (hst : st.Ok) (w : World) (hR : ProgRun w g cf mk lv st) :
    Calls Try.prog 21 #[.pointer (some ⟨g, 0, none⟩)] w fun e w' => ∃ v, e = .returned (.tuple #[v, .bool true]) ∧ w'.ownsRow w.heap.size 21 1 v 128 (wAll st.w 128) ∧ Below w.heap.size w w' := by
  obtain ⟨i0, hi, hz0, hz1, hz2⟩ := info_parts info_i32
  have HR : Hid (ProgRun w g cf mk lv st) := hR
  clear hR
  go_enter Try.func21, Try.ntmps21
  go_wp2_with fail
  go_loopg [4, 5] 4 (fun gk v cv wr => ∃ c : Nat, gk + c = 4 ∧ cv = .int .i64 c ∧ wr.ownsRow w.heap.size 21 1 v (c * 32) (wAll st.w (c * 32)) ∧ Below w.heap.size w wr)
  case atStart => exact ⟨0, by omega, rfl, World.ownsRow_nil _ _ _ _, Below.refl _ _⟩
  case round =>
    obtain ⟨c, hgc, rfl, hown, hbel⟩ := hrel
    obtain ⟨gK, hgK⟩ : ∃ gK, gK = gk := ⟨_, rfl⟩
    by_cases hlt : c < 4
    · go_wp2_with fail
      refine (progWeights_any g cf lv st hst c hlt _ (CellsAt.later HR.out hbel)).mono ?_
      rintro e w2 ⟨vl, rfl, hl, hb2⟩
      have hb3 : Below w.heap.size w w2 := hbel.trans (hb2.mono hbel.size)
      have ho2 : w2.ownsRow w.heap.size 21 1 u4 (c * 32) (wAll st.w (c * 32)) := ownsRow_below hown hb2
      have HL : Hid (w2.ownsRow wr.heap.size 21 1 vl 32 (wCells (st.w c) 32)) := hl
      have hdis : ∀ j, u4.ownBlock = some j → j < wr.heap.size := fun j hj => (hown.lt j hj).2
      obtain ⟨al, cl, hvl, hcl1, hcl2, hrd⟩ := own_read hl
      subst hvl
      obtain ⟨gl, hal, hgl1, hgl2, hgl3⟩ := hrd (by omega)
      subst hal
      have HG : Hid (∀ b, b < 32 → w2.cell? ⟨gl, b, none⟩ = some (.int .i32 (st.w c b))) := fun b hb => (hgl3 b (by omega)).trans (wCells_get _ hb)
      have HD : Hid _ := hdis
      unfold maxLen at hcl2
      clear hrd hl hb2 hbel hown hgl3 hdis
      go_wp2_with fail
      generalize decide ((c : Int) < 4) = q4
      go_loopg [4, 8] 32 (fun gq v bv wq => ∃ b : Nat, gq + b = 32 ∧ bv = .int .i64 b ∧ wq.ownsRow w.heap.size 21 1 v (c * 32 + b) (wAll st.w (c * 32 + b)) ∧ Below w.heap.size w wq ∧ Hid ((∀ b, b < 32 → wq.cell? ⟨gl, b, none⟩ = some (.int .i32 (st.w c b))) ∧ (∀ j, v.ownBlock = some j → j ≠ gl) ∧ gl < wq.heap.size))
      case atStart => exact ⟨0, by omega, rfl, ho2, hb3, ⟨HG.out, fun j hj => by have := HD.out j hj; omega, hgl2⟩⟩
      case round =>
        obtain ⟨b, hgb, rfl, ho, hbe, HE⟩ := hrel
        by_cases hbl : b < 32
        · have hc := HE.out.1 b hbl
          have hw4 := hst.w c b hlt hbl
          have HS : Hid _ := wAll_snoc st.w c b hbl
          have HG1 : Hid (∀ b, b < 32 → wr.cell? ⟨gl, b, none⟩ = some (.int .i32 (st.w c b))) := HE.out.1
          generalize hz : st.w c b = z at *
          have hn0 : decide ((16777216 : Int) < z) = false := by simp; omega
          have hn1 : decide (z < -16777216) = false := by simp; omega
          have hzs := hbe.size
          have hbl' : (b : Int) < 32 := by omega
          clear hz hw4
          go_wp2_with (at_builtin; refine wpList_append_own_at _ rfl (.tmp 46) (.tmp 51) 67 rfl w.heap.size 21 i0 (.int .i32 0) 1 4 Try.underlying67 hi hz0 hz1 hz2 rfl (by decide) _ _ _ rfl (ho.alloc _) ⟨wr.heap.size, 0, none⟩ 1 1 [.int .i32 z] rfl rfl (news_at _ _ rfl _ _ _ rfl) (oneCell_nums _ rfl) (by unfold maxLen; omega) (by omega) (by simp; omega) ?_; intro v' w7 ho7 hgr hxx hat; clear hxx)
          have hb7 : Below w.heap.size w w7 := (hbe.alloc hzs _).grown hgr (by simp; omega) (fun j hj => (ho.lt j hj).1)
          have HE7 : Hid ((∀ b, b < 32 → w7.cell? ⟨gl, b, none⟩ = some (.int .i32 (st.w c b))) ∧ (∀ j, v'.ownBlock = some j → j ≠ gl) ∧ gl < w7.heap.size) := by
            have hl1 := HE.out.2.2
            refine ⟨fun b' hb' => ?_, fun j hj => ?_, ?_⟩
            · have e1 : (wr.alloc (.cells #[.int .i32 z] 21)).cell? ⟨gl, b', none⟩ = wr.cell? ⟨gl, b', none⟩ := World.cell?_alloc_lt _ _ _ hl1
              have e2 : w7.cell? ⟨gl, b', none⟩ = (wr.alloc (.cells #[.int .i32 z] 21)).cell? ⟨gl, b', none⟩ := World.cell?_of_block (w := wr.alloc (.cells #[.int .i32 z] 21)) (a := ⟨gl, b', none⟩) (hgr.block gl (by simp; omega) (fun e => (HE.out.2.1 gl e.symm) rfl))
              rw [e2, e1]; exact HG1.out b' hb'
            · rcases hat with h | h
              · rw [h] at hj
                exact HE.out.2.1 j hj
              · rw [h] at hj
                simp at hj
                omega
            · have := hgr.size
              simp at this
              omega
          go_roundg (gk - 1)
          case measure => omega
          case rel => exact ⟨b + 1, by omega, by go_num, by rw [show c * 32 + (b + 1) = c * 32 + b + 1 from rfl, HS.out]; exact ho7, hb7, HE7⟩
        · obtain rfl : b = 32 := by omega
          go_wp2
          go_roundg (gK - 1)
          case measure => omega
          case rel => exact ⟨c + 1, by omega, by go_num, by rw [show (c + 1) * 32 = c * 32 + 32 by omega]; exact ho, hbe⟩
    · obtain rfl : c = 4 := by omega
      go_wp2
      go_ret2
      exact ⟨u4, rfl, hown, hbel⟩

set_option maxRecDepth 100000 in
set_option maxHeartbeats 4000000 in
theorem together_any {mk1 mk2 : ByteArray} (cf : Cf) (hcf : cf.Ok) (n : Nat) (hn1 : 1 ≤ n) (hn2 : n ≤ 65536) (st : St) (hst : st.Ok) (g1 : Nat) (a1 : Option Addr) (c1 : Nat) (g2 : Nat) (a2 : Option Addr) (c2 : Nat) (w : World) (h1 : ProgRun w g1 cf mk1 (.slice a1 n c1) st) (h2 : ProgRun w g2 cf mk2 (.slice a2 n c2) st) :
    Calls Try.prog 11 #[.pointer (some ⟨g1, 0, none⟩), .pointer (some ⟨g2, 0, none⟩)] w fun e w' => e = .returned (.bool true) ∧ Below w.heap.size w w' := by
  have HP : Hid (ProgRun w g1 cf mk1 (.slice a1 n c1) st ∧ ProgRun w g2 cf mk2 (.slice a2 n c2) st) := ⟨h1, h2⟩
  clear h1 h2
  obtain ⟨x, y, z, HA⟩ : ∃ x y z : Int, Hid (statusAns cf n st = [.int .i64 x, .int .i64 y, .int .i64 z]) := ⟨_, _, _, (rfl : _ = _)⟩
  go_enter Try.func11, Try.ntmps11
  go_wp2_with fail
  refine (progStatus_any g1 cf hcf a1 n c1 hn1 hn2 st hst _ HP.out.1).mono ?_
  rintro e w1 ⟨rfl, hb1⟩
  rw [HA.out]
  have HB1 : Hid (Below w.heap.size w w1) := hb1
  clear hb1
  go_wp2_with fail
  have HB2 : Hid (Below w.heap.size w (w1.alloc (.cells #[.int .i64 x, .int .i64 y, .int .i64 z] 65))) := HB1.out.alloc HB1.out.size _
  have HC2 : Hid (CellsAt (w1.alloc (.cells #[.int .i64 x, .int .i64 y, .int .i64 z] 65)) w1.heap.size 65 [.int .i64 x, .int .i64 y, .int .i64 z]) := CellsAt.new _ _ _ _ rfl rfl
  generalize w1.alloc (.cells #[.int .i64 x, .int .i64 y, .int .i64 z] 65) = w2 at *
  generalize w1.heap.size = gS at *
  refine (progStatus_any g2 cf hcf a2 n c2 hn1 hn2 st hst _ (CellsAt.later HP.out.2 HB2.out)).mono ?_
  rintro e w3 ⟨rfl, hb3⟩
  rw [HA.out]
  have HB3 : Hid (Below w.heap.size w w3) := HB2.out.trans (hb3.mono HB2.out.size)
  have HC3 : Hid (CellsAt w3 gS 65 [.int .i64 x, .int .i64 y, .int .i64 z]) := CellsAt.later HC2.out hb3
  clear hb3 HB2 HC2 HB1
  go_wp2_with fail
  have HB4 : Hid (Below w.heap.size w (w3.alloc (.cells #[.int .i64 x, .int .i64 y, .int .i64 z] 65))) := HB3.out.alloc HB3.out.size _
  have HC4 : Hid (CellsAt (w3.alloc (.cells #[.int .i64 x, .int .i64 y, .int .i64 z] 65)) gS 65 [.int .i64 x, .int .i64 y, .int .i64 z]) := CellsAt.alloc HC3.out _
  have HD4 : Hid (CellsAt (w3.alloc (.cells #[.int .i64 x, .int .i64 y, .int .i64 z] 65)) w3.heap.size 65 [.int .i64 x, .int .i64 y, .int .i64 z]) := CellsAt.new _ _ _ _ rfl rfl
  generalize w3.alloc (.cells #[.int .i64 x, .int .i64 y, .int .i64 z] 65) = w4 at *
  generalize w3.heap.size = gT at *
  refine (weights_any g1 cf _ st hst _ (CellsAt.later HP.out.1 HB4.out)).mono ?_
  rintro e w5 ⟨vA, rfl, hA5, hb5⟩
  have HB5 : Hid (Below w.heap.size w w5) := HB4.out.trans (hb5.mono HB4.out.size)
  have HC5 : Hid (CellsAt w5 gS 65 [.int .i64 x, .int .i64 y, .int .i64 z]) := CellsAt.later HC4.out hb5
  have HD5 : Hid (CellsAt w5 gT 65 [.int .i64 x, .int .i64 y, .int .i64 z]) := CellsAt.later HD4.out hb5
  have HA5 : Hid (w5.ownsRow w4.heap.size 21 1 vA 128 (wCells (flat st.w) 128)) := hA5
  clear hb5 hA5 HB4 HC4 HD4 HB3 HC3
  go_wp2_with fail
  refine (weights_any g2 cf _ st hst _ (CellsAt.later HP.out.2 HB5.out)).mono ?_
  rintro e w6 ⟨vB, rfl, hA6, hb6⟩
  have HB6 : Hid (Below w.heap.size w w6) := HB5.out.trans (hb6.mono HB5.out.size)
  have HC6 : Hid (CellsAt w6 gS 65 [.int .i64 x, .int .i64 y, .int .i64 z]) := CellsAt.later HC5.out hb6
  have HD6 : Hid (CellsAt w6 gT 65 [.int .i64 x, .int .i64 y, .int .i64 z]) := CellsAt.later HD5.out hb6
  have HA6 : Hid (w6.ownsRow w4.heap.size 21 1 vA 128 (wCells (flat st.w) 128)) := ownsRow_below HA5.out hb6
  have HE6 : Hid (w6.ownsRow w5.heap.size 21 1 vB 128 (wCells (flat st.w) 128)) := hA6
  clear hb6 hA6 HB5 HC5 HD5 HA5
  go_wp2_with fail
  refine (keepWeights_same _ _ vA vB (flat st.w) 128 _ HA6.out HE6.out (by omega)).mono ?_
  rintro e w7 ⟨rfl, n7, rfl⟩
  have q0 : (w6.drewN n7).cell? ⟨gS, 0, none⟩ = some (.int .i64 x) := CellsAt.cell HC6.out 0
  have q1 : (w6.drewN n7).cell? ⟨gS, 1, none⟩ = some (.int .i64 y) := CellsAt.cell HC6.out 1
  have q2 : (w6.drewN n7).cell? ⟨gS, 2, none⟩ = some (.int .i64 z) := CellsAt.cell HC6.out 2
  have r0 : (w6.drewN n7).cell? ⟨gT, 0, none⟩ = some (.int .i64 x) := CellsAt.cell HD6.out 0
  have r1 : (w6.drewN n7).cell? ⟨gT, 1, none⟩ = some (.int .i64 y) := CellsAt.cell HD6.out 1
  have r2 : (w6.drewN n7).cell? ⟨gT, 2, none⟩ = some (.int .i64 z) := CellsAt.cell HD6.out 2
  go_wp2
  go_ret
  exact ⟨rfl, below_drewN HB6.out _⟩
end Go.Proofs.Ytfpodnleimhohab

/-
  WALKS: the program's New.
-/
namespace Go.Proofs.Ytfpodnleimhohab
open Go.RowKit
set_option linter.unusedVariables false
variable {mk : ByteArray}

/-- The cells of a run that begins. -/
theorem zero_prun : Try.zeroCells59 = (prHead ⟨0, 0, 0, 0, 0⟩ (bs []) (.slice none 0 0) 0 ++ (lrnCells St.zero ++ [])).toArray := by kernel_rfl
theorem prun_new (cf : Cf) (lv : Value) :
    (((((((Try.zeroCells59.setIfInBounds 0 (.int .u64 cf.seed)).setIfInBounds 1 (.int .u8 cf.batch)).setIfInBounds 2 (.int .i32 cf.rate)).setIfInBounds 3 (.int .i32 cf.mom)).setIfInBounds 4 (.int .u8 cf.decay)).setIfInBounds 5 (.string mk)).setIfInBounds 6 lv) = (prHead cf mk lv St.zero.steps ++ (lrnCells St.zero ++ [])).toArray := by
  rw [zero_prun, set_left _ (by simp [prHead]), set_left _ (by simp [prHead]), set_left _ (by simp [prHead]), set_left _ (by simp [prHead]), set_left _ (by simp [prHead]), set_left _ (by simp [prHead]), set_left _ (by simp [prHead])]
  rfl

set_option maxRecDepth 100000 in
set_option maxHeartbeats 2000000 in
theorem progNew_ok (r : Raw) (hw : r.Wf) (hr : r.ok = true) (s : ByteArray) (hs : s.size ≤ 600) (hne : 0 < (recs (ls s)).length) (w : World) :
    Calls Try.prog 16 #[.agg r.cells.toArray, .string s] w fun e w' => ∃ g vX, e = .returned (.tuple #[.pointer (some ⟨g, 0, none⟩), .int .i64 0]) ∧ w.heap.size ≤ g ∧ ProgRun w' g r.cf (markB r.cf s) vX St.zero ∧ w'.ownsRow w.heap.size 72 2 vX (recs (ls s)).length (exNsCells (exsOf (recs (ls s)))) ∧ Below w.heap.size w w' := by
  have HIn : Hid (∀ w1, Calls Try.prog 27 #[.agg r.cells.toArray] w1 fun e w' => e = .returned (.bool true) ∧ Below w1.heap.size w1 w') := fun w1 => by
    have h := inBounds_any r w1
    rw [hr] at h
    exact h
  have HMk : Hid (∀ w1, _) := fun w1 => progMark_any r.cf (Raw.cf_ok hr hw) s hs w1
  obtain ⟨sd, bt, ra, mo, de⟩ := r
  simp only [Raw.ok, decide_eq_true_eq] at hr
  obtain ⟨h1, h2, h3, h4, h5, h6, h7⟩ := hr
  obtain ⟨ra', rfl⟩ := Int.eq_ofNat_of_zero_le h3
  obtain ⟨mo', rfl⟩ := Int.eq_ofNat_of_zero_le h5
  have hl6 : (recs (ls s)).length ≤ 600 := by have := recs_len (ls s); rw [ls_length] at this; omega
  obtain ⟨R, HR0⟩ : ∃ R, Hid (recs (ls s) = R) := ⟨_, (rfl : _ = _)⟩
  rw [HR0.out] at hne hl6 ⊢
  have hn0 : ((R.length : Int) == 0) = false := beq_eq_false_iff_ne.2 (by omega)
  clear hw h4 h6
  have HCf : Hid (Raw.cf ⟨sd, bt, (ra' : Int), (mo' : Int), de⟩ = ⟨sd, bt, ra', mo', de⟩) := rfl
  rw [HCf.out] at HMk ⊢
  obtain ⟨mk, Hmk⟩ : ∃ mk, Hid (markB ⟨sd, bt, ra', mo', de⟩ s = mk) := ⟨_, (rfl : _ = _)⟩
  rw [Hmk.out] at HMk ⊢
  show Calls Try.prog 16 #[.agg #[.int .u64 sd, .int .u8 bt, .int .i32 ra', .int .i32 mo', .int .u8 de], .string s] w _
  go_enter Try.func16, Try.ntmps16
  go_wp2_with fail
  obtain ⟨w0, Hw0⟩ : ∃ w0, Hid (w.alloc (.cells #[.int .u64 sd, .int .u8 bt, .int .i32 ra', .int .i32 mo', .int .u8 de] 24) = w0) := ⟨_, (rfl : _ = _)⟩
  rw [Hw0.out]
  have HB0 : Hid (Below w.heap.size w w0) := by rw [← Hw0.out]; exact (Below.refl _ _).alloc (Nat.le_refl _) _
  have HC0 : Hid (CellsAt w0 w.heap.size 24 [.int .u64 sd, .int .u8 bt, .int .i32 ra', .int .i32 mo', .int .u8 de]) := by rw [← Hw0.out]; exact CellsAt.new w _ _ _ rfl rfl
  clear Hw0
  refine (recScan_any s hs _).mono ?_
  rintro e w1 ⟨vR, vG, rfl, hR, hG, hb1⟩
  rw [HR0.out] at hR
  have HR : Hid (w1.ownsRow w0.heap.size 107 4 vR R.length (recsCells R)) := hR
  obtain ⟨aR, cR, rfl, hc1, hc2, _⟩ := own_read hR
  obtain ⟨aG, cG, rfl, hd1, hd2, _⟩ := own_read hG
  unfold maxLen at hc2 hd2
  have HB1 : Hid (Below w.heap.size w w1) := HB0.out.trans (hb1.mono HB0.out.size)
  have HC1 : Hid (CellsAt w1 w.heap.size 24 [.int .u64 sd, .int .u8 bt, .int .i32 ra', .int .i32 mo', .int .u8 de]) := CellsAt.later HC0.out hb1
  have hsz := HB0.out.size
  clear hR hG hb1 HB0 HC0
  generalize (gaps (ls s)).length = m at *
  have c0 := CellsAt.cell HC1.out 0
  have c1 := CellsAt.cell HC1.out 1
  have c2 := CellsAt.cell HC1.out 2
  have c3 := CellsAt.cell HC1.out 3
  have c4 := CellsAt.cell HC1.out 4
  simp only [List.getElem?_cons_zero, List.getElem?_cons_succ] at c0 c1 c2 c3 c4
  go_wp2_with fail
  refine (HIn.out _).mono ?_
  rintro e w2 ⟨rfl, hb2⟩
  have HB2 : Hid (Below w.heap.size w w2) := HB1.out.trans (hb2.mono HB1.out.size)
  have HR2 : Hid (w2.ownsRow w0.heap.size 107 4 (.slice aR R.length cR) R.length (recsCells R)) := ownsRow_below HR.out hb2
  have HC2 : Hid (CellsAt w2 w.heap.size 24 [.int .u64 sd, .int .u8 bt, .int .i32 ra', .int .i32 mo', .int .u8 de]) := CellsAt.later HC1.out hb2
  clear hb2 HB1 HR HC1 c0 c1 c2 c3 c4
  have c0 := CellsAt.cell HC2.out 0
  have c1 := CellsAt.cell HC2.out 1
  have c2 := CellsAt.cell HC2.out 2
  have c3 := CellsAt.cell HC2.out 3
  have c4 := CellsAt.cell HC2.out 4
  simp only [List.getElem?_cons_zero, List.getElem?_cons_succ] at c0 c1 c2 c3 c4
  go_wp2_with fail
  refine (HMk.out _).mono ?_
  rintro e w2' ⟨rfl, hb2'⟩
  have HB2' : Hid (Below w.heap.size w w2') := HB2.out.trans (hb2'.mono HB2.out.size)
  have HR2' : Hid (w2'.ownsRow w0.heap.size 107 4 (.slice aR R.length cR) R.length (recsCells R)) := ownsRow_below HR2.out hb2'
  have HC2' : Hid (CellsAt w2' w.heap.size 24 [.int .u64 sd, .int .u8 bt, .int .i32 ra', .int .i32 mo', .int .u8 de]) := CellsAt.later HC2.out hb2'
  clear hb2' HB2 HR2 HC2 c0 c1 c2 c3 c4
  go_wp2_with fail
  refine (examplesOf_any _ _ R hl6 _ HR2'.out).mono ?_
  rintro e w3 ⟨vX, rfl, hX, hb3⟩
  obtain ⟨aX, cX, rfl, hx1, hx2, hx3⟩ := own_read hX
  have HX : Hid (w3.ownsRow w2'.heap.size 72 2 (.slice aX R.length cX) R.length (exNsCells (exsOf R))) := hX
  have HB3 : Hid (Below w.heap.size w w3) := HB2'.out.trans (hb3.mono HB2'.out.size)
  have HC3 : Hid (CellsAt w3 w.heap.size 24 [.int .u64 sd, .int .u8 bt, .int .i32 ra', .int .i32 mo', .int .u8 de]) := CellsAt.later HC2'.out hb3
  have c0 := CellsAt.cell HC3.out 0
  have c1 := CellsAt.cell HC3.out 1
  have c2 := CellsAt.cell HC3.out 2
  have c3 := CellsAt.cell HC3.out 3
  have c4 := CellsAt.cell HC3.out 4
  simp only [List.getElem?_cons_zero, List.getElem?_cons_succ] at c0 c1 c2 c3 c4
  clear hX hb3 hx3
  go_wp2_with fail
  rw [prun_new ⟨sd, bt, ra', mo', de⟩ (.slice aX R.length cX)]
  clear c0 c1 c2 c3 c4
  generalize hcl : prHead ⟨sd, bt, ra', mo', de⟩ mk (.slice aX R.length cX) St.zero.steps ++ (lrnCells St.zero ++ []) = cells
  have Hcl : Hid (prHead ⟨sd, bt, ra', mo', de⟩ mk (.slice aX R.length cX) St.zero.steps ++ (lrnCells St.zero ++ []) = cells) := hcl
  clear hcl
  go_wp2
  go_ret2
  refine ⟨w3.heap.size, .slice aX R.length cX, rfl, HB3.out.size, ?_, ?_, HB3.out.alloc HB3.out.size _⟩
  · show CellsAt _ _ _ _
    rw [Hcl.out]
    exact CellsAt.new w3 _ _ _ rfl rfl
  · exact own_base (ownsRow_below HX.out ((Below.refl _ _).alloc (Nat.le_refl _) _)) HB2'.out.size

set_option maxRecDepth 100000 in
set_option maxHeartbeats 2000000 in
theorem progNew_bad (r : Raw) (hr : r.ok = false) (s : ByteArray) (hs : s.size ≤ 600) (w : World) :
    Calls Try.prog 16 #[.agg r.cells.toArray, .string s] w fun e w' => e = .returned (.tuple #[.pointer none, .int .i64 4]) ∧ Below w.heap.size w w' := by
  have HIn : Hid (∀ w1, Calls Try.prog 27 #[.agg r.cells.toArray] w1 fun e w' => e = .returned (.bool false) ∧ Below w1.heap.size w1 w') := fun w1 => by
    have h := inBounds_any r w1
    rw [hr] at h
    exact h
  obtain ⟨sd, bt, ra, mo, de⟩ := r
  show Calls Try.prog 16 #[.agg #[.int .u64 sd, .int .u8 bt, .int .i32 ra, .int .i32 mo, .int .u8 de], .string s] w _
  go_enter Try.func16, Try.ntmps16
  go_wp2_with fail
  obtain ⟨w0, Hw0⟩ : ∃ w0, Hid (w.alloc (.cells #[.int .u64 sd, .int .u8 bt, .int .i32 ra, .int .i32 mo, .int .u8 de] 24) = w0) := ⟨_, (rfl : _ = _)⟩
  rw [Hw0.out]
  have HB0 : Hid (Below w.heap.size w w0) := by rw [← Hw0.out]; exact (Below.refl _ _).alloc (Nat.le_refl _) _
  have HC0 : Hid (CellsAt w0 w.heap.size 24 [.int .u64 sd, .int .u8 bt, .int .i32 ra, .int .i32 mo, .int .u8 de]) := by rw [← Hw0.out]; exact CellsAt.new w _ _ _ rfl rfl
  clear Hw0
  refine (recScan_any s hs _).mono ?_
  rintro e w1 ⟨vR, vG, rfl, hR, hG, hb1⟩
  obtain ⟨aR, cR, rfl, hc1, hc2, _⟩ := own_read hR
  obtain ⟨aG, cG, rfl, hd1, hd2, _⟩ := own_read hG
  unfold maxLen at hc2 hd2
  have HB1 : Hid (Below w.heap.size w w1) := HB0.out.trans (hb1.mono HB0.out.size)
  have HC1 : Hid (CellsAt w1 w.heap.size 24 [.int .u64 sd, .int .u8 bt, .int .i32 ra, .int .i32 mo, .int .u8 de]) := CellsAt.later HC0.out hb1
  clear hR hG hb1 HB0 HC0
  generalize (gaps (ls s)).length = m at *
  generalize (recs (ls s)).length = n at *
  have c0 := CellsAt.cell HC1.out 0
  have c1 := CellsAt.cell HC1.out 1
  have c2 := CellsAt.cell HC1.out 2
  have c3 := CellsAt.cell HC1.out 3
  have c4 := CellsAt.cell HC1.out 4
  simp only [List.getElem?_cons_zero, List.getElem?_cons_succ] at c0 c1 c2 c3 c4
  go_wp2_with fail
  refine (HIn.out _).mono ?_
  rintro e w2 ⟨rfl, hb2⟩
  have HB2 : Hid (Below w.heap.size w w2) := HB1.out.trans (hb2.mono HB1.out.size)
  clear hb2 HB1 HC1 c0 c1 c2 c3 c4
  go_wp2
  go_ret2
  exact ⟨rfl, HB2.out⟩

set_option maxRecDepth 100000 in
set_option maxHeartbeats 2000000 in
theorem progNew_empty (r : Raw) (hr : r.ok = true) (s : ByteArray) (hs : s.size ≤ 600) (hne : (recs (ls s)).length = 0) (w : World) :
    Calls Try.prog 16 #[.agg r.cells.toArray, .string s] w fun e w' => e = .returned (.tuple #[.pointer none, .int .i64 5]) ∧ Below w.heap.size w w' := by
  have HIn : Hid (∀ w1, Calls Try.prog 27 #[.agg r.cells.toArray] w1 fun e w' => e = .returned (.bool true) ∧ Below w1.heap.size w1 w') := fun w1 => by
    have h := inBounds_any r w1
    rw [hr] at h
    exact h
  obtain ⟨sd, bt, ra, mo, de⟩ := r
  show Calls Try.prog 16 #[.agg #[.int .u64 sd, .int .u8 bt, .int .i32 ra, .int .i32 mo, .int .u8 de], .string s] w _
  go_enter Try.func16, Try.ntmps16
  go_wp2_with fail
  obtain ⟨w0, Hw0⟩ : ∃ w0, Hid (w.alloc (.cells #[.int .u64 sd, .int .u8 bt, .int .i32 ra, .int .i32 mo, .int .u8 de] 24) = w0) := ⟨_, (rfl : _ = _)⟩
  rw [Hw0.out]
  have HB0 : Hid (Below w.heap.size w w0) := by rw [← Hw0.out]; exact (Below.refl _ _).alloc (Nat.le_refl _) _
  have HC0 : Hid (CellsAt w0 w.heap.size 24 [.int .u64 sd, .int .u8 bt, .int .i32 ra, .int .i32 mo, .int .u8 de]) := by rw [← Hw0.out]; exact CellsAt.new w _ _ _ rfl rfl
  clear Hw0
  refine (recScan_any s hs _).mono ?_
  rintro e w1 ⟨vR, vG, rfl, hR, hG, hb1⟩
  rw [hne] at hR
  obtain ⟨aR, cR, rfl, hc1, hc2, _⟩ := own_read hR
  obtain ⟨aG, cG, rfl, hd1, hd2, _⟩ := own_read hG
  unfold maxLen at hc2 hd2
  have HB1 : Hid (Below w.heap.size w w1) := HB0.out.trans (hb1.mono HB0.out.size)
  have HC1 : Hid (CellsAt w1 w.heap.size 24 [.int .u64 sd, .int .u8 bt, .int .i32 ra, .int .i32 mo, .int .u8 de]) := CellsAt.later HC0.out hb1
  clear hR hG hb1 HB0 HC0 hne
  generalize (gaps (ls s)).length = m at *
  have c0 := CellsAt.cell HC1.out 0
  have c1 := CellsAt.cell HC1.out 1
  have c2 := CellsAt.cell HC1.out 2
  have c3 := CellsAt.cell HC1.out 3
  have c4 := CellsAt.cell HC1.out 4
  simp only [List.getElem?_cons_zero, List.getElem?_cons_succ] at c0 c1 c2 c3 c4
  go_wp2_with fail
  refine (HIn.out _).mono ?_
  rintro e w2 ⟨rfl, hb2⟩
  have HB2 : Hid (Below w.heap.size w w2) := HB1.out.trans (hb2.mono HB1.out.size)
  clear hb2 HB1 HC1 c0 c1 c2 c3 c4
  go_wp2
  go_ret2
  exact ⟨rfl, HB2.out⟩

set_option maxHeartbeats 400000 in
theorem recScan_long (s : ByteArray) (hs : 600 < s.size) (hm : s.size ≤ maxLen) (w : World) :
    Calls Try.prog 26 #[.string s] w fun e w' => e = .returned (.tuple #[.slice none 0 0, .slice none 0 0, .int .i64 2]) ∧ w' = w := by
  unfold maxLen at hm
  go_enter Try.func26, Try.ntmps26
  go_wp2
  go_ret3
  exact ⟨rfl, rfl⟩
set_option maxRecDepth 100000 in
set_option maxHeartbeats 2000000 in
theorem progNew_long (r : Raw) (s : ByteArray) (hs : 600 < s.size) (hm : s.size ≤ maxLen) (w : World) :
    Calls Try.prog 16 #[.agg r.cells.toArray, .string s] w fun e w' => e = .returned (.tuple #[.pointer none, .int .i64 2]) ∧ Below w.heap.size w w' := by
  obtain ⟨sd, bt, ra, mo, de⟩ := r
  show Calls Try.prog 16 #[.agg #[.int .u64 sd, .int .u8 bt, .int .i32 ra, .int .i32 mo, .int .u8 de], .string s] w _
  go_enter Try.func16, Try.ntmps16
  go_wp2_with fail
  refine (recScan_long s hs hm _).mono ?_
  rintro e w1 ⟨rfl, hw⟩
  have hw' := hw.symm
  clear hw
  subst hw'
  go_wp2
  go_ret2
  exact ⟨rfl, (Below.refl _ _).alloc (Nat.le_refl _) _⟩
end Go.Proofs.Ytfpodnleimhohab

/-
  WALKS: frames of examples; a shard laid of frames and noise.
-/
namespace Go.Proofs.Ytfpodnleimhohab
open Go.RowKit
set_option linter.unusedVariables false

theorem info_str : (Try.prog.info? 9).map (fun i => (i.zero, i.size, i.bytes)) = some (some (.string ⟨#[]⟩), 1, 16) := by kernel_rfl
/-- An example with a label and a short text. -/
def ExOk (x : Int × List UInt8) : Prop := 0 ≤ x.1 ∧ x.1 ≤ 3 ∧ x.2.length ≤ 40
theorem exsTo_ok (L : Nat → Int) (T : Nat → ByteArray) : ∀ k, ∀ x ∈ exsTo L T k, ExOk x
  | 0 => by simp [exsTo]
  | k + 1 => by
    intro x hx
    simp only [exsTo, List.mem_append, List.mem_singleton] at hx
    rcases hx with hx | rfl
    · exact exsTo_ok L T k x hx
    · refine ⟨?_, ?_, ?_⟩
      · show 0 ≤ L k % 4; omega
      · show L k % 4 ≤ 3; omega
      · show ((ls (T k)).take 40).length ≤ 40; rw [List.length_take]; omega
theorem exs_ok (len : Nat) (L : Nat → Int) (T : Nat → ByteArray) : ∀ x ∈ exs len L T, ExOk x := by
  unfold exs; split
  · intro x hx
    simp at hx
    subst hx
    exact ⟨by decide, by decide, by decide⟩
  · exact exsTo_ok L T _
theorem exs_len (len : Nat) (L : Nat → Int) (T : Nat → ByteArray) : 1 ≤ (exs len L T).length ∧ (exs len L T).length ≤ 8 := by
  unfold exs; split
  · simp
  · rw [exsTo_length]; omega
theorem frame_len (l : Int) (t : List UInt8) (h : t.length ≤ 40) : (frame l t).length = t.length + 7 := by
  unfold frame frameB
  have hl := body_length l t
  rw [hl, var_short _ (by omega)]
  simp [le_length, hl]
theorem frameAns_ex (l : Int) (t : List UInt8) (h1 : l ≤ 3) (h2 : t.length ≤ 40) : frameAns l (bs t) = (bs (frame l t), 0) := by
  rw [frameAns_ok _ _ (by omega) (by rw [bs_size]; omega), ls_bs]
/-- The frames of examples. -/
def framesL (X : List (Int × List UInt8)) : List (List UInt8) := X.map fun x => frame x.1 x.2
def strCells (F : List (List UInt8)) : List Value := F.map fun f => .string (bs f)
theorem ex_get {X : List (Int × List UInt8)} {k : Nat} {x : Int × List UInt8} (h : X[k]? = some x) : (exsCells X)[k * 2]? = some (.int .u8 x.1) ∧ (exsCells X)[k * 2 + 1]? = some (.string (bs x.2)) := by
  have f := flat_get exCells 2 (fun _ => rfl) X k x h
  exact ⟨f 0 (by omega), f 1 (by omega)⟩

set_option maxRecDepth 4000 in
set_option maxHeartbeats 1000000 in
theorem frames_any (base : Nat) (v : Value) (X : List (Int × List UInt8)) (w : World) (hown : w.ownsRow base 72 2 v X.length (exsCells X)) (hX : ∀ x ∈ X, ExOk x) (hX8 : X.length ≤ 8) :
    Calls Try.prog 14 #[v] w fun e w' => ∃ v', e = .returned (.tuple #[v', .bool true]) ∧ w'.ownsRow w.heap.size 9 1 v' X.length (strCells (framesL X)) ∧ Below w.heap.size w w' := by
  obtain ⟨i0, hi, hz0, hz1, hz2⟩ := info_parts info_str
  obtain ⟨aX, cX, rfl, hc1, hc2, HRd⟩ := own_read hown
  unfold maxLen at hc2
  have HR : Hid _ := HRd
  have HX : Hid _ := hX
  clear HRd hX hown
  go_enter Try.func14, Try.ntmps14
  go_wp2
  go_loopw [4, 5] (fun v i wr => ∃ k : Nat, k ≤ X.length ∧ i = .int .i64 k ∧ wr.ownsRow w.heap.size 9 1 v k (strCells (framesL (X.take k))) ∧ Below w.heap.size w wr) (fun _ i _ => X.length - (intOf i).toNat)
  case atStart => exact ⟨0, by omega, rfl, World.ownsRow_nil _ _ _ _, Below.refl _ _⟩
  case round =>
    obtain ⟨k, hk, rfl, ho, hbel⟩ := hrel
    by_cases hlt : k < X.length
    · obtain ⟨g, rfl, hgb, hgl, hgc⟩ := HR.out (by omega)
      obtain ⟨q0, q1⟩ := ex_get (List.getElem?_eq_getElem hlt)
      have hok := HX.out _ (List.getElem_mem hlt)
      have HT : Hid (X.take (k + 1) = X.take k ++ [X[k]]) := List.take_succ_eq_append_getElem hlt
      generalize hxe : X[k] = x at *
      obtain ⟨l, t⟩ := x
      obtain ⟨o1, o2, o3⟩ := hok
      simp only at o1 o2 o3 q0 q1
      have HA : Hid (frameAns l (bs t) = (bs (frame l t), 0)) := frameAns_ex l t o2 o3
      have HZ : Hid ((bs (frame l t)).size = t.length + 7) := (bs_size _).trans (frame_len l t o3)
      have C : Hid (w.cell? ⟨g, k * 2, none⟩ = some (.int .u8 l) ∧ w.cell? ⟨g, k * 2 + 1, none⟩ = some (.string (bs t))) := ⟨(hgc _ (by omega)).trans q0, (hgc _ (by omega)).trans q1⟩
      have htz : (bs t).size = t.length := bs_size t
      clear q0 q1 hgc hxe
      have d0 := (hbel.cell (p := ⟨g, k * 2, none⟩) hgl).trans C.out.1
      have d1 := (hbel.cell (p := ⟨g, k * 2 + 1, none⟩) hgl).trans C.out.2
      go_wp2_with fail
      refine (drillFrame_any l (bs t) o1 (by omega) (by unfold maxLen; omega) _).mono ?_
      rintro e w1 ⟨rfl, hb1⟩
      rw [HA.out]
      have hbel1 := hbel.trans (hb1.mono hbel.size)
      have ho1 := ownsRow_below ho hb1
      clear d0 d1 ho
      have d0 := (hbel1.cell (p := ⟨g, k * 2, none⟩) hgl).trans C.out.1
      have d1 := (hbel1.cell (p := ⟨g, k * 2 + 1, none⟩) hgl).trans C.out.2
      obtain ⟨Fr, HFr, hFz⟩ : ∃ Fr : ByteArray, Hid (bs (frame l t) = Fr) ∧ Fr.size = t.length + 7 := ⟨_, (rfl : _ = _), HZ.out⟩
      rw [HFr.out]
      generalize hbt : bs t = tx at *
      have hzs := hbel1.size
      go_wp2_with (at_builtin; refine wpList_append_own _ rfl (.tmp 36) (.tmp 38) 26 rfl w.heap.size 9 i0 (.string ⟨#[]⟩) 1 16 Try.underlying26 hi hz0 hz1 hz2 rfl (by decide) _ _ _ rfl (ho1.alloc _) ⟨w1.heap.size, 0, none⟩ 1 1 [.string Fr] rfl rfl (news_at _ _ rfl _ _ _ rfl) (oneCell_nums _ rfl) (by unfold maxLen; omega) (by omega) (by simp; omega) ?_; intro v' w2 ho2 hgr hxx; clear hxx)
      go_roundw
      case rel =>
        refine ⟨k + 1, by omega, by go_num, ?_, ?_⟩
        · rw [HT.out]
          have e : strCells (framesL (X.take k ++ [(l, t)])) = strCells (framesL (X.take k)) ++ [.string Fr] := by
            simp [strCells, framesL, HFr.out]
          rw [e]; exact ho2
        · exact (hbel1.alloc hzs _).grown hgr (by simp; omega) (fun j hj => (ho1.lt j hj).1)
      case measure => simp [intOf]; omega
    · obtain rfl : k = X.length := by omega
      rw [List.take_length] at ho
      go_wp2
      go_ret2
      exact ⟨_, rfl, ho, hbel⟩

/-- Noise and frames, one behind the other. -/
def layFrom (N : Nat → List UInt8) : Nat → List (List UInt8) → List UInt8
  | i, [] => N i
  | i, f :: fs => N i ++ (f ++ layFrom N (i + 1) fs)

set_option maxRecDepth 4000 in
set_option maxHeartbeats 1000000 in
theorem laid_any (base : Nat) (v : Value) (F : List (List UInt8)) (w : World) (hown : w.ownsRow base 9 1 v F.length (strCells F)) (hF : ∀ f ∈ F, f.length ≤ 47) (hF8 : F.length ≤ 8)
    (a : Option Addr) (len cap : Nat) (T : Nat → ByteArray) (hlm : len ≤ maxLen) (hT : IsStrs w a len cap T) :
    Calls Try.prog 15 #[v, .slice a len cap] w fun e w' => e = .returned (.string (bs (layFrom (noiseL T len) 0 F))) ∧ w' = w := by
  obtain ⟨aX, cX, rfl, hc1, hc2, HRd⟩ := own_read hown
  unfold maxLen at hc2
  have HR : Hid _ := HRd
  have HX : Hid _ := hF
  have HT : Hid _ := hT
  clear HRd hF hown hT
  go_enter Try.func15, Try.ntmps15
  go_wp2
  go_loop [5, 6] (fun s i => ∃ (k : Nat) (S : ByteArray), k ≤ F.length ∧ i = .int .i64 k ∧ s = .string S ∧ S.size ≤ k * 59 ∧ Hid (ls S ++ layFrom (noiseL T len) k (F.drop k) = layFrom (noiseL T len) 0 F)) (fun _ i => F.length - (intOf i).toNat)
  case atStart => exact ⟨0, ⟨#[]⟩, by omega, rfl, rfl, by decide, (rfl : _ = _)⟩
  case round =>
    obtain ⟨k, S, hk, rfl, rfl, hSz, HS⟩ := hrel
    have hnz : (bs (noiseL T len k)).size ≤ 12 := by rw [bs_size]; exact noiseL_le _ _ _
    by_cases hlt : k < F.length
    · obtain ⟨g, rfl, hgb, hgl, hgc⟩ := HR.out (by omega)
      have hfz := HX.out _ (List.getElem_mem hlt)
      have d0 : w.cell? ⟨g, k, none⟩ = some (.string (bs F[k])) := by
        rw [hgc k (by omega)]
        simp [strCells, List.getElem?_eq_getElem hlt]
      have HD : Hid (F.drop k = F[k] :: F.drop (k + 1)) := List.drop_eq_getElem_cons hlt
      obtain ⟨f, hf⟩ : ∃ f, F[k] = f := ⟨_, rfl⟩
      rw [hf] at hfz d0 HD
      obtain ⟨Fb, HFb, hFbz⟩ : ∃ Fb : ByteArray, Hid (bs f = Fb) ∧ Fb.size ≤ 47 := ⟨_, (rfl : _ = _), by rw [bs_size]; exact hfz⟩
      rw [HFb.out] at d0
      clear hgc hf hfz
      go_wp2_with fail
      refine (noise_any a len cap T k (by omega) hlm _ HT.out).mono ?_
      rintro e w1 ⟨rfl, hw⟩
      subst hw
      obtain ⟨Nb, HNb, hNz⟩ : ∃ Nb : ByteArray, Hid (bs (noiseL T len k) = Nb) ∧ Nb.size ≤ 12 := ⟨_, (rfl : _ = _), hnz⟩
      rw [HNb.out]
      clear hnz
      go_wp2
      go_round
      case rel =>
        refine ⟨k + 1, _, by omega, by go_num, rfl, ?_, ?_⟩
        · rw [ByteArray.size_append, ByteArray.size_append]; omega
        · show _ = _
          rw [← HS.out, HD.out, ls_append, ls_append, ← HNb.out, ← HFb.out, ls_bs, ls_bs]
          simp [layFrom]
      case measure => simp [intOf]; omega
    · obtain rfl : k = F.length := by omega
      go_wp2_with fail
      refine (noise_any a len cap T F.length (by omega) hlm _ HT.out).mono ?_
      rintro e w1 ⟨rfl, hw⟩
      subst hw
      go_wp2
      go_ret
      refine ⟨ret_str ?_, rfl⟩
      apply ls_inj
      rw [ls_append, ls_bs, ls_bs, ← HS.out]
      simp [layFrom]
end Go.Proofs.Ytfpodnleimhohab

/-
  PLAIN MATHEMATICS: the records and gaps of a shard that was laid of noise and frames.
-/
namespace Go.Proofs.Ytfpodnleimhohab
open Go.RowKit

def layRecs (N : Nat → List UInt8) : Nat → Nat → List (List UInt8) → List Rc
  | _, _, [] => []
  | i, p, b :: bs => ⟨p + (N i).length, p + (N i).length + (frameB b).length, b⟩ :: layRecs N (i + 1) (p + (N i).length + (frameB b).length) bs
theorem recsAt_skip (L : List UInt8) : ∀ (n : List UInt8) (p : Nat) (rest : List UInt8), (∀ c ∈ n, c ≠ 213) → p ≤ L.length → L.drop p = n ++ rest → p + n.length ≤ L.length ∧ recsAt L p = recsAt L (p + n.length) ∧ L.drop (p + n.length) = rest := by
  intro n
  induction n with
  | nil => intro p rest _ hp h; exact ⟨hp, rfl, by simpa using h⟩
  | cons c n ih =>
    intro p rest hn hp h
    obtain ⟨hlt, _, hd⟩ := drop_head (show L.drop p = c :: (n ++ rest) from h)
    have hs : stand (L.drop p) = none := by
      rw [h]; exact stand_213 (hn c List.mem_cons_self)
    obtain ⟨e1, e2, e3⟩ := ih (p + 1) rest (fun d hd => hn d (List.mem_cons_of_mem _ hd)) hlt hd
    have e : p + 1 + n.length = p + (c :: n).length := by simp; omega
    rw [e] at e1 e2 e3
    exact ⟨e1, by rw [recsAt_none hlt hs]; exact e2, e3⟩
theorem recsAt_lay (L : List UInt8) (N : Nat → List UInt8) (hN : ∀ i, ∀ c ∈ N i, c ≠ 213) : ∀ (bs : List (List UInt8)) (i p : Nat), (∀ b ∈ bs, bodyOk b = true) → p ≤ L.length → L.drop p = layFrom N i (bs.map frameB) → recsAt L p = layRecs N i p bs := by
  intro bs
  induction bs with
  | nil =>
    intro i p _ hp h
    obtain ⟨e1, e2, e3⟩ := recsAt_skip L (N i) p [] (hN i) hp (by rw [h]; simp [layFrom])
    rw [e2]
    have : p + (N i).length = L.length := by
      have := List.drop_eq_nil_iff.1 e3; omega
    rw [this, recsAt_end]; rfl
  | cons b bs ih =>
    intro i p hb hp h
    obtain ⟨e1, e2, e3⟩ := recsAt_skip L (N i) p (frameB b ++ layFrom N (i + 1) (bs.map frameB)) (hN i) hp (by rw [h]; rfl)
    rw [e2]
    have hs : stand (L.drop (p + (N i).length)) = some b := (stand_iff _ _).2 ⟨hb b List.mem_cons_self, by rw [e3]; exact List.prefix_append _ _⟩
    obtain ⟨h1, h2⟩ := recsAt_some hs
    have h3 : L.drop (p + (N i).length + (frameB b).length) = layFrom N (i + 1) (bs.map frameB) := by
      rw [← List.drop_drop, e3, List.drop_left]
    rw [h2]
    show _ = _ :: layRecs N (i + 1) _ bs
    clear h2 hs e2
    generalize p + (N i).length + (frameB b).length = q at *
    rw [ih (i + 1) q (fun d hd => hb d (List.mem_cons_of_mem _ hd)) h1 h3]

/-- The state of one who goes through what was laid. -/
structure FSt (L : List UInt8) (N : Nat → List UInt8) (bs : List (List UInt8)) (R : List Rc) (G : List (Nat × Nat)) (P K I : Nat) : Prop where
  hP : P ≤ L.length
  hI : I ≤ bs.length
  hlay : L.drop P = layFrom N I ((bs.drop I).map frameB)
  hrec : R.drop I = layRecs N I P (bs.drop I)
  hgap : G.drop K = gapsF P L.length (R.drop I)
  hK : K ≤ G.length
theorem FSt.start (N : Nat → List UInt8) (bs : List (List UInt8)) (L : List UInt8) (hL : L = layFrom N 0 (bs.map frameB)) (hN : ∀ i, ∀ c ∈ N i, c ≠ 213) (hb : ∀ b ∈ bs, bodyOk b = true) :
    FSt L N bs (recs L) (gaps L) 0 0 0 :=
  ⟨by omega, by omega, by simpa using hL, recsAt_lay L N hN bs 0 0 hb (by omega) (by simpa using hL), rfl, by omega⟩
theorem layRecs_length (N : Nat → List UInt8) : ∀ (bs : List (List UInt8)) (i p : Nat), (layRecs N i p bs).length = bs.length := by
  intro bs
  induction bs with
  | nil => intro i p; rfl
  | cons b bs ih =>
    intro i p
    show (layRecs N (i + 1) _ bs).length + 1 = bs.length + 1
    rw [ih]
theorem FSt.step {L : List UInt8} {N : Nat → List UInt8} {bs : List (List UInt8)} {R : List Rc} {G : List (Nat × Nat)} {P K I : Nat} (s : FSt L N bs R G P K I) :
    ∃ K', (0 < (N I).length → K < G.length ∧ G[K]? = some (P, P + (N I).length) ∧ K' = K + 1) ∧ (¬ 0 < (N I).length → K' = K) ∧ K' ≤ G.length ∧ P + (N I).length ≤ L.length ∧
      (∀ b, bs[I]? = some b → I < R.length ∧ R[I]? = some ⟨P + (N I).length, P + (N I).length + (frameB b).length, b⟩ ∧ FSt L N bs R G (P + (N I).length + (frameB b).length) K' (I + 1)) ∧
      (I = bs.length → K' = G.length) := by
  have hP := s.hP
  cases hb : bs.drop I with
  | nil =>
    have hI : I = bs.length := by have := List.drop_eq_nil_iff.1 hb; have := s.hI; omega
    have hr := s.hrec
    rw [hb] at hr
    have hl := s.hlay
    rw [hb] at hl
    have hlen : L.length = P + (N I).length := by
      have := congrArg List.length hl
      simp [layFrom] at this
      omega
    have hg := s.hgap
    rw [hr] at hg
    have hnone : ∀ b, bs[I]? ≠ some b := by
      intro b h
      rw [List.getElem?_eq_none (by omega)] at h
      simp at h
    by_cases hn : 0 < (N I).length
    · have hg2 : G.drop K = (P, P + (N I).length) :: [] := by
        rw [hg, ← hlen]
        show gapsF P L.length [] = _
        simp [gapsF]; omega
      obtain ⟨h1, h2, h3⟩ := drop_head hg2
      have h4 := List.drop_eq_nil_iff.1 h3
      exact ⟨K + 1, fun _ => ⟨h1, h2, rfl⟩, fun h => absurd hn h, h1, by omega, fun b h => absurd h (hnone b), fun _ => by omega⟩
    · have hg2 : G.drop K = [] := by
        rw [hg]
        show gapsF P L.length [] = _
        simp [gapsF]; omega
      have h4 := List.drop_eq_nil_iff.1 hg2
      have := s.hK
      exact ⟨K, fun h => absurd h hn, fun _ => rfl, s.hK, by omega, fun b h => absurd h (hnone b), fun _ => by omega⟩
  | cons b bs' =>
    obtain ⟨hI, hbI, hd⟩ := drop_head hb
    have hr := s.hrec
    rw [hb] at hr
    have hr' : R.drop I = ⟨P + (N I).length, P + (N I).length + (frameB b).length, b⟩ :: layRecs N (I + 1) (P + (N I).length + (frameB b).length) bs' := hr
    obtain ⟨r1, r2, r3⟩ := drop_head hr'
    have hl := s.hlay
    rw [hb] at hl
    have hl' : L.drop P = N I ++ (frameB b ++ layFrom N (I + 1) (bs'.map frameB)) := hl
    have hle : P + (N I).length + (frameB b).length ≤ L.length := by
      have := congrArg List.length hl'
      simp at this
      have h6 := frameB_len b
      generalize (frameB b).length = z at *
      omega
    have hl2 : L.drop (P + (N I).length + (frameB b).length) = layFrom N (I + 1) (bs'.map frameB) := by
      rw [← List.drop_drop, ← List.drop_drop, hl', List.drop_left, List.drop_left]
    have hg := s.hgap
    rw [hr'] at hg
    have nxt : ∀ K', K' ≤ G.length → G.drop K' = gapsF (P + (N I).length + (frameB b).length) L.length (layRecs N (I + 1) (P + (N I).length + (frameB b).length) bs') → FSt L N bs R G (P + (N I).length + (frameB b).length) K' (I + 1) := by
      intro K' h1 h2
      exact ⟨hle, hI, by rw [hd]; exact hl2, by rw [hd]; exact r3, by rw [r3]; exact h2, h1⟩
    have uniq : ∀ b', bs[I]? = some b' → b' = b := by
      intro b' h; rw [hbI] at h; simpa using h.symm
    by_cases hn : 0 < (N I).length
    · rw [gapsF, if_pos (show P < P + (N I).length by omega)] at hg
      obtain ⟨h1, h2, h3⟩ := drop_head (show G.drop K = (P, P + (N I).length) :: _ from hg)
      refine ⟨K + 1, fun _ => ⟨h1, h2, rfl⟩, fun h => absurd hn h, h1, by clear nxt hl2 hl' hl hr hr' r2 r3; generalize (frameB b).length = z at *; omega, fun b' h => ?_, fun h => by omega⟩
      rw [uniq b' h]
      exact ⟨r1, r2, nxt (K + 1) h1 h3⟩
    · rw [gapsF, if_neg (show ¬ P < P + (N I).length by omega), List.nil_append] at hg
      refine ⟨K, fun h => absurd h hn, fun _ => rfl, s.hK, by clear nxt hl2 hl' hl hr hr' r2 r3; generalize (frameB b).length = z at *; omega, fun b' h => ?_, fun h => by omega⟩
      rw [uniq b' h]
      exact ⟨r1, r2, nxt K s.hK hg⟩
theorem FSt.rlen {L : List UInt8} {N : Nat → List UInt8} {bs : List (List UInt8)} {R : List Rc} {G : List (Nat × Nat)} (s : FSt L N bs R G 0 0 0) : R.length = bs.length := by
  have := congrArg List.length s.hrec
  rw [layRecs_length] at this
  simpa using this
end Go.Proofs.Ytfpodnleimhohab

/-
  FRAMES LAID ONE BEHIND THE OTHER: what is read of them.
-/
namespace Go.Proofs.Ytfpodnleimhohab
open Go.RowKit
set_option linter.unusedVariables false

/-- The bodies of examples. -/
def bodies (X : List (Int × List UInt8)) : List (List UInt8) := X.map fun x => body x.1 x.2
theorem bodies_ok {X : List (Int × List UInt8)} (h : ∀ x ∈ X, ExOk x) : ∀ b ∈ bodies X, bodyOk b = true := by
  intro b hb
  obtain ⟨x, hx, rfl⟩ := List.mem_map.1 hb
  obtain ⟨h0, h1, h2⟩ := h x hx
  have t := by8_toNat x.1 h0 (by omega)
  simp [body, bodyOk]
  omega
theorem frames_bodies (X : List (Int × List UInt8)) : framesL X = (bodies X).map frameB := by
  simp [framesL, bodies, frame]
theorem layFrom_len (N : Nat → List UInt8) (hN : ∀ i, (N i).length ≤ 12) : ∀ (F : List (List UInt8)) (i : Nat), (∀ f ∈ F, f.length ≤ 47) → (layFrom N i F).length ≤ 12 + 59 * F.length := by
  intro F
  induction F with
  | nil => intro i _; simp [layFrom]; exact hN i
  | cons f F ih =>
    intro i hF
    have h1 := ih (i + 1) (fun g hg => hF g (List.mem_cons_of_mem _ hg))
    have h2 := hF f List.mem_cons_self
    have h3 := hN i
    simp [layFrom]
    omega
theorem framesL_le {X : List (Int × List UInt8)} (h : ∀ x ∈ X, ExOk x) : ∀ f ∈ framesL X, f.length ≤ 47 := by
  intro f hf
  obtain ⟨x, hx, rfl⟩ := List.mem_map.1 hf
  have := (h x hx).2.2
  rw [frame_len x.1 x.2 this]; omega

theorem IsExs.later {w w' : World} {a : Option Addr} {len cap : Nat} {L : Nat → Int} {T : Nat → ByteArray} (h : IsExs w a len cap L T) (hb : Below w.heap.size w w') : IsExs w' a len cap L T := by
  rcases h with h | ⟨b, off, e1, e2, e3, e4, e5⟩
  · exact .inl h
  · exact .inr ⟨b, off, e1, e2, e3, Nat.lt_of_lt_of_le e4 hb.size, fun i hi => ⟨(hb.cell (p := ⟨b, off + i * 2, none⟩) e4).trans (e5 i hi).1, (hb.cell (p := ⟨b, off + i * 2 + 1, none⟩) e4).trans (e5 i hi).2.1, (e5 i hi).2.2⟩⟩
end Go.Proofs.Ytfpodnleimhohab

/-
  WALKS: a run over the frames of examples ('begun').
-/
namespace Go.Proofs.Ytfpodnleimhohab
open Go.RowKit
set_option linter.unusedVariables false
variable {mk : ByteArray}

/-- The examples as labelled texts. -/
def exNat (X : List (Int × List UInt8)) : List Ex := X.map fun x => (x.1.toNat, x.2)
theorem exNat_length (X : List (Int × List UInt8)) : (exNat X).length = X.length := by simp [exNat]
theorem exsOf_lay (N : Nat → List UInt8) : ∀ (X : List (Int × List UInt8)) (i p : Nat), (∀ x ∈ X, ExOk x) → exsOf (layRecs N i p (bodies X)) = exNat X := by
  intro X
  induction X with
  | nil => intro i p _; rfl
  | cons x X ih =>
    intro i p h
    have hx := h x List.mem_cons_self
    have h8 := by8_toNat x.1 hx.1 (by have := hx.2.1; omega)
    have e : bodies (x :: X) = body x.1 x.2 :: bodies X := rfl
    rw [e, layRecs]
    simp only [exsOf, List.map_cons, exNat]
    have ih' := ih (i + 1) (p + (N i).length + (frameB (body x.1 x.2)).length) (fun y hy => h y (List.mem_cons_of_mem _ hy))
    simp only [exsOf, exNat] at ih'
    rw [ih']
    congr 1
    simp only [exOf, body, List.headD_cons, List.tail_cons]
    rw [show (by8 x.1).toNat = x.1.toNat by omega]
/-- What is framed is what is read. -/
theorem lay_recs (N : Nat → List UInt8) (hN : ∀ i, ∀ c ∈ N i, c ≠ 213) (X : List (Int × List UInt8)) (hX : ∀ x ∈ X, ExOk x) : exsOf (recs (layFrom N 0 (framesL X))) = exNat X ∧ (recs (layFrom N 0 (framesL X))).length = X.length := by
  have h := recsAt_lay (layFrom N 0 (framesL X)) N hN (bodies X) 0 0 (bodies_ok hX) (by omega) (by rw [List.drop_zero, frames_bodies])
  unfold recs
  rw [h]
  exact ⟨exsOf_lay N X 0 0 hX, by rw [layRecs_length]; simp [bodies]⟩
theorem exNat_ok {X : List (Int × List UInt8)} (h : ∀ x ∈ X, ExOk x) : ∀ x ∈ exNat X, x.1 < 4 ∧ x.2.length ≤ 200 := by
  intro x hx
  obtain ⟨y, hy, rfl⟩ := List.mem_map.1 hx
  obtain ⟨h0, h1, h2⟩ := h y hy
  exact ⟨by show y.1.toNat < 4; omega, by show y.2.length ≤ 200; omega⟩

set_option maxRecDepth 100000 in
set_option maxHeartbeats 2000000 in
theorem begun_any (r : Raw) (hw : r.Wf) (hr : r.ok = true) (a0 : Option Addr) (len0 cap0 : Nat) (L0 : Nat → Int) (T0 : Nat → ByteArray) (a1 : Option Addr) (len1 cap1 : Nat) (T1 : Nat → ByteArray) (w : World)
    (h0 : IsExs w a0 len0 cap0 L0 T0) (hm0 : len0 ≤ maxLen) (h1 : IsStrs w a1 len1 cap1 T1) (hm1 : len1 ≤ maxLen) :
    Calls Try.prog 6 #[.agg r.cells.toArray, .slice a0 len0 cap0, .slice a1 len1 cap1] w fun e w' => ∃ g vX, e = .returned (.tuple #[.pointer (some ⟨g, 0, none⟩), .string (bs (layFrom (noiseL T1 len1) 0 (framesL (exs len0 L0 T0)))), .int .i64 ((exs len0 L0 T0).length : Nat)]) ∧ w.heap.size ≤ g ∧
      ProgRun w' g r.cf (markB r.cf (bs (layFrom (noiseL T1 len1) 0 (framesL (exs len0 L0 T0))))) vX St.zero ∧ w'.ownsRow w.heap.size 72 2 vX (exs len0 L0 T0).length (exNsCells (exNat (exs len0 L0 T0))) ∧ Below w.heap.size w w' := by
  have HNew : Hid (∀ (s : ByteArray), s.size ≤ 600 → 0 < (recs (ls s)).length → ∀ w1, _) := fun s hs hne w1 => progNew_ok r hw hr s hs hne w1
  have H0 : Hid (IsExs w a0 len0 cap0 L0 T0) := h0
  have H1 : Hid (IsStrs w a1 len1 cap1 T1) := h1
  have hX8 := exs_len len0 L0 T0
  have HXok : Hid _ := exs_ok len0 L0 T0
  have HEx : Hid (∀ w1, IsExs w1 a0 len0 cap0 L0 T0 → _) := fun w1 h => examples_any a0 len0 cap0 L0 T0 w1 h hm0
  obtain ⟨X, HXe⟩ : ∃ X, Hid (exs len0 L0 T0 = X) := ⟨_, (rfl : _ = _)⟩
  rw [HXe.out] at hX8 HXok HEx ⊢
  have hl1 := layFrom_len (noiseL T1 len1) (noiseL_le T1 len1) (framesL X) 0 (framesL_le HXok.out)
  have hl2 : (framesL X).length = X.length := by simp [framesL]
  obtain ⟨hrl1, hrl2⟩ := lay_recs (noiseL T1 len1) (noiseL_213 T1 len1) X HXok.out
  obtain ⟨s, HS⟩ : ∃ s, Hid (bs (layFrom (noiseL T1 len1) 0 (framesL X)) = s) := ⟨_, (rfl : _ = _)⟩
  have hs : s.size ≤ 600 := by rw [← HS.out, bs_size]; omega
  have HLs : Hid (exsOf (recs (ls s)) = exNat X) := by show _ = _; rw [← HS.out, ls_bs]; exact hrl1
  have HLn : Hid ((recs (ls s)).length = X.length) := by show _ = _; rw [← HS.out, ls_bs]; exact hrl2
  rw [HS.out]
  clear hl1 hl2 hrl1 hrl2 h0 h1 hw hr
  obtain ⟨cf, Hcf⟩ : ∃ cf, Hid (r.cf = cf) := ⟨_, (rfl : _ = _)⟩
  rw [Hcf.out] at HNew ⊢
  obtain ⟨sd, bt, ra, mo, de⟩ := r
  show Calls Try.prog 6 #[.agg #[.int .u64 sd, .int .u8 bt, .int .i32 ra, .int .i32 mo, .int .u8 de], .slice a0 len0 cap0, .slice a1 len1 cap1] w _
  go_enter Try.func6, Try.ntmps6
  go_wp2_with fail
  obtain ⟨w0, Hw0⟩ : ∃ w0, Hid (w.alloc (.cells #[.int .u64 sd, .int .u8 bt, .int .i32 ra, .int .i32 mo, .int .u8 de] 24) = w0) := ⟨_, (rfl : _ = _)⟩
  rw [Hw0.out]
  have HB0 : Hid (Below w.heap.size w w0) := by rw [← Hw0.out]; exact (Below.refl _ _).alloc (Nat.le_refl _) _
  have HC0 : Hid (CellsAt w0 w.heap.size 24 [.int .u64 sd, .int .u8 bt, .int .i32 ra, .int .i32 mo, .int .u8 de]) := by rw [← Hw0.out]; exact CellsAt.new w _ _ _ rfl rfl
  clear Hw0
  refine (HEx.out _ (H0.out.later HB0.out)).mono ?_
  rintro e w2 ⟨vX, rfl, hX, hb2⟩
  have HoX : Hid (w2.ownsRow w0.heap.size 72 2 vX X.length (exsCells X)) := hX
  have HB2 : Hid (Below w.heap.size w w2) := HB0.out.trans (hb2.mono HB0.out.size)
  have HC2 : Hid (CellsAt w2 w.heap.size 24 [.int .u64 sd, .int .u8 bt, .int .i32 ra, .int .i32 mo, .int .u8 de]) := CellsAt.later HC0.out hb2
  clear hX hb2 HC0
  go_wp2_with fail
  refine (frames_any _ vX X _ HoX.out HXok.out hX8.2).mono ?_
  rintro e w3 ⟨vF, rfl, hF, hb3⟩
  have HoF : Hid (w3.ownsRow w2.heap.size 9 1 vF X.length (strCells (framesL X))) := hF
  have HB3 : Hid (Below w.heap.size w w3) := HB2.out.trans (hb3.mono HB2.out.size)
  have HC3 : Hid (CellsAt w3 w.heap.size 24 [.int .u64 sd, .int .u8 bt, .int .i32 ra, .int .i32 mo, .int .u8 de]) := CellsAt.later HC2.out hb3
  obtain ⟨aX, cX, hvX, hx1, hx2, _⟩ := own_read (ownsRow_below HoX.out hb3)
  subst hvX
  clear hF hb3 HoX HC2 HB2
  unfold maxLen at hx2
  go_wp2_with fail
  refine (laid_any _ vF (framesL X) _ (by rw [show (framesL X).length = X.length by simp [framesL]]; exact HoF.out) (framesL_le HXok.out) (by simpa [framesL] using hX8.2) a1 len1 cap1 T1 hm1 (H1.out.later HB3.out)).mono ?_
  rintro e w3' ⟨rfl, hw⟩
  have hw' := hw.symm
  clear hw
  subst hw'
  rw [HS.out]
  have c0 := CellsAt.cell HC3.out 0
  have c1 := CellsAt.cell HC3.out 1
  have c2 := CellsAt.cell HC3.out 2
  have c3 := CellsAt.cell HC3.out 3
  have c4 := CellsAt.cell HC3.out 4
  simp only [List.getElem?_cons_zero, List.getElem?_cons_succ] at c0 c1 c2 c3 c4
  have hXb : X.length ≤ 8 := hX8.2
  go_wp2_with fail
  refine (HNew.out s hs (by rw [HLn.out]; exact hX8.1) _).mono ?_
  rintro e w4 ⟨g, vY, rfl, hg, hPR, hO, hb4⟩
  rw [HLn.out, HLs.out] at hO
  have HP : Hid (ProgRun w4 g cf (markB cf s) vY St.zero ∧ w4.ownsRow w.heap.size 72 2 vY X.length (exNsCells (exNat X)) ∧ w.heap.size ≤ g ∧ Below w.heap.size w w4) := ⟨hPR, own_base hO HB3.out.size, Nat.le_trans HB3.out.size hg, HB3.out.trans (hb4.mono HB3.out.size)⟩
  clear hg hPR hO hb4 c0 c1 c2 c3 c4 hX8
  go_wp2
  go_ret3
  exact ⟨g, vY, rfl, HP.out.2.2.1, HP.out.1, HP.out.2.1, HP.out.2.2.2⟩
end Go.Proofs.Ytfpodnleimhohab

/-
  WALKS: runs as the statements hold them.
-/
namespace Go.Proofs.Ytfpodnleimhohab
open Go.RowKit
set_option linter.unusedVariables false
variable {mk : ByteArray}

/-- A run of the program's, with its examples. -/
def RunIs (w : World) (g : Nat) (cf : Cf) (mk : ByteArray) (X : List Ex) (st : St) : Prop :=
  ∃ aX cX bX, ProgRun w g cf mk (.slice aX X.length cX) st ∧ w.ownsRow bX 72 2 (.slice aX X.length cX) X.length (exNsCells X)
theorem RunIs.lt {w : World} {g : Nat} {cf : Cf} {X : List Ex} {st : St} (h : RunIs w g cf mk X st) : g < w.heap.size := by
  obtain ⟨_, _, _, h, _⟩ := h
  exact CellsAt.lt h
theorem RunIs.cells {w : World} {g : Nat} {cf : Cf} {X : List Ex} {st : St} (h : RunIs w g cf mk X st) : ∃ l, CellsAt w g 59 l := by
  obtain ⟨_, _, _, h, _⟩ := h
  exact ⟨_, h⟩
theorem RunIs.later {w w' : World} {g : Nat} {cf : Cf} {X : List Ex} {st : St} (h : RunIs w g cf mk X st) (hb : Below w.heap.size w w') : RunIs w' g cf mk X st := by
  obtain ⟨a, c, b, h1, h2⟩ := h
  exact ⟨a, c, b, CellsAt.later h1 hb, ownsRow_below h2 hb⟩
theorem RunIs.other {mk' : ByteArray} {w w' : World} {g g' : Nat} {cf cf' : Cf} {X X' : List Ex} {st st' : St} (h : RunIs w g cf mk X st) (hs : Spared w w' (fun j => j = g')) (hne : g ≠ g') (h' : RunIs w g' cf' mk' X' st') : RunIs w' g cf mk X st := by
  obtain ⟨a, c, b, h1, h2⟩ := h
  obtain ⟨l, hl⟩ := h'.cells
  refine ⟨a, c, b, (hs.block g (CellsAt.lt h1) hne).trans h1, ownsRow_spared h2 hs (fun j hj e => ?_)⟩
  subst e
  exact own_ne h2 hl (by decide) hj
/-- A list of numbers is no run. -/
theorem ints_other {w w' : World} {g b n : Nat} {cf : Cf} {X : List Ex} {st : St} {v : Value} {xs : List Value} (h : w.ownsRow b 3 1 v n xs) (hs : Spared w w' (fun j => j = g)) (hr : RunIs w g cf mk X st) : w'.ownsRow b 3 1 v n xs := by
  obtain ⟨l, hl⟩ := hr.cells
  refine ownsRow_spared h hs (fun j hj e => ?_)
  subst e
  exact own_ne h hl (by decide) hj
theorem conf_other {w w' : World} {g k : Nat} {cf : Cf} {X : List Ex} {st : St} {l : List Value} (h : CellsAt w k 24 l) (hs : Spared w w' (fun j => j = g)) (hr : RunIs w g cf mk X st) : CellsAt w' k 24 l := by
  obtain ⟨l', hl⟩ := hr.cells
  refine (hs.block k h.lt (fun e => ?_)).trans h
  have e' : k = g := e
  subst e'
  unfold CellsAt at h hl
  rw [h] at hl
  simp at hl

theorem begun_run (cf : Cf) (hcf : cf.Ok) (a0 : Option Addr) (len0 cap0 : Nat) (L0 : Nat → Int) (T0 : Nat → ByteArray) (a1 : Option Addr) (len1 cap1 : Nat) (T1 : Nat → ByteArray) (w : World)
    (h0 : IsExs w a0 len0 cap0 L0 T0) (hm0 : len0 ≤ maxLen) (h1 : IsStrs w a1 len1 cap1 T1) (hm1 : len1 ≤ maxLen) :
    Calls Try.prog 6 #[.agg #[.int .u64 cf.seed, .int .u8 cf.batch, .int .i32 cf.rate, .int .i32 cf.mom, .int .u8 cf.decay], .slice a0 len0 cap0, .slice a1 len1 cap1] w fun e w' => ∃ g s, e = .returned (.tuple #[.pointer (some ⟨g, 0, none⟩), .string s, .int .i64 ((exs len0 L0 T0).length : Nat)]) ∧ w.heap.size ≤ g ∧
      RunIs w' g cf (markB cf s) (exNat (exs len0 L0 T0)) St.zero ∧ Below w.heap.size w w' := by
  have h := begun_any cf.raw (Cf.raw_wf hcf) (Cf.raw_ok hcf) a0 len0 cap0 L0 T0 a1 len1 cap1 T1 w h0 hm0 h1 hm1
  rw [Cf.raw_cf] at h
  refine h.mono ?_
  rintro e w' ⟨g, vX, rfl, hg, hP, hO, hb⟩
  obtain ⟨aX, cX, rfl, _, _, _⟩ := own_read hO
  refine ⟨g, _, rfl, hg, ⟨aX, cX, w.heap.size, ?_, ?_⟩, hb⟩
  · rw [exNat_length]; exact hP
  · rw [exNat_length]; exact hO
theorem steps_run (g : Nat) (cf : Cf) (hcf : cf.Ok) (X : List Ex) (hX : ∀ x ∈ X, x.1 < 4 ∧ x.2.length ≤ 200) (hn1 : 1 ≤ X.length) (hn2 : X.length ≤ 600) (st : St) (hst : st.Ok) (n : Nat) (hn : st.steps + n ≤ 400)
    (aw : Option Addr) (lw cw : Nat) (N : Nat → Int) (w : World) (hW : IsInts w aw lw cw N) (hWg : lw ≠ 0 → ∀ b o, aw = some ⟨b, o, none⟩ → b ≠ g) (hR : RunIs w g cf mk X st) :
    Calls Try.prog 7 #[.pointer (some ⟨g, 0, none⟩), .agg #[.int .u64 cf.seed, .int .u8 cf.batch, .int .i32 cf.rate, .int .i32 cf.mom, .int .u8 cf.decay], .slice aw lw cw, .int .i64 n] w fun e w' => ∃ v, e = .returned (.tuple #[v, .bool true]) ∧ w'.ownsRow w.heap.size 3 1 v n (tab n fun i => (((missL cf X st n).getD i 0 : Nat) : Int)) ∧
      RunIs w' g cf mk X (itN cf X st n) ∧ Spared w w' (fun j => j = g) := by
  obtain ⟨aX, cX, bX, h1, h2⟩ := hR
  refine (steps_any g cf hcf aX cX bX X hX hn1 hn2 st hst n hn aw lw cw N w hW hWg h1 h2).mono ?_
  rintro e w' ⟨v, rfl, hv, hP, hO, hs⟩
  refine ⟨v, rfl, ?_, ⟨aX, cX, bX, hP, hO⟩, hs⟩
  rw [intCells_tab] at hv
  rw [show (missL cf X st n).length = n by simp [missL]] at hv
  exact hv
theorem weights_run (g : Nat) (cf : Cf) (X : List Ex) (st : St) (hst : st.Ok) (w : World) (hR : RunIs w g cf mk X st) :
    Calls Try.prog 21 #[.pointer (some ⟨g, 0, none⟩)] w fun e w' => ∃ v, e = .returned (.tuple #[v, .bool true]) ∧ w'.ownsRow w.heap.size 21 1 v 128 (wCells (flat st.w) 128) ∧ Below w.heap.size w w' := by
  obtain ⟨aX, cX, bX, h1, h2⟩ := hR
  exact weights_any g cf _ st hst w h1
theorem together_run {mk1 mk2 : ByteArray} (cf : Cf) (hcf : cf.Ok) (X : List Ex) (hn1 : 1 ≤ X.length) (hn2 : X.length ≤ 600) (st : St) (hst : st.Ok) (g1 g2 : Nat) (w : World) (h1 : RunIs w g1 cf mk1 X st) (h2 : RunIs w g2 cf mk2 X st) :
    Calls Try.prog 11 #[.pointer (some ⟨g1, 0, none⟩), .pointer (some ⟨g2, 0, none⟩)] w fun e w' => e = .returned (.bool true) ∧ Below w.heap.size w w' := by
  obtain ⟨a1, c1, b1, h1, _⟩ := h1
  obtain ⟨a2, c2, b2, h2, _⟩ := h2
  exact together_any cf hcf X.length hn1 (by omega) st hst g1 a1 c1 g2 a2 c2 w h1 h2
theorem status_run (cf : Cf) (hcf : cf.Ok) (X : List Ex) (hn1 : 1 ≤ X.length) (hn2 : X.length ≤ 600) (st : St) (hst : st.Ok) (g : Nat) (w : World) (h : RunIs w g cf mk X st) :
    Calls Try.prog 20 #[.pointer (some ⟨g, 0, none⟩)] w fun e w' => e = .returned (.agg (statusAns cf X.length st).toArray) ∧ Below w.heap.size w w' := by
  obtain ⟨a1, c1, b1, h1, _⟩ := h
  exact progStatus_any g cf hcf a1 X.length c1 hn1 (by omega) st hst w h1
end Go.Proofs.Ytfpodnleimhohab
