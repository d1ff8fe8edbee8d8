/-
  WALKS: the program's Step.
-/
import Derived.Test.YtfpodnleimhohabWalksBJ
import Derived.Test.YtfpodnleimhohabMathH
namespace Go.Proofs.Ytfpodnleimhohab
open Go.RowKit
set_option linter.unusedVariables false
variable {mk : ByteArray}

/-- The workers' answer, the first i of them. -/
def workTo (cf : Cf) (X : List Ex) (st : St) (W i : Nat) : List Nat := (List.range i).map (workN cf X st W)
theorem workTo_snoc (cf : Cf) (X : List Ex) (st : St) (W i : Nat) : workTo cf X st W (i + 1) = workTo cf X st W i ++ [workN cf X st W i] := by
  unfold workTo
  rw [List.range_succ, List.map_append]; rfl
theorem pr_steps (cf : Cf) (lv : Value) (sp sp' : Nat) (l : List Value) : (prHead cf mk lv sp ++ l).set 7 (.int .i64 sp') = prHead cf mk lv sp' ++ l := by
  rw [List.set_append_left _ _ (by simp [prHead])]; rfl

set_option maxRecDepth 100000 in
theorem progStep_workers (g : Nat) (k : Int) (hk : ¬ (1 ≤ k ∧ k ≤ 8)) (w : World) :
    Calls Try.prog 17 #[.pointer (some ⟨g, 0, none⟩), .int .i64 k] w fun e w' => e = .returned (.tuple #[.slice none 0 0, .int .i64 6]) ∧ w' = w := by
  go_enter Try.func17, Try.ntmps17
  by_cases h : k < 1
  · go_wp2
    go_ret2
    exact ⟨rfl, rfl⟩
  · go_wp2
    go_ret2
    exact ⟨rfl, rfl⟩
set_option maxRecDepth 100000 in
theorem progStep_limit (g : Nat) (cf : Cf) (lv : Value) (st : St) (h4 : st.steps = 400) (k : Nat) (hk : 1 ≤ k ∧ k ≤ 8) (w : World) (hR : ProgRun w g cf mk lv st) :
    Calls Try.prog 17 #[.pointer (some ⟨g, 0, none⟩), .int .i64 k] w fun e w' => e = .returned (.tuple #[.slice none 0 0, .int .i64 7]) ∧ w' = w := by
  have d6 := (CellsAt.cell hR 7).trans (pr_head cf lv st (by decide))
  simp only [prHead, List.getElem?_cons_zero, List.getElem?_cons_succ] at d6
  rw [h4] at d6
  have HR : Hid _ := hR
  clear hR
  go_enter Try.func17, Try.ntmps17
  go_wp2
  go_ret2
  exact ⟨rfl, rfl⟩
/-- An operation that may be taken first, its slot said outright. -/
theorem takeTo {P : Program} {md : Region.Mode} {ops : Array Oper} {Q : Exit → Act → World → Prop} {S : World → Prop} {i : Nat} {oi : Oper} {v : Value} {fuel : Nat} {listed : Array Bool} {a : Act} {w : World} (d : Option Nat) (hi : ops[i]? = some oi)
    (hs : Region.noSelect ops = true) (hf : Region.free md ops listed i = true) (hr : (Region.ready md ops listed).contains i = true)
    (hQ : ∀ c a w, Q (.panic c) (a.put oi.dst v) w → Q (.panic c) a w) (hd : oi.dst = d) (hy : YieldsIf P ops S oi v a) (hS : S w)
    (h : wpAnyH P md ops Q S fuel (listed.setIfInBounds i true) (a.put d v) w) : wpAnyH P md ops Q S (fuel + 1) listed a w :=
  wpAnyH_take hi hs hf hr hQ hy hS (by rw [hd]; exact h)
theorem zero_pull : Try.zeroCells85 = (tab 128 fun _ => 0).toArray := by kernel_rfl

set_option maxRecDepth 100000 in
set_option maxHeartbeats 8000000 in
theorem progStep_any (g : Nat) (cf : Cf) (hcf : cf.Ok) (aX : Option Addr) (cX bX : Nat) (X : List Ex) (hX : ∀ x ∈ X, x.1 < 4 ∧ x.2.length ≤ 200) (hn1 : 1 ≤ X.length) (hn2 : X.length ≤ 600) (st : St) (hst : st.Ok) (h4 : st.steps < 400) (k : Nat) (hk : 1 ≤ k ∧ k ≤ 8) (w : World)
    (hR : ProgRun w g cf mk (.slice aX X.length cX) st) (hO : w.ownsRow bX 72 2 (.slice aX X.length cX) X.length (exNsCells X)) :
    Calls Try.prog 17 #[.pointer (some ⟨g, 0, none⟩), .int .i64 k] w fun e w' => ∃ v, e = .returned (.tuple #[v, .int .i64 0]) ∧ w'.ownsRow w.heap.size 3 1 v k (intCells (workTo cf X st k k)) ∧ ProgRun w' g cf mk (.slice aX X.length cX) (stepN cf X st) ∧ Spared w w' (fun j => j = g) := by
  obtain ⟨i0, hi, hz0, hz1, hz2⟩ := info_parts info_int
  have hgl := CellsAt.lt hR
  have hb8 := hcf.batch8
  have hb1 := hcf.batch1
  have d1 := (CellsAt.cell hR 1).trans (pr_head cf (.slice aX X.length cX) st (by decide))
  have d6 := (CellsAt.cell hR 7).trans (pr_head cf (.slice aX X.length cX) st (by decide))
  simp only [prHead, List.getElem?_cons_zero, List.getElem?_cons_succ] at d1 d6
  have HR : Hid (ProgRun w g cf mk (.slice aX X.length cX) st) := hR
  have HO : Hid (w.ownsRow bX 72 2 (.slice aX X.length cX) X.length (exNsCells X)) := hO
  have HX : Hid _ := hX
  have Hgx : Hid (∀ j, aX = some ⟨j, 0, none⟩ → j ≠ w.heap.size) := fun j hj => by
    obtain ⟨_, _, hv, _, _, hrd⟩ := own_read hO
    simp only [Value.slice.injEq, true_and] at hv
    obtain ⟨rfl, rfl⟩ := hv
    obtain ⟨j', hj', _, hl, _⟩ := hrd (by omega)
    rw [hj] at hj'
    simp at hj'
    omega
  obtain ⟨hk1, hk8⟩ := hk
  clear hR hO hX
  have HBt : Hid (∀ i, workN cf X st k i = missedN cf X st (i * cf.batch / k) ((i + 1) * cf.batch / k)) := fun i => rfl
  have HQb : Hid (∀ i, i ≤ k → i * cf.batch / k ≤ cf.batch) := fun i hi => Nat.div_le_of_le_mul (Nat.mul_le_mul_right _ hi)
  have HQe : Hid (k * cf.batch / k = cf.batch) := Nat.mul_div_cancel_left _ (by omega)
  have hk0 : ((k : Int) == 0) = false := beq_eq_false_iff_ne.2 (by omega)
  have hwl : ∀ i, i < k → workN cf X st k i ≤ 8 := fun i hi => Nat.le_trans (workN_le cf X st k i) (Nat.le_trans (Nat.sub_le _ _) (Nat.le_trans (HQb.out (i + 1) (by omega)) hb8))
  have HWl : Hid _ := hwl
  clear hwl
  go_enter Try.func17, Try.ntmps17
  go_wp2_with fail
  obtain ⟨w0, Hw0⟩ : ∃ w0, Hid (w.alloc (.cells Try.zeroCells85 85) = w0) := ⟨_, (rfl : _ = _)⟩
  have HP0 : Hid (CellsAt w0 w.heap.size 85 (tab 128 (flat (gradN cf X st (0 * cf.batch / k))))) := by
    show CellsAt _ _ _ _
    rw [← Hw0.out, show 0 * cf.batch / k = 0 by simp]
    exact CellsAt.new w _ _ _ zero_pull rfl
  have HB0 : Hid (Below w.heap.size w w0) := by rw [← Hw0.out]; exact (Below.refl _ _).alloc (Nat.le_refl _) _
  rw [Hw0.out]
  clear Hw0
  generalize decide ((k : Int) < 1) = t1
  generalize decide ((8 : Int) < (k : Int)) = t2
  generalize decide ((400 : Int) ≤ (st.steps : Int)) = t3
  obtain ⟨B, HB⟩ : ∃ B, Hid (cf.batch = B) := ⟨_, (rfl : _ = _)⟩
  rw [HB.out] at hb8 hb1 d1 HBt HQb HQe HP0 ⊢
  go_loopg [8, 9] k (fun gk v iv wr => ∃ i : Nat, gk + i = k ∧ iv = .int .i64 i ∧ wr.ownsRow w.heap.size 3 1 v i (intCells (workTo cf X st k i)) ∧ Hid (CellsAt wr w.heap.size 85 (tab 128 (flat (gradN cf X st (i * B / k)))) ∧ Below w.heap.size w wr))
  case atStart => exact ⟨0, by omega, rfl, World.ownsRow_nil _ _ _ _, ⟨HP0.out, HB0.out⟩⟩
  case round =>
    obtain ⟨i, hgi, rfl, hown, HT⟩ := hrel
    clear HP0 HB0
    by_cases hlt : i < k
    · obtain ⟨p, Hp⟩ : ∃ p, Hid (i * B = p) := ⟨_, (rfl : _ = _)⟩
      obtain ⟨p', Hp'⟩ : ∃ p, Hid ((i + 1) * B = p) := ⟨_, (rfl : _ = _)⟩
      obtain ⟨lo, Hlo⟩ : ∃ q, Hid (p / k = q) := ⟨_, (rfl : _ = _)⟩
      obtain ⟨hi', Hhi⟩ : ∃ q, Hid (p' / k = q) := ⟨_, (rfl : _ = _)⟩
      have hp1 : (i : Int) * (B : Int) = (p : Int) := by rw [← Hp.out, Int.natCast_mul]
      have hp2 : ((i : Int) + 1) * (B : Int) = (p' : Int) := by rw [← Hp'.out, Int.natCast_mul]; rfl
      have hpb : p ≤ 64 := by rw [← Hp.out]; exact Nat.le_trans (Nat.mul_le_mul (show i ≤ 8 by omega) hb8) (by decide)
      have hpb' : p' ≤ 64 := by rw [← Hp'.out]; exact Nat.le_trans (Nat.mul_le_mul (show i + 1 ≤ 8 by omega) hb8) (by decide)
      have hl1 : (p : Int) / (k : Int) = (lo : Int) := by rw [← Hlo.out, Int.natCast_ediv]
      have hl2 : (p' : Int) / (k : Int) = (hi' : Int) := by rw [← Hhi.out, Int.natCast_ediv]
      have hl3 : (p : Int).tdiv (k : Int) = (lo : Int) := by rw [Int.tdiv_eq_ediv_of_nonneg (by omega)]; exact hl1
      have hl4 : (p' : Int).tdiv (k : Int) = (hi' : Int) := by rw [Int.tdiv_eq_ediv_of_nonneg (by omega)]; exact hl2
      have hlob : lo ≤ hi' := by rw [← Hlo.out, ← Hhi.out, ← Hp.out, ← Hp'.out]; exact part_le B k i
      have hhib : hi' ≤ B := by
        have := HQb.out (i + 1) (by omega)
        rw [Hp'.out, Hhi.out] at this
        exact this
      have HWk : Hid (workN cf X st k i = missedN cf X st lo hi') := by
        show _ = _
        rw [HBt.out i, Hp.out, Hlo.out, Hp'.out, Hhi.out]
      have HSn : Hid _ := workTo_snoc cf X st k i
      have hwb := HWl.out i hlt
      rw [HWk.out] at HSn hwb
      have HT1 : Hid (CellsAt wr.drew w.heap.size 85 (tab 128 (flat (gradN cf X st lo)))) := by
        have h := HT.out.1
        rw [Hp.out, Hlo.out] at h
        exact h
      have HR1 : Hid (ProgRun wr.drew g cf mk (.slice aX X.length cX) st) := CellsAt.kept HR.out HT.out.2.drew hgl
      have HO1 : Hid (wr.drew.ownsRow bX 72 2 (.slice aX X.length cX) X.length (exNsCells X)) := ownsRow_below HO.out HT.out.2.drew
      have hne : w.heap.size ≠ g := by omega
      have HNe : Hid (∀ j, u8.ownBlock = some j → ¬ j = w.heap.size) := fun j hj e => by
        subst e
        exact own_ne hown HT.out.1 (by decide) hj
      have e1 := (HT.out.2.cell (p := ⟨g, 1, none⟩) hgl).trans d1
      have hws := HT.out.2.size
      have HK : Hid (∀ w', Spared wr w' (fun j => j = w.heap.size) → w'.cell? ⟨g, 1, none⟩ = some (.int .u8 B)) := fun w' hs => (World.cell?_of_block (w := wr) (a := ⟨g, 1, none⟩) (hs.block g (by omega) (by omega))).trans e1
      have HC : Hid (Calls Try.prog 30 #[.pointer (some ⟨g, 0, none⟩), .int .i64 lo, .int .i64 hi', .pointer (some ⟨w.heap.size, 0, none⟩)] wr.drew fun e w' => e = .returned (.int .i64 (missedN cf X st lo hi' : Nat)) ∧ PullAt wr.drew w' w.heap.size (flat (gradN cf X st hi'))) := by
        exact rows_any g cf hcf aX cX bX X HX.out hn1 hn2 st hst h4 lo hi' hlob (by rw [HB.out]; exact hhib) w.heap.size hne _ HR1.out HO1.out HT1.out Hgx.out
      have HDL : Hid ((p : Int) / (k : Int) = (lo : Int)) := hl1
      have HDH : Hid ((p' : Int) / (k : Int) = (hi' : Int)) := hl2
      have HWH : Hid (IntKind.i64.wrap (hi' : Int) = (hi' : Int)) := wrap_small _ (by omega) (by omega)
      have HWO : Hid (IntKind.i64.wrap (lo : Int) = (lo : Int)) := wrap_small _ (by omega) (by omega)
      have HQi : Hid ((i + 1) * B / k = hi') := by show _ = _; rw [Hp'.out, Hhi.out]
      clear hl1 hl2 HQb HQe HBt Hp Hp' Hlo Hhi HR1 HO1 HT1
      go_wp2_with fail
      go_region_held_law (fun w' => w'.cell? ⟨g, 1, none⟩ = some (.int .u8 B)) (first | exact HK.out _ ⟨hP3.s.os, hP3.s.tape, hP3.s.output, hP3.s.size, hP3.s.block⟩ | go_keep) (first | (go_at_call 30; (try rw [HWH.out]); (try rw [HWO.out]); (try rw [HDL.out]); (try rw [HDH.out]); refine HC.out.mono ?_; rintro e w3 ⟨rfl, hP3⟩))
      all_goals (
        have HS3 : Hid (Spared wr w3 (fun j => j = w.heap.size)) := ⟨hP3.s.os, hP3.s.tape, hP3.s.output, hP3.s.size, hP3.s.block⟩
        have HP3 : Hid (CellsAt w3 w.heap.size 85 (tab 128 (flat (gradN cf X st hi')))) := hP3.P
        have hb3 : Below w.heap.size w w3 := HT.out.2.trans (HS3.out.below (fun _ h => by omega) hws)
        have ho3 : w3.ownsRow w.heap.size 3 1 u8 i (intCells (workTo cf X st k i)) := ownsRow_spared hown HS3.out HNe.out
        have hz3 := hb3.size
        clear hP3 HK e1 HC HWH HWO HDL HDH HNe
        generalize missedN cf X st lo hi' = mw at *
        go_wp2_with (at_builtin; refine wpList_append_own _ rfl (.tmp 46) (.tmp 48) 31 rfl w.heap.size 3 i0 (.int .i64 0) 1 8 Try.underlying31 hi hz0 hz1 hz2 rfl (by decide) _ _ _ rfl (ho3.alloc _) ⟨w3.heap.size, 0, none⟩ 1 1 [.int .i64 mw] rfl rfl (news_at _ _ rfl _ _ _ rfl) (oneCell_nums _ rfl) (by unfold maxLen; omega) (by omega) (by simp; omega) ?_; intro v' w6 ho6 hgr hxx; clear hxx)
        have HP6 : Hid (CellsAt w6 w.heap.size 85 (tab 128 (flat (gradN cf X st ((i + 1) * B / k)))) ∧ Below w.heap.size w w6) := by
          refine ⟨?_, (hb3.alloc hz3 _).grown hgr (by simp; omega) (fun j hj => (ho3.lt j hj).1)⟩
          rw [HQi.out]
          exact CellsAt.grown (CellsAt.alloc HP3.out _) hgr (own_ne ho3 HP3.out (by decide))
        go_roundg (gk - 1)
        case measure => omega
        case rel => exact ⟨i + 1, by omega, by go_num, by rw [HSn.out, intCells_snoc]; exact ho6, HP6⟩)
    · obtain rfl : i = k := by omega
      have HPk : Hid (CellsAt wr w.heap.size 85 (tab 128 (flat (gradN cf X st B)))) := by
        have h := HT.out.1
        rw [HQe.out] at h
        exact h
      have hb3 := HT.out.2
      have hz3 := hb3.size
      have HR3 : Hid (LrnAt wr g 59 (prHead cf mk (.slice aX X.length cX) st.steps) [] st) := CellsAt.kept HR.out hb3 hgl
      have HR3d : Hid (LrnAt wr.drew g 59 (prHead cf mk (.slice aX X.length cX) st.steps) [] st) := HR3.out
      have HGb : Hid (∀ c b, -56 ≤ gradN cf X st B c b ∧ gradN cf X st B c b ≤ 56) := fun c b => by
        have := gradN_le cf X st B c b
        omega
      have HStp : Hid ((⟨st.steps, fun a b => weightN cf (st.w a b) (speedN cf (st.v a b) (gradN cf X st B a b)), fun a b => speedN cf (st.v a b) (gradN cf X st B a b)⟩ : St) = ⟨st.steps, (stepN cf X st).w, (stepN cf X st).v⟩) := by
        show _ = _
        rw [← HB.out]; rfl
      obtain ⟨pc, Hpc⟩ : ∃ pc, Hid (tab 128 (flat (gradN cf X st B)) = pc) := ⟨_, (rfl : _ = _)⟩
      have HMv : Hid (Calls Try.prog 31 #[.pointer (some ⟨g, 8, none⟩), .agg pc.toArray, .agg #[.int .u64 cf.seed, .int .u8 cf.batch, .int .i32 cf.rate, .int .i32 cf.mom, .int .u8 cf.decay]] wr.drew fun e w' => e = .returned (.tuple #[]) ∧ LrnAt w' g 59 (prHead cf mk (.slice aX X.length cX) st.steps) [] ⟨st.steps, (stepN cf X st).w, (stepN cf X st).v⟩ ∧ Spared wr.drew w' (fun j => j = g)) := by
        have h := move_any g 59 (prHead cf mk (.slice aX X.length cX) st.steps) [] 8 rfl cf hcf st hst (gradN cf X st B) HGb.out wr.drew HR3d.out
        rw [HStp.out, Hpc.out] at h
        exact h
      have HpL : Hid (pc.length = 128) := by show _ = _; rw [← Hpc.out]; exact tab_length _ _
      have hpi : (Try.prog.info? 85).map (·.size) = some pc.length := by rw [HpL.out]; exact info_pull
      have hpu := Try.underlying85
      have HRg : Hid (wr.rangeAt w.heap.size 0 pc) := by
        have h := HPk.out
        rw [Hpc.out] at h
        exact CellsAt.range h
      have hcs : ∀ (w' : World) (st' : St), LrnAt w' g 59 (prHead cf mk (.slice aX X.length cX) st.steps) [] st' → w'.cell? ⟨g, 0, none⟩ = some (.int .u64 cf.seed) ∧ w'.cell? ⟨g, 1, none⟩ = some (.int .u8 cf.batch) ∧ w'.cell? ⟨g, 2, none⟩ = some (.int .i32 cf.rate) ∧ w'.cell? ⟨g, 3, none⟩ = some (.int .i32 cf.mom) ∧ w'.cell? ⟨g, 4, none⟩ = some (.int .u8 cf.decay) ∧ w'.cell? ⟨g, 7, none⟩ = some (.int .i64 st.steps) := fun w' st' h => ⟨CellsAt.cell h 0, CellsAt.cell h 1, CellsAt.cell h 2, CellsAt.cell h 3, CellsAt.cell h 4, CellsAt.cell h 7⟩
      have HCS : Hid _ := hcs
      obtain ⟨e0, e1, e2, e3, e4, e6⟩ := hcs wr st HR3.out
      have hRg : wr.rangeAt w.heap.size 0 pc := HRg.out
      clear hcs
      go_wp2_with fail
      have HLw : Hid (∀ w', Spared wr w' (fun j => j = g) → w'.rangeAt w.heap.size 0 pc) := fun w' hs j v hv => by
        have hlt : w.heap.size < wr.heap.size := CellsAt.lt HPk.out
        exact (World.cell?_of_block (w := wr) (a := ⟨w.heap.size, 0 + j, none⟩) (hs.block _ hlt (fun e => by have e' : w.heap.size = g := e; omega))).trans (HRg.out j v hv)
      have HK2 : Hid (∀ w', LrnAt w' g 59 (prHead cf mk (.slice aX X.length cX) st.steps) [] ⟨st.steps, (stepN cf X st).w, (stepN cf X st).v⟩ → Spared wr w' (fun j => j = g) → (fun w' => w'.rangeAt w.heap.size 0 pc ∧ w'.cell? ⟨g, 0, none⟩ = some (.int .u64 cf.seed) ∧ w'.cell? ⟨g, 1, none⟩ = some (.int .u8 cf.batch) ∧ w'.cell? ⟨g, 2, none⟩ = some (.int .i32 cf.rate) ∧ w'.cell? ⟨g, 3, none⟩ = some (.int .i32 cf.mom) ∧ w'.cell? ⟨g, 4, none⟩ = some (.int .u8 cf.decay)) w') := fun w' hl hs => by
        obtain ⟨f0, f1, f2, f3, f4, _⟩ := HCS.out w' _ hl
        exact ⟨HLw.out _ hs, f0, f1, f2, f3, f4⟩
      have HK1 : Hid ((fun w' => w'.rangeAt w.heap.size 0 pc ∧ w'.cell? ⟨g, 0, none⟩ = some (.int .u64 cf.seed) ∧ w'.cell? ⟨g, 1, none⟩ = some (.int .u8 cf.batch) ∧ w'.cell? ⟨g, 2, none⟩ = some (.int .i32 cf.rate) ∧ w'.cell? ⟨g, 3, none⟩ = some (.int .i32 cf.mom) ∧ w'.cell? ⟨g, 4, none⟩ = some (.int .u8 cf.decay)) wr.drew) := ⟨HRg.out, e0, e1, e2, e3, e4⟩
      have HPi : Hid ((Try.prog.info? 85).map (·.size) = some pc.length) := hpi
      clear hRg hpi hpu
      refine wp_region_held_drew (S := (fun w' => w'.rangeAt w.heap.size 0 pc ∧ w'.cell? ⟨g, 0, none⟩ = some (.int .u64 cf.seed) ∧ w'.cell? ⟨g, 1, none⟩ = some (.int .u8 cf.batch) ∧ w'.cell? ⟨g, 2, none⟩ = some (.int .i32 cf.rate) ∧ w'.cell? ⟨g, 3, none⟩ = some (.int .i32 cf.mom) ∧ w'.cell? ⟨g, 4, none⟩ = some (.int .u8 cf.decay))) (by kernel_rfl) HK1.out (fun hHeld => ?_)
      refine takeTo (i := 3) (v := .agg pc.toArray) (some 53) rfl (by kernel_rfl) (by kernel_rfl) (by kernel_rfl) (fun _ _ _ h => h) rfl (yieldsIf_load_mid (by rfl) 85 (.tmp 7) rfl w.heap.size 0 rfl pc _ (fun w' h => h.1) Try.underlying85 rfl HPi.out) hHeld ?_
      simp only [Act.put, List.setIfInBounds_toArray, List.set_cons_zero, List.set_cons_succ]
      refine takeTo (i := 0) (v := (.pointer (some ⟨g, 0, none⟩))) (some 50) rfl (by kernel_rfl) (by kernel_rfl) (by kernel_rfl) (fun _ _ _ h => h) rfl (Or.inl ⟨by rfl, ?_⟩) hHeld ?_
      · intro w' hSw
        (try dsimp only at hSw)
        go_simp
      simp only [Act.put, List.setIfInBounds_toArray, List.set_cons_zero, List.set_cons_succ]
      refine takeTo (i := 1) (v := (.pointer (some ⟨g, 0, none⟩))) (some 51) rfl (by kernel_rfl) (by kernel_rfl) (by kernel_rfl) (fun _ _ _ h => h) rfl (Or.inl ⟨by rfl, ?_⟩) hHeld ?_
      · intro w' hSw
        (try dsimp only at hSw)
        go_simp
      simp only [Act.put, List.setIfInBounds_toArray, List.set_cons_zero, List.set_cons_succ]
      refine takeTo (i := 2) (v := (.pointer (some ⟨g, 8, none⟩))) (some 52) rfl (by kernel_rfl) (by kernel_rfl) (by kernel_rfl) (fun _ _ _ h => h) rfl (Or.inl ⟨by rfl, ?_⟩) hHeld ?_
      · intro w' hSw
        (try dsimp only at hSw)
        go_simp
      simp only [Act.put, List.setIfInBounds_toArray, List.set_cons_zero, List.set_cons_succ]
      refine takeTo (i := 4) (v := (.pointer (some ⟨g, 0, none⟩))) (some 54) rfl (by kernel_rfl) (by kernel_rfl) (by kernel_rfl) (fun _ _ _ h => h) rfl (Or.inl ⟨by rfl, ?_⟩) hHeld ?_
      · intro w' hSw
        (try dsimp only at hSw)
        go_simp
      simp only [Act.put, List.setIfInBounds_toArray, List.set_cons_zero, List.set_cons_succ]
      refine takeTo (i := 5) (v := (.pointer (some ⟨g, 0, none⟩))) (some 55) rfl (by kernel_rfl) (by kernel_rfl) (by kernel_rfl) (fun _ _ _ h => h) rfl (Or.inl ⟨by rfl, ?_⟩) hHeld ?_
      · intro w' hSw
        (try dsimp only at hSw)
        go_simp
      simp only [Act.put, List.setIfInBounds_toArray, List.set_cons_zero, List.set_cons_succ]
      refine takeTo (i := 6) (v := (.pointer (some ⟨g, 0, none⟩))) (some 56) rfl (by kernel_rfl) (by kernel_rfl) (by kernel_rfl) (fun _ _ _ h => h) rfl (Or.inl ⟨by rfl, ?_⟩) hHeld ?_
      · intro w' hSw
        (try dsimp only at hSw)
        go_simp
      simp only [Act.put, List.setIfInBounds_toArray, List.set_cons_zero, List.set_cons_succ]
      refine takeTo (i := 7) (v := (.agg #[.int .u64 cf.seed, .int .u8 cf.batch, .int .i32 cf.rate, .int .i32 cf.mom, .int .u8 cf.decay])) (some 57) rfl (by kernel_rfl) (by kernel_rfl) (by kernel_rfl) (fun _ _ _ h => h) rfl (Or.inl ⟨by rfl, ?_⟩) hHeld ?_
      · intro w' hSw
        (try dsimp only at hSw)
        go_simp
      simp only [Act.put, List.setIfInBounds_toArray, List.set_cons_zero, List.set_cons_succ]
      refine wpAnyH_ready (rs := [8]) (by kernel_rfl) (by simp) ?_
      refine AllReadyH.cons rfl (fun K hK => ?_) AllReadyH.nil
      go_simp
      go_at_call 31
      refine HMv.out.mono ?_
      rintro e w5 ⟨rfl, hL5, hS5⟩
      refine hK.out _ _ (HK2.out _ hL5 ⟨hS5.os, hS5.tape, hS5.output, hS5.size, hS5.block⟩) (fun hHeld5 => ?_)
      clear hK K hHeld hHeld5
      refine wpAnyH_done (by kernel_rfl) ?_ _
      have c6 := (HCS.out w5 _ hL5).2.2.2.2.2
      have f6 : w5.frozen? ⟨g, 7, none⟩ = false := CellsAt.frozen hL5 7
      have HL6 : Hid (ProgRun (w5.setCell ⟨g, 7, none⟩ (.int .i64 ((st.steps : Int) + 1))) g cf mk (.slice aX X.length cX) (stepN cf X st)) := by
        have h := CellsAt.set hL5 7 (.int .i64 ((st.steps + 1 : Nat) : Int))
        rw [pr_steps] at h
        rw [show ((st.steps + 1 : Nat) : Int) = (st.steps : Int) + 1 from rfl] at h
        exact h
      have HS6 : Hid (Spared w (w5.setCell ⟨g, 7, none⟩ (.int .i64 ((st.steps : Int) + 1))) (fun j => j = g)) :=
        ((Spared.of_below hb3 (fun j => j = g)).trans (T := fun j => j = g) ⟨hS5.os, hS5.tape, hS5.output, hS5.size, hS5.block⟩ (fun _ _ h => h)).trans (Spared.of_set w5 g 7 _) (fun _ _ h => h)
      have HO6 : Hid ((w5.setCell ⟨g, 7, none⟩ (.int .i64 ((st.steps : Int) + 1))).ownsRow w.heap.size 3 1 u8 i (intCells (workTo cf X st i i))) := by
        have hne : ∀ j, u8.ownBlock = some j → ¬ j = g := fun j hj e => by
          have := (hown.lt j hj).1
          omega
        have h := ownsRow_spared (S := fun j => j = g) hown ⟨hS5.os, hS5.tape, hS5.output, hS5.size, hS5.block⟩ hne
        exact ownsRow_spared h (Spared.of_set w5 g 7 _) hne
      clear hL5 hS5 e0 e1 e2 e3 e4 e6 HCS HK1 HK2 HLw HRg HPk HMv hown HT HR3 HR3d
      generalize st.steps = sp at *
      go_wp2
      go_ret2
      exact ⟨u8, rfl, HO6.out, HL6.out, HS6.out⟩
end Go.Proofs.Ytfpodnleimhohab
