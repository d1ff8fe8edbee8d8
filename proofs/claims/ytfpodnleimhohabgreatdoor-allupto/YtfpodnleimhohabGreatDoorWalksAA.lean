/-
  WALKS: the document's Draw, Status, Weights, Guess.
-/
import Derived.Test.YtfpodnleimhohabGreatDoorGen
import Derived.Test.YtfpodnleimhohabGreatDoorWalksZ
import Derived.Test.YtfpodnleimhohabGreatDoorWalksQ
namespace Go.Proofs.YtfpodnleimhohabGreatDoor
open Go.RowKit
set_option linter.unusedVariables false

set_option maxRecDepth 100000 in
set_option maxHeartbeats 1000000 in
theorem refDraw_any (g : Nat) (cf : Cf) (hcf : cf.Ok) (shard : ByteArray) (a : Option Addr) (n cap : Nat) (hn1 : 1 ≤ n) (hn2 : n ≤ 65536) (st : St) (j : Int) (w : World) (hR : RefRun w g cf shard (.slice a n cap) st) :
    Calls Tryz.prog 36 #[.pointer (some ⟨g, 0, none⟩), .int .i64 j] w fun e w' => e = .returned (.tuple #[.int .i64 ((drawAns cf n j).1 : Nat), .int .i64 ((drawAns cf n j).2 : Nat)]) ∧ ∃ k, w' = w.drewN k := by
  have d0 := (hR.cell 0).trans (runCells_head cf shard (.slice a n cap) st (by decide))
  have d6 := (hR.cell 6).trans (runCells_head cf shard (.slice a n cap) st (by decide))
  simp only [headCells, List.getElem?_cons_zero, List.getElem?_cons_succ] at d0 d6
  have HR : Hid _ := hR
  clear hR
  by_cases hok : 0 ≤ j ∧ j ≤ 3200
  · have HA : Hid (drawAns cf n j = (drawN cf n j.toNat, 0)) := if_pos hok
    obtain ⟨hj0, hj1⟩ := hok
    obtain ⟨m, rfl⟩ := Int.eq_ofNat_of_zero_le hj0
    rw [HA.out]
    obtain ⟨q, Hq⟩ : ∃ q, Hid (m / n = q) := ⟨_, (rfl : _ = _)⟩
    obtain ⟨r, Hr⟩ : ∃ r, Hid (m % n = r) := ⟨_, (rfl : _ = _)⟩
    obtain ⟨z, Hz⟩ : ∃ z, Hid ((cf.seed + q) % 18446744073709551616 = z) := ⟨_, (rfl : _ = _)⟩
    have HM : Hid (drawN cf n m = place (mixN z) n r) := by show _ = _; unfold drawN; rw [Hq.out, Hr.out, Hz.out]
    rw [show (m : Int).toNat = m from rfl, HM.out]
    have hz2 : Hid (z < 18446744073709551616) := by show z < _; rw [← Hz.out]; exact Nat.mod_lt _ (by decide)
    have hql : q ≤ 3200 := by have := Nat.div_le_self m n; rw [Hq.out] at this; omega
    have hrl : r < n := by rw [← Hr.out]; exact Nat.mod_lt _ (by omega)
    have hw1 : IntKind.u64.wrap ((cf.seed : Int) + (q : Int)) = (z : Int) := by rw [IntKind.wrap_u64, ← Hz.out]; omega
    have hwq : IntKind.u64.wrap (q : Int) = (q : Int) := wrap64_nat _ (by omega)
    have hq1 : (m : Int) / (n : Int) = (q : Int) := by rw [← Hq.out, Int.natCast_ediv]
    have hq2 : (m : Int) % (n : Int) = (r : Int) := by rw [← Hr.out, Int.natCast_emod]
    have hq3 : (m : Int).tdiv (n : Int) = (q : Int) := by rw [Int.tdiv_eq_ediv_of_nonneg (by omega)]; exact hq1
    have hq4 : (m : Int).tmod (n : Int) = (r : Int) := by rw [Int.tmod_eq_emod_of_nonneg (by omega)]; exact hq2
    have hn0 : ((n : Int) == 0) = false := by simp; omega
    generalize cf.seed = sd at *
    have HMl : Hid (mixN z < 18446744073709551616) := mixN_lt z
    have HPA : Hid (placeAns (mixN z) n r = (place (mixN z) n r, 0)) := if_pos ⟨hrl, hn2⟩
    have hyn := (place_perm (mixN z) hn2).maps r hrl
    clear HM
    obtain ⟨mz, Hmz⟩ : ∃ mz, Hid (mixN z = mz) := ⟨_, (rfl : _ = _)⟩
    rw [Hmz.out] at HMl HPA hyn ⊢
    obtain ⟨y, Hy⟩ : ∃ y, Hid (place mz n r = y) := ⟨_, (rfl : _ = _)⟩
    rw [Hy.out] at HPA hyn ⊢
    go_enter Tryz.func36, Tryz.ntmps36
    go_wp2_with fail
    go_quiet (first | (go_at_call 68; refine Calls.quiet_of_same (Mix_any z hz2 _)))
    rw [Hmz.out]
    go_wp2_with fail
    refine (refPlace_any mz n r HMl (by omega) (by omega) _).mono ?_
    rintro e w1 ⟨rfl, n1, rfl⟩
    rw [HPA.out]
    go_wp2
    go_ret2
    exact ⟨rfl, _, rfl⟩
  · have HA : Hid (drawAns cf n j = (0, 3)) := if_neg hok
    rw [HA.out]
    go_enter Tryz.func36, Tryz.ntmps36
    by_cases hj : j < 0
    · go_wp2
      go_ret2
      exact ⟨rfl, 0, rfl⟩
    · go_wp2
      go_ret2
      exact ⟨rfl, 0, rfl⟩

set_option maxRecDepth 100000 in
set_option maxHeartbeats 1000000 in
theorem refStatus_any (g : Nat) (cf : Cf) (hcf : cf.Ok) (shard : ByteArray) (a : Option Addr) (n cap : Nat) (hn1 : 1 ≤ n) (hn2 : n ≤ 65536) (st : St) (hst : st.Ok) (w : World) (hR : RefRun w g cf shard (.slice a n cap) st) :
    Calls Tryz.prog 52 #[.pointer (some ⟨g, 0, none⟩)] w fun e w' => e = .returned (.agg (statusAns cf n st).toArray) ∧ Below w.heap.size w w' := by
  have d1 := (hR.cell 1).trans (runCells_head cf shard (.slice a n cap) st (by decide))
  have d6 := (hR.cell 6).trans (runCells_head cf shard (.slice a n cap) st (by decide))
  have d7 := (hR.cell 7).trans (runCells_head cf shard (.slice a n cap) st (by decide))
  simp only [headCells, List.getElem?_cons_zero, List.getElem?_cons_succ] at d1 d6 d7
  have hgl := hR.lt
  have hs4 := hst.steps
  have hb8 := hcf.batch8
  have hmul : st.steps * cf.batch ≤ 400 * 8 := Nat.mul_le_mul hs4 hb8
  obtain ⟨j, Hj⟩ : ∃ j, Hid (st.steps * cf.batch = j) := ⟨_, (rfl : _ = _)⟩
  have hm1 : (st.steps : Int) * (cf.batch : Int) = (j : Int) := by rw [← Hj.out, Int.natCast_mul]
  obtain ⟨q, Hq⟩ : ∃ q, Hid (j / n = q) := ⟨_, (rfl : _ = _)⟩
  obtain ⟨r, Hr⟩ : ∃ r, Hid (j % n = r) := ⟨_, (rfl : _ = _)⟩
  have HA : Hid (statusAns cf n st = [.int .i64 st.steps, .int .i64 q, .int .i64 r]) := by show _ = _; unfold statusAns; rw [Hj.out, Hq.out, Hr.out]
  rw [HA.out]
  rw [Hj.out] at hmul
  have hq1 : (j : Int) / (n : Int) = (q : Int) := by rw [← Hq.out, Int.natCast_ediv]
  have hq2 : (j : Int) % (n : Int) = (r : Int) := by rw [← Hr.out, Int.natCast_emod]
  have hq3 : (j : Int).tdiv (n : Int) = (q : Int) := by rw [Int.tdiv_eq_ediv_of_nonneg (by omega)]; exact hq1
  have hq4 : (j : Int).tmod (n : Int) = (r : Int) := by rw [Int.tmod_eq_emod_of_nonneg (by omega)]; exact hq2
  have hn0 : ((n : Int) == 0) = false := by simp; omega
  have hqb : q ≤ 3200 := by have := Nat.div_le_self j n; rw [Hq.out] at this; omega
  generalize st.steps = sp at *
  generalize cf.batch = bt at *
  clear hR
  go_enter Tryz.func52, Tryz.ntmps52
  go_wp2_with fail
  obtain ⟨w1, Hw1⟩ : ∃ w1, Hid (w.alloc (.cells #[.int .i64 0, .int .i64 0, .int .i64 0] 133) = w1) := ⟨_, (rfl : _ = _)⟩
  have HB : Hid (Below w.heap.size w w1) := by rw [← Hw1.out]; exact (Below.refl _ _).alloc (Nat.le_refl _) _
  have HC : Hid (CellsAt w1 w.heap.size 133 [.int .i64 0, .int .i64 0, .int .i64 0]) := by rw [← Hw1.out]; exact CellsAt.new w _ _ _ rfl rfl
  rw [Hw1.out]
  have e1 := (HB.out.cell (p := ⟨g, 1, none⟩) hgl).trans d1
  have e6 := (HB.out.cell (p := ⟨g, 6, none⟩) hgl).trans d6
  have e7 := (HB.out.cell (p := ⟨g, 7, none⟩) hgl).trans d7
  have c0 := CellsAt.cell HC.out 0
  have c1 := CellsAt.cell HC.out 1
  have c2 := CellsAt.cell HC.out 2
  simp only [List.getElem?_cons_zero, List.getElem?_cons_succ] at c0 c1 c2
  have f0 := CellsAt.frozen HC.out 0
  have f1 := CellsAt.frozen HC.out 1
  have f2 := CellsAt.frozen HC.out 2
  clear d1 d6 d7 Hw1
  go_quiet (fail)
  go_wp2_with fail
  go_region
  have HF : Hid (CellsAt ((((w1.drewN (nq + 1)).setCell ⟨w.heap.size, 0, none⟩ (.int .i64 sp)).setCell ⟨w.heap.size, 1, none⟩ (.int .i64 q)).setCell ⟨w.heap.size, 2, none⟩ (.int .i64 r)) w.heap.size 133 [.int .i64 sp, .int .i64 q, .int .i64 r]) := by
    have h : CellsAt (w1.drewN (nq + 1)) w.heap.size 133 [.int .i64 0, .int .i64 0, .int .i64 0] := HC.out
    exact ((h.set 0 (.int .i64 sp)).set 1 (.int .i64 q)).set 2 (.int .i64 r)
  have HB2 : Hid (Below w.heap.size w ((((w1.drewN (nq + 1)).setCell ⟨w.heap.size, 0, none⟩ (.int .i64 sp)).setCell ⟨w.heap.size, 1, none⟩ (.int .i64 q)).setCell ⟨w.heap.size, 2, none⟩ (.int .i64 r))) :=
    (((below_drewN HB.out (nq + 1)).setCell (p := ⟨w.heap.size, 0, none⟩) (Nat.le_refl _) _).setCell (p := ⟨w.heap.size, 1, none⟩) (Nat.le_refl _) _).setCell (p := ⟨w.heap.size, 2, none⟩) (Nat.le_refl _) _
  go_wp2
  generalize (((w1.drewN (nq + 1)).setCell ⟨w.heap.size, 0, none⟩ (.int .i64 sp)).setCell ⟨w.heap.size, 1, none⟩ (.int .i64 q)).setCell ⟨w.heap.size, 2, none⟩ (.int .i64 r) = w5 at *
  have hld := run_loadVar_mid (P := Tryz.prog) w5 w.heap.size 0 133 [.int .i64 sp, .int .i64 q, .int .i64 r] _ (CellsAt.range HF.out) Tryz.underlying133 rfl (by kernel_rfl)
  refine bodyPost_ret (v := .agg #[.int .i64 sp, .int .i64 q, .int .i64 r]) ?_ rfl ⟨rfl, HB2.out⟩
  simp [results, Tryz.results52, asAddr, hld]
end Go.Proofs.YtfpodnleimhohabGreatDoor
