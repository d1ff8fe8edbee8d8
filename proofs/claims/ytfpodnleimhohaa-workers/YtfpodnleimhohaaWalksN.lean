/-
  WALKS: settings out of raw ones.
-/
import Derived.Test.YtfpodnleimhohaaWalksT
import Derived.Test.YtfpodnleimhohaaGen
namespace Go.Proofs.Ytfpodnleimhohaa
open Go.RowKit
set_option linter.unusedVariables false

/-- Settings that are made out of raw ones. -/
def setN (r : Raw) : Cf := ⟨r.seed, 1 + r.batch % 8, pickN r.rate 65537, pickN r.mom 65536, r.decay % 32⟩
theorem setN_ok (r : Raw) (hw : r.Wf) : (setN r).Ok :=
  ⟨hw.seed, by show 1 ≤ 1 + r.batch % 8; omega, by show 1 + r.batch % 8 ≤ 8; omega, by have := pickN_lt r.rate (n := 65537) (by decide); show pickN r.rate 65537 ≤ 65536; omega, pickN_lt r.mom (n := 65536) (by decide), by show r.decay % 32 ≤ 31; omega⟩
def Cf.raw (c : Cf) : Raw := ⟨c.seed, c.batch, c.rate, c.mom, c.decay⟩

set_option maxRecDepth 100000 in
set_option maxHeartbeats 1000000 in
theorem settings_any (r : Raw) (hw : r.Wf) (w : World) :
    Calls Try.prog 29 #[.agg r.cells.toArray] w fun e w' => e = .returned (.agg (setN r).raw.cells.toArray) ∧ Below w.heap.size w w' := by
  obtain ⟨sd, bt, ra, mo, de⟩ := r
  obtain ⟨h1, h2, ⟨h3, h4⟩, ⟨h5, h6⟩, h7⟩ := hw
  simp only at h1 h2 h3 h4 h5 h6 h7
  have HP1 := pickN_lt ra (n := 65537) (by decide)
  have HP2 := pickN_lt mo (n := 65536) (by decide)
  obtain ⟨p1, Hp1⟩ : ∃ p, Hid (pickN ra 65537 = p) := ⟨_, (rfl : _ = _)⟩
  obtain ⟨p2, Hp2⟩ : ∃ p, Hid (pickN mo 65536 = p) := ⟨_, (rfl : _ = _)⟩
  have HE : Hid ((setN ⟨sd, bt, ra, mo, de⟩).raw.cells = [.int .u64 sd, .int .u8 ((1 + bt % 8 : Nat) : Int), .int .i32 p1, .int .i32 p2, .int .u8 ((de % 32 : Nat) : Int)]) := by
    show _ = _
    simp only [setN, Cf.raw, Raw.cells]; rw [Hp1.out, Hp2.out]
  rw [HE.out]
  rw [Hp1.out] at HP1
  rw [Hp2.out] at HP2
  have HQ1 : Hid _ := HP1
  have HQ2 : Hid _ := HP2
  clear HP1 HP2
  show Calls Try.prog 29 #[.agg #[.int .u64 sd, .int .u8 bt, .int .i32 ra, .int .i32 mo, .int .u8 de]] w _
  go_enter Try.func29, Try.ntmps29
  go_wp2_with fail
  obtain ⟨w3, Hw3⟩ : ∃ w3, Hid (((w.alloc (.cells #[.int .u64 sd, .int .u8 bt, .int .i32 ra, .int .i32 mo, .int .u8 de] 70)).alloc (.cells #[.int .u64 0, .int .u8 0, .int .i32 0, .int .i32 0, .int .u8 0] 70)).alloc (.cells #[.int .u64 sd, .int .u8 (1 + (bt : Int) % 8), .int .i32 0, .int .i32 0, .int .u8 ((de : Int) % 32)] 70) = w3) := ⟨_, (rfl : _ = _)⟩
  have HA : Hid (CellsAt w3 w.heap.size 70 [.int .u64 sd, .int .u8 bt, .int .i32 ra, .int .i32 mo, .int .u8 de] ∧ CellsAt w3 (w.heap.size + 1) 70 [.int .u64 0, .int .u8 0, .int .i32 0, .int .i32 0, .int .u8 0] ∧ CellsAt w3 (w.heap.size + 1 + 1) 70 [.int .u64 sd, .int .u8 ((1 + bt % 8 : Nat) : Int), .int .i32 0, .int .i32 0, .int .u8 ((de % 32 : Nat) : Int)] ∧ Below w.heap.size w w3) := by
    show _ ∧ _
    rw [← Hw3.out]
    exact ⟨((CellsAt.new w _ _ _ rfl rfl).alloc _).alloc _, (CellsAt.new _ _ _ _ rfl (by simp)).alloc _, CellsAt.new _ _ _ _ rfl (by simp), (((Below.refl _ _).alloc (Nat.le_refl _) _).alloc (by simp) _).alloc (by simp; omega) _⟩
  rw [Hw3.out]
  clear Hw3
  have c3 := (CellsAt.cell HA.out.1 3)
  have k2 := (CellsAt.cell HA.out.2.2.1 2)
  have k3 := (CellsAt.cell HA.out.2.2.1 3)
  have f2 := (CellsAt.frozen HA.out.2.2.1 2)
  have f3 := (CellsAt.frozen HA.out.2.2.1 3)
  simp only [List.getElem?_cons_zero, List.getElem?_cons_succ] at c3 k2 k3
  have b1 : p1 ≤ 70000 := by have := HQ1.out; omega
  have b2 : p2 ≤ 70000 := by have := HQ2.out; omega
  refine (pick_any ra 65537 (by omega) (by omega) (by decide) (by decide) _).mono ?_
  rintro e w1 ⟨rfl, hw⟩
  rw [Hp1.out]
  have hw' := hw.symm
  clear hw
  subst hw'
  go_wp2_with fail
  refine (pick_any mo 65536 (by omega) (by omega) (by decide) (by decide) _).mono ?_
  rintro e w1 ⟨rfl, hw⟩
  rw [Hp2.out]
  have hw' := hw.symm
  clear hw
  subst hw'
  have HF : Hid (CellsAt ((w3.setCell ⟨w.heap.size + 1 + 1, 2, none⟩ (.int .i32 p1)).setCell ⟨w.heap.size + 1 + 1, 3, none⟩ (.int .i32 p2)) (w.heap.size + 1 + 1) 70 [.int .u64 sd, .int .u8 ((1 + bt % 8 : Nat) : Int), .int .i32 p1, .int .i32 p2, .int .u8 ((de % 32 : Nat) : Int)]) := (CellsAt.set (CellsAt.set HA.out.2.2.1 2 (.int .i32 p1)) 3 (.int .i32 p2))
  have HG : Hid (CellsAt ((w3.setCell ⟨w.heap.size + 1 + 1, 2, none⟩ (.int .i32 p1)).setCell ⟨w.heap.size + 1 + 1, 3, none⟩ (.int .i32 p2)) (w.heap.size + 1) 70 [.int .u64 0, .int .u8 0, .int .i32 0, .int .i32 0, .int .u8 0]) := (CellsAt.other (CellsAt.other HA.out.2.1 (by omega) 2 (.int .i32 p1)) (by omega) 3 (.int .i32 p2))
  have HB : Hid (Below w.heap.size w ((w3.setCell ⟨w.heap.size + 1 + 1, 2, none⟩ (.int .i32 p1)).setCell ⟨w.heap.size + 1 + 1, 3, none⟩ (.int .i32 p2))) := (HA.out.2.2.2.setCell (p := ⟨w.heap.size + 1 + 1, 2, none⟩) (by show w.heap.size ≤ w.heap.size + 1 + 1; omega) _).setCell (p := ⟨w.heap.size + 1 + 1, 3, none⟩) (by show w.heap.size ≤ w.heap.size + 1 + 1; omega) _
  go_upto_region 6 with fail
  generalize (w3.setCell ⟨w.heap.size + 1 + 1, 2, none⟩ (.int .i32 p1)).setCell ⟨w.heap.size + 1 + 1, 3, none⟩ (.int .i32 p2) = w5 at *
  clear c3 k2 k3 f2 f3
  obtain ⟨cs, Hcs⟩ : ∃ cs, Hid ([Value.int .u64 sd, .int .u8 ((1 + bt % 8 : Nat) : Int), .int .i32 p1, .int .i32 p2, .int .u8 ((de % 32 : Nat) : Int)] = cs) := ⟨_, (rfl : _ = _)⟩
  rw [Hcs.out] at HF
  have HcsL : Hid (cs.length = 5) := by show _ = _; rw [← Hcs.out]; rfl
  have HcsO : Hid (∀ u ∈ cs, u.oneCell' = true) := by show ∀ u ∈ cs, _; rw [← Hcs.out]; exact oneCell_nums _ rfl
  have HI : Hid ((Try.prog.info? 70).map (·.size) = some cs.length) := by show _ = _; rw [HcsL.out]; kernel_rfl
  have HI2 : Hid ((Try.prog.info? 70).map (·.size) = some cs.toArray.size) := by show _ = _; rw [List.size_toArray]; exact HI.out
  have HRg : Hid (w5.rangeAt (w.heap.size + 1 + 1) 0 cs) := CellsAt.range HF.out
  have HTh : Hid (w5.there (w.heap.size + 1) 0 cs.toArray.size) := by
    have := CellsAt.there HG.out
    show w5.there (w.heap.size + 1) 0 cs.length
    rw [HcsL.out]; exact this
  go_wp2_with (first
    | (refine wpList_load_mid rfl 70 (.tmp 3) rfl _ _ rfl cs _ HRg.out Try.underlying70 rfl HI.out ?_)
    | (refine wpList_store_mid rfl 70 (.tmp 2) (.tmp 30) rfl _ _ cs.toArray rfl rfl HTh.out HI2.out (all_oneCell_toArray HcsO.out) ?_))
  have hld := run_loadVar_mid (P := Try.prog) (w5.setCells (w.heap.size + 1) 0 cs) (w.heap.size + 1) 0 70 cs _ (World.rangeAt_setCells_same _ _ _ _ (by have := HTh.out; rw [List.size_toArray] at this; exact this)) Try.underlying70 rfl HI.out
  rw [Hcs.out]
  refine bodyPost_ret (v := .agg cs.toArray) ?_ rfl ⟨rfl, below_setCells (by omega) cs 0 HB.out⟩
  simp [results, Try.results29, asAddr, hld, Act.put]
end Go.Proofs.Ytfpodnleimhohaa
