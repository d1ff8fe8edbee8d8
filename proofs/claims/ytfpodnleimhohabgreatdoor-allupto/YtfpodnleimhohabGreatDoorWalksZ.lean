/-
  WALKS: a run of the document's in memory; its scores.
-/
import Derived.Test.YtfpodnleimhohabGreatDoorGen
import Derived.Test.YtfpodnleimhohabGreatDoorWalksY
import Derived.BigRegion
namespace Go.Proofs.YtfpodnleimhohabGreatDoor
open Go.RowKit
set_option linter.unusedVariables false

abbrev RefRun (w : World) (g : Nat) (cf : Cf) (shard : ByteArray) (lv : Value) (st : St) : Prop := CellsAt w g 69 (runCells cf shard lv st)

/-- Memory while scores are made. -/
structure ScAt (w wr : World) (g : Nat) (rc nc : List Value) (f : Nat → Int) : Prop where
  r : CellsAt wr g 69 rc
  n : CellsAt wr w.heap.size 62 nc
  z : CellsAt wr (w.heap.size + 1) 119 (tab 4 fun _ => 0)
  o : CellsAt wr (w.heap.size + 2) 119 (tab 4 f)
  l : Below w.heap.size w wr
theorem ScAt.set {w wr : World} {g : Nat} {rc nc : List Value} {f : Nat → Int} (h : ScAt w wr g rc nc f) (hg : g < w.heap.size) (q : Nat) (z : Int) : ScAt w (wr.setCell ⟨w.heap.size + 2, q, none⟩ (.int .i64 z)) g rc nc (upd f q z) :=
  ⟨h.r.other (by omega) _ _, h.n.other (by omega) _ _, h.z.other (by omega) _ _, by rw [← tab_set]; exact h.o.set q _, h.l.setCell (by show w.heap.size ≤ w.heap.size + 2; omega) _⟩
theorem ScAt.drewN {w wr : World} {g : Nat} {rc nc : List Value} {f : Nat → Int} (h : ScAt w wr g rc nc f) (n : Nat) : ScAt w (wr.drewN n) g rc nc f := ⟨h.r, h.n, h.z, h.o, below_drewN h.l n⟩
theorem ScAt.drew {w wr : World} {g : Nat} {rc nc : List Value} {f : Nat → Int} (h : ScAt w wr g rc nc f) : ScAt w wr.drew g rc nc f := ⟨h.r, h.n, h.z, h.o, h.l.drew⟩
theorem ScAt.to {w wr : World} {g : Nat} {rc nc : List Value} {f f' : Nat → Int} (h : ScAt w wr g rc nc f) (e : f = f') : ScAt w wr g rc nc f' := e ▸ h

set_option maxRecDepth 100000 in
set_option maxHeartbeats 1000000 in
theorem scores_any (g : Nat) (cf : Cf) (shard : ByteArray) (lv : Value) (st : St) (hst : st.Ok) (n : Nat → Nat) (hn : ∀ b, n b ≤ 7) (w : World) (hR : RefRun w g cf shard lv st) :
    Calls Tryz.prog 38 #[.pointer (some ⟨g, 0, none⟩), .agg (tab 32 fun b => ((n b : Nat) : Int)).toArray] w fun e w' => e = .returned (.agg (tab 4 (scoreN n st.w)).toArray) ∧ Below w.heap.size w w' := by
  have hgl := hR.lt
  have HR : Hid (RefRun w g cf shard lv st) := hR
  have Hn : Hid _ := hn
  obtain ⟨nc, Hnc⟩ : ∃ nc, Hid (tab 32 (fun b => ((n b : Nat) : Int)) = nc) := ⟨_, (rfl : _ = _)⟩
  rw [Hnc.out]
  clear hR hn
  go_enter Tryz.func38, Tryz.ntmps38
  go_wp2_with fail
  obtain ⟨w3, Hw3⟩ : ∃ w3, Hid (((w.alloc (.cells nc.toArray 62)).alloc (.cells #[.int .i64 0, .int .i64 0, .int .i64 0, .int .i64 0] 119)).alloc (.cells #[.int .i64 0, .int .i64 0, .int .i64 0, .int .i64 0] 119) = w3) := ⟨_, (rfl : _ = _)⟩
  rw [Hw3.out, show w.heap.size + 1 + 1 = w.heap.size + 2 from rfl]
  have H0 : Hid (ScAt w w3 g (runCells cf shard lv st) nc (scTo n st.w 0 0)) := by
    show ScAt _ _ _ _ _ _
    rw [← Hw3.out]
    refine ⟨((HR.out.alloc _).alloc _).alloc _, ((CellsAt.new w _ _ _ rfl rfl).alloc _).alloc _, (CellsAt.new _ _ _ _ rfl (by simp)).alloc _, CellsAt.new _ _ _ _ rfl (by simp), (((Below.refl _ _).alloc (Nat.le_refl _) _).alloc (by simp) _).alloc (by simp; omega) _⟩
  clear Hw3 HR
  go_loopw [6] (fun cv wr => ∃ c : Nat, c ≤ 4 ∧ cv = .int .i64 c ∧ Hid (ScAt w wr g (runCells cf shard lv st) nc (scTo n st.w c 0))) (fun c _ => 4 - (intOf c).toNat)
  case atStart => exact ⟨0, by omega, rfl, H0⟩
  case round =>
    obtain ⟨c, hc, rfl, HS⟩ := hrel
    clear H0
    by_cases hlt : c < 4
    · go_wp2_with fail
      go_loopw [7] (fun bv wq => ∃ b : Nat, b ≤ 32 ∧ bv = .int .i64 b ∧ Hid (ScAt w wq g (runCells cf shard lv st) nc (scTo n st.w c b))) (fun b _ => 32 - (intOf b).toNat)
      case atStart => exact ⟨0, by omega, rfl, HS⟩
      case round =>
        obtain ⟨b, hb, rfl, HT⟩ := hrel
        clear HS
        by_cases hbl : b < 32
        · have d1 := (HT.out.o.cell c).trans (tab_get _ hlt)
          have f1 := HT.out.o.frozen c
          have e2 : nc[b]? = some (.int .i64 ((n b : Nat) : Int)) := by rw [← Hnc.out]; exact tab_get (fun b => ((n b : Nat) : Int)) hbl
          have d2 := (HT.out.n.cell b).trans e2
          clear e2
          have d3 := (HT.out.r.cell (8 + c * 32 + b)).trans (runCells_w cf shard lv st hlt hbl)
          have HN : Hid _ := (HT.out.set hgl c (scTo n st.w c b c + (n b : Int) * st.w c b)).to (scTo_next n st.w c b)
          have b1 := sc_bound n Hn.out st.w c (fun b hb => hst.w c b hlt hb) b hb
          rw [← scTo_at] at b1
          have b2 := mul_bound (n b) (st.w c b) (Hn.out b) (hst.w c b hlt hbl).1 (hst.w c b hlt hbl).2
          have b3 := Hn.out b
          have b4 := hst.w c b hlt hbl
          generalize scTo n st.w c b c = x at *
          generalize n b = y at *
          generalize st.w c b = z at *
          go_wp2_with fail
          go_region
          go_wp2
          go_roundw
          case rel => exact ⟨b + 1, by omega, by go_num, HN.out.drew⟩
          case measure => simp [intOf]; omega
        · obtain rfl : b = 32 := by omega
          go_wp2
          go_roundw
          case rel => exact ⟨c + 1, by omega, by go_num, HT.out.to (scTo_row n st.w c)⟩
          case measure => simp [intOf]; omega
    · obtain rfl : c = 4 := by omega
      have HE : Hid (tab 4 (scTo n st.w 4 0) = tab 4 (scoreN n st.w)) := tab_congr fun b hb => by simp only [scTo]; rw [if_pos hb]
      obtain ⟨_, _, A1, A2, A4⟩ := HS.out
      rw [HE.out] at A2
      obtain ⟨cs, Hcs⟩ : ∃ cs, Hid (tab 4 (scoreN n st.w) = cs) := ⟨_, (rfl : _ = _)⟩
      have HcsL : Hid (cs.length = 4) := by show _ = _; rw [← Hcs.out]; exact tab_length _ _
      have HcsO : Hid (∀ u ∈ cs, u.oneCell' = true) := by show ∀ u ∈ cs, _; rw [← Hcs.out]; exact tab_one _ _
      have HI : Hid ((Tryz.prog.info? 119).map (·.size) = some cs.length) := by show _ = _; rw [HcsL.out]; kernel_rfl
      have HI2 : Hid ((Tryz.prog.info? 119).map (·.size) = some cs.toArray.size) := by show _ = _; rw [List.size_toArray]; exact HI.out
      rw [Hcs.out] at A2
      have HRg : Hid (wr.rangeAt (w.heap.size + 2) 0 cs) := CellsAt.range A2
      have HTh : Hid (wr.there (w.heap.size + 1) 0 cs.toArray.size) := by
        have := CellsAt.there A1
        rw [tab_length] at this
        show wr.there (w.heap.size + 1) 0 cs.length
        rw [HcsL.out]; exact this
      have HA4 : Hid (Below w.heap.size w wr) := A4
      clear A1 A2 A4 HS HE
      go_wp2_with (first
        | (refine wpList_load_mid rfl 119 (.tmp 5) rfl _ _ rfl cs _ HRg.out Tryz.underlying119 rfl HI.out ?_)
        | (refine wpList_store_mid rfl 119 (.tmp 4) (.tmp 34) rfl _ _ cs.toArray rfl rfl HTh.out HI2.out (all_oneCell_toArray HcsO.out) ?_))
      have hld := run_loadVar_mid (P := Tryz.prog) (wr.setCells (w.heap.size + 1) 0 cs) (w.heap.size + 1) 0 119 cs _ (World.rangeAt_setCells_same _ _ _ _ (by have := HTh.out; rw [List.size_toArray] at this; exact this)) Tryz.underlying119 rfl HI.out
      rw [Hcs.out]
      refine bodyPost_ret (v := .agg cs.toArray) ?_ rfl ⟨rfl, below_setCells (by omega) cs 0 HA4.out⟩
      simp [results, Tryz.results38, asAddr, hld, Act.put]
end Go.Proofs.YtfpodnleimhohabGreatDoor
