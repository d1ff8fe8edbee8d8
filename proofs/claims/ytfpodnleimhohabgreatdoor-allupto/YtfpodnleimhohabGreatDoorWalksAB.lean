/-
  WALKS: the document's Weights, Guess.
-/
import Derived.Test.YtfpodnleimhohabGreatDoorGen
import Derived.Test.YtfpodnleimhohabGreatDoorWalksAA
namespace Go.Proofs.YtfpodnleimhohabGreatDoor
open Go.RowKit
set_option linter.unusedVariables false

set_option maxRecDepth 100000 in
set_option maxHeartbeats 1000000 in
theorem refWeights_any (g : Nat) (cf : Cf) (shard : ByteArray) (lv : Value) (st : St) (hst : st.Ok) (c : Nat) (hc : c < 4) (w : World) (hR : RefRun w g cf shard lv st) :
    Calls Tryz.prog 57 #[.pointer (some ⟨g, 0, none⟩), .int .i64 c] w fun e w' => ∃ v, e = .returned (.tuple #[v, .int .i64 0]) ∧ w'.ownsRow w.heap.size 21 1 v 32 (wCells (st.w c) 32) ∧ Below w.heap.size w w' := by
  obtain ⟨i0, hi, hz0, hz1, hz2⟩ := info_parts info_i32
  have hgl := hR.lt
  have HR : Hid (RefRun w g cf shard lv st) := hR
  clear hR
  go_enter Tryz.func57, Tryz.ntmps57
  go_wp2_with fail
  go_loopw [6, 7] (fun v bv wr => ∃ b : Nat, b ≤ 32 ∧ bv = .int .i64 b ∧ wr.ownsRow w.heap.size 21 1 v b (wCells (st.w c) b) ∧ Below w.heap.size w wr) (fun _ b _ => 32 - (intOf b).toNat)
  case atStart => exact ⟨0, by omega, rfl, World.ownsRow_nil _ _ _ _, Below.refl _ _⟩
  case round =>
    obtain ⟨b, hb, rfl, hown, hbel⟩ := hrel
    by_cases hlt : b < 32
    · have d := (hbel.cell (p := ⟨g, 8 + c * 32 + b, none⟩) hgl).trans ((HR.out.cell _).trans (runCells_w cf shard lv st hc hlt))
      have hb4 := hst.w c b hc hlt
      have HS : Hid _ := wCells_snoc (st.w c) b
      generalize st.w c b = z at *
      have hzs := hbel.size
      go_wp2_with (at_builtin; refine wpList_append_own _ rfl (.tmp 18) (.tmp 28) 85 rfl w.heap.size 21 i0 (.int .i32 0) 1 4 Tryz.underlying85 hi hz0 hz1 hz2 rfl (by decide) _ _ _ rfl (hown.alloc _) ⟨wr.heap.size, 0, none⟩ 1 1 [.int .i32 z] rfl rfl (news_at _ _ rfl _ _ _ rfl) (oneCell_nums _ rfl) (by unfold maxLen; omega) (by omega) (by simp; omega) ?_; intro v' w3 ho3 hgr hxx; clear hxx)
      go_roundw
      case rel => exact ⟨b + 1, by omega, by go_num, by rw [HS.out]; exact ho3, (hbel.alloc hzs _).grown hgr (by simp; omega) (fun j hj => (hown.lt j hj).1)⟩
      case measure => simp [intOf]; omega
    · obtain rfl : b = 32 := by omega
      go_wp2
      go_ret2
      exact ⟨_, rfl, hown, hbel⟩
set_option maxRecDepth 100000 in
theorem refWeights_bad (g : Nat) (c : Int) (hc : ¬ (0 ≤ c ∧ c < 4)) (w : World) :
    Calls Tryz.prog 57 #[.pointer (some ⟨g, 0, none⟩), .int .i64 c] w fun e w' => e = .returned (.tuple #[.slice none 0 0, .int .i64 1]) ∧ w' = w := by
  go_enter Tryz.func57, Tryz.ntmps57
  by_cases h : c < 0
  · go_wp2
    go_ret2
    exact ⟨rfl, rfl⟩
  · go_wp2
    go_ret2
    exact ⟨rfl, rfl⟩

set_option maxRecDepth 100000 in
set_option maxHeartbeats 1000000 in
theorem refGuess_any (g : Nat) (cf : Cf) (shard : ByteArray) (lv : Value) (st : St) (hst : st.Ok) (s : ByteArray) (hs : s.size ≤ 200) (w : World) (hL : LowAt w) (hR : RefRun w g cf shard lv st) :
    Calls Tryz.prog 54 #[.pointer (some ⟨g, 0, none⟩), .string s] w fun e w' => e = .returned (.tuple #[.int .i64 ((guessAns st.w (ls s)).1 : Nat), .int .i64 (guessAns st.w (ls s)).2, .int .i64 0]) ∧ Below w.heap.size w w' := by
  have hgl := hR.lt
  have HR : Hid (RefRun w g cf shard lv st) := hR
  clear hR
  obtain ⟨sc, Hsc⟩ : ∃ sc, Hid (scoreN (countsN (ls s)) st.w = sc) := ⟨_, (rfl : _ = _)⟩
  have HA : Hid (guessAns st.w (ls s) = (bestN sc (-1), sc (bestN sc (-1)))) := by show _ = _; unfold guessAns; rw [Hsc.out]
  rw [HA.out]
  have hbl := bestN_lt sc (-1)
  obtain ⟨q, Hq⟩ : ∃ q, Hid (bestN sc (-1) = q) := ⟨_, (rfl : _ = _)⟩
  rw [Hq.out] at hbl ⊢
  go_enter Tryz.func54, Tryz.ntmps54
  go_wp2_with fail
  refine (counts_any s (by omega) _ hL).mono ?_
  rintro e w1 ⟨rfl, hb1⟩
  go_wp2_with fail
  refine (scores_any g cf shard lv st hst (countsN (ls s)) (countsN_le (ls s)) _ (HR.out.later hb1)).mono ?_
  rintro e w2 ⟨rfl, hb2⟩
  have hb2' := hb1.trans (hb2.mono hb1.size)
  clear hb1 hb2
  rw [Hsc.out]
  obtain ⟨cs, Hcs⟩ : ∃ cs, Hid (tab 4 sc = cs) := ⟨_, (rfl : _ = _)⟩
  rw [Hcs.out]
  have HcsL : Hid (cs.length = 4) := by show _ = _; rw [← Hcs.out]; exact tab_length _ _
  have HcsO : Hid (∀ u ∈ cs, u.oneCell' = true) := by show ∀ u ∈ cs, _; rw [← Hcs.out]; exact tab_one _ _
  have HI : Hid ((Tryz.prog.info? 119).map (·.size) = some cs.length) := by show _ = _; rw [HcsL.out]; kernel_rfl
  have HI2 : Hid ((Tryz.prog.info? 119).map (·.size) = some cs.toArray.size) := by show _ = _; rw [List.size_toArray]; exact HI.out
  have HTh : Hid ((w2.alloc (.cells #[.int .i64 0, .int .i64 0, .int .i64 0, .int .i64 0] 119)).there w2.heap.size 0 cs.toArray.size) := by
    have := (CellsAt.new w2 #[.int .i64 0, .int .i64 0, .int .i64 0, .int .i64 0] [.int .i64 0, .int .i64 0, .int .i64 0, .int .i64 0] 119 rfl rfl).there
    show (w2.alloc (.cells #[.int .i64 0, .int .i64 0, .int .i64 0, .int .i64 0] 119)).there w2.heap.size 0 cs.length
    rw [HcsL.out]; exact this
  have HRg : Hid (((w2.alloc (.cells #[.int .i64 0, .int .i64 0, .int .i64 0, .int .i64 0] 119)).setCells w2.heap.size 0 cs).rangeAt w2.heap.size 0 cs) := World.rangeAt_setCells_same _ _ _ _ (by have := HTh.out; rw [List.size_toArray] at this; exact this)
  have HB3 : Hid (Below w.heap.size w ((w2.alloc (.cells #[.int .i64 0, .int .i64 0, .int .i64 0, .int .i64 0] 119)).setCells w2.heap.size 0 cs)) := below_setCells hb2'.size cs 0 (hb2'.alloc hb2'.size _)
  go_wp2_with (first
    | (refine wpList_store_mid rfl 119 (.tmp 7) (.tmp 15) rfl _ _ cs.toArray rfl rfl HTh.out HI2.out (all_oneCell_toArray HcsO.out) ?_)
    | (refine wpList_load_mid rfl 119 (.tmp 7) rfl _ _ rfl cs _ HRg.out Tryz.underlying119 rfl HI.out ?_))
  have hc3 : ((w2.alloc (.cells #[.int .i64 0, .int .i64 0, .int .i64 0, .int .i64 0] 119)).setCells w2.heap.size 0 cs).cell? ⟨w2.heap.size, q, none⟩ = some (.int .i64 (sc q)) := by
    have e : cs[q]? = some (.int .i64 (sc q)) := by rw [← Hcs.out]; exact tab_get sc hbl
    have := HRg.out q _ e
    rwa [Nat.zero_add] at this
  clear HTh HRg
  generalize (w2.alloc (.cells #[.int .i64 0, .int .i64 0, .int .i64 0, .int .i64 0] 119)).setCells w2.heap.size 0 cs = w3 at *
  have hlt3 := World.block_lt_of_cell? w3 _ hc3
  rw [← Hcs.out]
  refine (best_any sc (-1) (by omega) _).mono ?_
  rintro e w4 ⟨rfl, hb4⟩
  rw [Hq.out]
  have hc4 := (hb4.cell (p := ⟨w2.heap.size, q, none⟩) hlt3).trans hc3
  have HB4 : Hid (Below w.heap.size w w4) := HB3.out.trans (hb4.mono HB3.out.size)
  clear hc3 hb4
  go_wp2_with fail
  go_quiet (fail)
  go_wp2
  go_ret3
  exact ⟨rfl, below_drewN HB4.out _⟩
set_option maxRecDepth 100000 in
theorem refGuess_long (g : Nat) (s : ByteArray) (hs : 200 < s.size) (hm : s.size ≤ maxLen) (w : World) :
    Calls Tryz.prog 54 #[.pointer (some ⟨g, 0, none⟩), .string s] w fun e w' => e = .returned (.tuple #[.int .i64 0, .int .i64 0, .int .i64 2]) ∧ w' = w := by
  unfold maxLen at hm
  go_enter Tryz.func54, Tryz.ntmps54
  go_wp2
  go_ret3
  exact ⟨rfl, rfl⟩
end Go.Proofs.YtfpodnleimhohabGreatDoor
