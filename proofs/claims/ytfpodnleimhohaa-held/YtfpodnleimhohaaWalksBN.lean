/-
  WALKS: the weights of all classes; two runs that stand together.
-/
import Derived.Test.YtfpodnleimhohaaWalksBL
import Derived.Test.YtfpodnleimhohaaWalksM
import Derived.Maps.AppendAt
namespace Go.Proofs.Ytfpodnleimhohaa
open Go.RowKit
set_option linter.unusedVariables false
variable {mk : ByteArray}

/-- All weights, one class behind the other: the first k. -/
def wAll (t : Tab) (k : Nat) : List Value := wCells (flat t) k
theorem wAll_snoc (t : Tab) (c b : Nat) (hb : b < 32) : wAll t (c * 32 + b + 1) = wAll t (c * 32 + b) ++ [.int .i32 (t c b)] := by
  unfold wAll
  rw [wCells_snoc, flat_at _ hb]

set_option maxRecDepth 100000 in
set_option maxHeartbeats 4000000 in
theorem weights_any (g : Nat) (cf : Cf) (lv : Value) (st : St) (hst : st.Ok) (w : World) (hR : ProgRun w g cf mk lv st) :
    Calls Try.prog 36 #[.pointer (some ⟨g, 0, none⟩)] w fun e w' => ∃ v, e = .returned (.tuple #[v, .bool true]) ∧ w'.ownsRow w.heap.size 21 1 v 128 (wAll st.w 128) ∧ Below w.heap.size w w' := by
  obtain ⟨i0, hi, hz0, hz1, hz2⟩ := info_parts info_i32
  have HR : Hid (ProgRun w g cf mk lv st) := hR
  clear hR
  go_enter Try.func36, Try.ntmps36
  go_wp2_with fail
  go_loopg [4, 5] 4 (fun gk v cv wr => ∃ c : Nat, gk + c = 4 ∧ cv = .int .i64 c ∧ wr.ownsRow w.heap.size 21 1 v (c * 32) (wAll st.w (c * 32)) ∧ Below w.heap.size w wr)
  case atStart => exact ⟨0, by omega, rfl, World.ownsRow_nil _ _ _ _, Below.refl _ _⟩
  case round =>
    obtain ⟨c, hgc, rfl, hown, hbel⟩ := hrel
    obtain ⟨gK, hgK⟩ : ∃ gK, gK = gk := ⟨_, rfl⟩
    by_cases hlt : c < 4
    · go_wp2_with fail
      refine (progWeights_any g cf lv st hst c hlt _ (CellsAt.later HR.out hbel)).mono ?_
      rintro e w2 ⟨vl, rfl, hl, hb2⟩
      have hb3 : Below w.heap.size w w2 := hbel.trans (hb2.mono hbel.size)
      have ho2 : w2.ownsRow w.heap.size 21 1 u4 (c * 32) (wAll st.w (c * 32)) := ownsRow_below hown hb2
      have HL : Hid (w2.ownsRow wr.heap.size 21 1 vl 32 (wCells (st.w c) 32)) := hl
      have hdis : ∀ j, u4.ownBlock = some j → j < wr.heap.size := fun j hj => (hown.lt j hj).2
      obtain ⟨al, cl, hvl, hcl1, hcl2, hrd⟩ := own_read hl
      subst hvl
      obtain ⟨gl, hal, hgl1, hgl2, hgl3⟩ := hrd (by omega)
      subst hal
      have HG : Hid (∀ b, b < 32 → w2.cell? ⟨gl, b, none⟩ = some (.int .i32 (st.w c b))) := fun b hb => (hgl3 b (by omega)).trans (wCells_get _ hb)
      have HD : Hid _ := hdis
      unfold maxLen at hcl2
      clear hrd hl hb2 hbel hown hgl3 hdis
      go_wp2_with fail
      generalize decide ((c : Int) < 4) = q4
      go_loopg [4, 8] 32 (fun gq v bv wq => ∃ b : Nat, gq + b = 32 ∧ bv = .int .i64 b ∧ wq.ownsRow w.heap.size 21 1 v (c * 32 + b) (wAll st.w (c * 32 + b)) ∧ Below w.heap.size w wq ∧ Hid ((∀ b, b < 32 → wq.cell? ⟨gl, b, none⟩ = some (.int .i32 (st.w c b))) ∧ (∀ j, v.ownBlock = some j → j ≠ gl) ∧ gl < wq.heap.size))
      case atStart => exact ⟨0, by omega, rfl, ho2, hb3, ⟨HG.out, fun j hj => by have := HD.out j hj; omega, hgl2⟩⟩
      case round =>
        obtain ⟨b, hgb, rfl, ho, hbe, HE⟩ := hrel
        by_cases hbl : b < 32
        · have hc := HE.out.1 b hbl
          have hw4 := hst.w c b hlt hbl
          have HS : Hid _ := wAll_snoc st.w c b hbl
          have HG1 : Hid (∀ b, b < 32 → wr.cell? ⟨gl, b, none⟩ = some (.int .i32 (st.w c b))) := HE.out.1
          generalize hz : st.w c b = z at *
          have hn0 : decide ((16777216 : Int) < z) = false := by simp; omega
          have hn1 : decide (z < -16777216) = false := by simp; omega
          have hzs := hbe.size
          have hbl' : (b : Int) < 32 := by omega
          clear hz hw4
          go_wp2_with (at_builtin; refine wpList_append_own_at _ rfl (.tmp 46) (.tmp 51) 88 rfl w.heap.size 21 i0 (.int .i32 0) 1 4 Try.underlying88 hi hz0 hz1 hz2 rfl (by decide) _ _ _ rfl (ho.alloc _) ⟨wr.heap.size, 0, none⟩ 1 1 [.int .i32 z] rfl rfl (news_at _ _ rfl _ _ _ rfl) (oneCell_nums _ rfl) (by unfold maxLen; omega) (by omega) (by simp; omega) ?_; intro v' w7 ho7 hgr hxx hat; clear hxx)
          have hb7 : Below w.heap.size w w7 := (hbe.alloc hzs _).grown hgr (by simp; omega) (fun j hj => (ho.lt j hj).1)
          have HE7 : Hid ((∀ b, b < 32 → w7.cell? ⟨gl, b, none⟩ = some (.int .i32 (st.w c b))) ∧ (∀ j, v'.ownBlock = some j → j ≠ gl) ∧ gl < w7.heap.size) := by
            have hl1 := HE.out.2.2
            refine ⟨fun b' hb' => ?_, fun j hj => ?_, ?_⟩
            · have e1 : (wr.alloc (.cells #[.int .i32 z] 21)).cell? ⟨gl, b', none⟩ = wr.cell? ⟨gl, b', none⟩ := World.cell?_alloc_lt _ _ _ hl1
              have e2 : w7.cell? ⟨gl, b', none⟩ = (wr.alloc (.cells #[.int .i32 z] 21)).cell? ⟨gl, b', none⟩ := World.cell?_of_block (w := wr.alloc (.cells #[.int .i32 z] 21)) (a := ⟨gl, b', none⟩) (hgr.block gl (by simp; omega) (fun e => (HE.out.2.1 gl e.symm) rfl))
              rw [e2, e1]; exact HG1.out b' hb'
            · rcases hat with h | h
              · rw [h] at hj
                exact HE.out.2.1 j hj
              · rw [h] at hj
                simp at hj
                omega
            · have := hgr.size
              simp at this
              omega
          go_roundg (gk - 1)
          case measure => omega
          case rel => exact ⟨b + 1, by omega, by go_num, by rw [show c * 32 + (b + 1) = c * 32 + b + 1 from rfl, HS.out]; exact ho7, hb7, HE7⟩
        · obtain rfl : b = 32 := by omega
          go_wp2
          go_roundg (gK - 1)
          case measure => omega
          case rel => exact ⟨c + 1, by omega, by go_num, by rw [show (c + 1) * 32 = c * 32 + 32 by omega]; exact ho, hbe⟩
    · obtain rfl : c = 4 := by omega
      go_wp2
      go_ret2
      exact ⟨u4, rfl, hown, hbel⟩

set_option maxRecDepth 100000 in
set_option maxHeartbeats 4000000 in
theorem together_any {mk1 mk2 : ByteArray} (cf : Cf) (hcf : cf.Ok) (n : Nat) (hn1 : 1 ≤ n) (hn2 : n ≤ 65536) (st : St) (hst : st.Ok) (g1 : Nat) (a1 : Option Addr) (c1 : Nat) (g2 : Nat) (a2 : Option Addr) (c2 : Nat) (w : World) (h1 : ProgRun w g1 cf mk1 (.slice a1 n c1) st) (h2 : ProgRun w g2 cf mk2 (.slice a2 n c2) st) :
    Calls Try.prog 35 #[.pointer (some ⟨g1, 0, none⟩), .pointer (some ⟨g2, 0, none⟩)] w fun e w' => e = .returned (.bool true) ∧ Below w.heap.size w w' := by
  have HP : Hid (ProgRun w g1 cf mk1 (.slice a1 n c1) st ∧ ProgRun w g2 cf mk2 (.slice a2 n c2) st) := ⟨h1, h2⟩
  clear h1 h2
  obtain ⟨x, y, z, HA⟩ : ∃ x y z : Int, Hid (statusAns cf n st = [.int .i64 x, .int .i64 y, .int .i64 z]) := ⟨_, _, _, (rfl : _ = _)⟩
  go_enter Try.func35, Try.ntmps35
  go_wp2_with fail
  refine (progStatus_any g1 cf hcf a1 n c1 hn1 hn2 st hst _ HP.out.1).mono ?_
  rintro e w1 ⟨rfl, hb1⟩
  rw [HA.out]
  have HB1 : Hid (Below w.heap.size w w1) := hb1
  clear hb1
  go_wp2_with fail
  have HB2 : Hid (Below w.heap.size w (w1.alloc (.cells #[.int .i64 x, .int .i64 y, .int .i64 z] 83))) := HB1.out.alloc HB1.out.size _
  have HC2 : Hid (CellsAt (w1.alloc (.cells #[.int .i64 x, .int .i64 y, .int .i64 z] 83)) w1.heap.size 83 [.int .i64 x, .int .i64 y, .int .i64 z]) := CellsAt.new _ _ _ _ rfl rfl
  generalize w1.alloc (.cells #[.int .i64 x, .int .i64 y, .int .i64 z] 83) = w2 at *
  generalize w1.heap.size = gS at *
  refine (progStatus_any g2 cf hcf a2 n c2 hn1 hn2 st hst _ (CellsAt.later HP.out.2 HB2.out)).mono ?_
  rintro e w3 ⟨rfl, hb3⟩
  rw [HA.out]
  have HB3 : Hid (Below w.heap.size w w3) := HB2.out.trans (hb3.mono HB2.out.size)
  have HC3 : Hid (CellsAt w3 gS 83 [.int .i64 x, .int .i64 y, .int .i64 z]) := CellsAt.later HC2.out hb3
  clear hb3 HB2 HC2 HB1
  go_wp2_with fail
  have HB4 : Hid (Below w.heap.size w (w3.alloc (.cells #[.int .i64 x, .int .i64 y, .int .i64 z] 83))) := HB3.out.alloc HB3.out.size _
  have HC4 : Hid (CellsAt (w3.alloc (.cells #[.int .i64 x, .int .i64 y, .int .i64 z] 83)) gS 83 [.int .i64 x, .int .i64 y, .int .i64 z]) := CellsAt.alloc HC3.out _
  have HD4 : Hid (CellsAt (w3.alloc (.cells #[.int .i64 x, .int .i64 y, .int .i64 z] 83)) w3.heap.size 83 [.int .i64 x, .int .i64 y, .int .i64 z]) := CellsAt.new _ _ _ _ rfl rfl
  generalize w3.alloc (.cells #[.int .i64 x, .int .i64 y, .int .i64 z] 83) = w4 at *
  generalize w3.heap.size = gT at *
  refine (weights_any g1 cf _ st hst _ (CellsAt.later HP.out.1 HB4.out)).mono ?_
  rintro e w5 ⟨vA, rfl, hA5, hb5⟩
  have HB5 : Hid (Below w.heap.size w w5) := HB4.out.trans (hb5.mono HB4.out.size)
  have HC5 : Hid (CellsAt w5 gS 83 [.int .i64 x, .int .i64 y, .int .i64 z]) := CellsAt.later HC4.out hb5
  have HD5 : Hid (CellsAt w5 gT 83 [.int .i64 x, .int .i64 y, .int .i64 z]) := CellsAt.later HD4.out hb5
  have HA5 : Hid (w5.ownsRow w4.heap.size 21 1 vA 128 (wCells (flat st.w) 128)) := hA5
  clear hb5 hA5 HB4 HC4 HD4 HB3 HC3
  go_wp2_with fail
  refine (weights_any g2 cf _ st hst _ (CellsAt.later HP.out.2 HB5.out)).mono ?_
  rintro e w6 ⟨vB, rfl, hA6, hb6⟩
  have HB6 : Hid (Below w.heap.size w w6) := HB5.out.trans (hb6.mono HB5.out.size)
  have HC6 : Hid (CellsAt w6 gS 83 [.int .i64 x, .int .i64 y, .int .i64 z]) := CellsAt.later HC5.out hb6
  have HD6 : Hid (CellsAt w6 gT 83 [.int .i64 x, .int .i64 y, .int .i64 z]) := CellsAt.later HD5.out hb6
  have HA6 : Hid (w6.ownsRow w4.heap.size 21 1 vA 128 (wCells (flat st.w) 128)) := ownsRow_below HA5.out hb6
  have HE6 : Hid (w6.ownsRow w5.heap.size 21 1 vB 128 (wCells (flat st.w) 128)) := hA6
  clear hb6 hA6 HB5 HC5 HD5 HA5
  go_wp2_with fail
  refine (keepWeights_same _ _ vA vB (flat st.w) 128 _ HA6.out HE6.out (by omega)).mono ?_
  rintro e w7 ⟨rfl, n7, rfl⟩
  have q0 : (w6.drewN n7).cell? ⟨gS, 0, none⟩ = some (.int .i64 x) := CellsAt.cell HC6.out 0
  have q1 : (w6.drewN n7).cell? ⟨gS, 1, none⟩ = some (.int .i64 y) := CellsAt.cell HC6.out 1
  have q2 : (w6.drewN n7).cell? ⟨gS, 2, none⟩ = some (.int .i64 z) := CellsAt.cell HC6.out 2
  have r0 : (w6.drewN n7).cell? ⟨gT, 0, none⟩ = some (.int .i64 x) := CellsAt.cell HD6.out 0
  have r1 : (w6.drewN n7).cell? ⟨gT, 1, none⟩ = some (.int .i64 y) := CellsAt.cell HD6.out 1
  have r2 : (w6.drewN n7).cell? ⟨gT, 2, none⟩ = some (.int .i64 z) := CellsAt.cell HD6.out 2
  go_wp2
  go_ret
  exact ⟨rfl, below_drewN HB6.out _⟩
end Go.Proofs.Ytfpodnleimhohaa
