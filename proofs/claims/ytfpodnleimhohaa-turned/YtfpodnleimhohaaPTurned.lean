/-
  THE STATEMENT 'Turned': the walk of the law, and its row.
-/
import Derived.Test.YtfpodnleimhohaaWalksT
import Derived.Test.YtfpodnleimhohaaWalks10
import Derived.Test.YtfpodnleimhohaaOpen
namespace Go.Proofs.Ytfpodnleimhohaa
open Go.ChangeShapes Go.WideShapes Go.ChangeAt Go.RowKit
set_option linter.unusedVariables false

theorem info_u32 : (Try.prog.info? 57).map (fun i => (i.zero, i.size, i.bytes)) = some (some (.int .u32 0), 1, 4) := by kernel_rfl
/-- The cells of the places of the first k numbers. -/
def placeCells (seed n k : Nat) : List Value := (List.range k).map fun i => .int .u32 ((place seed n i : Nat) : Int)
theorem placeCells_snoc (seed n k : Nat) : placeCells seed n (k + 1) = placeCells seed n k ++ [.int .u32 ((place seed n k : Nat) : Int)] := by
  unfold placeCells
  rw [List.range_succ, List.map_append]; rfl
theorem placeCells_get (seed n k i : Nat) (h : i < k) : (placeCells seed n k)[i]? = some (.int .u32 ((place seed n i : Nat) : Int)) := by
  unfold placeCells
  rw [List.getElem?_map, List.getElem?_range h]; rfl
theorem ten_get (k : Nat) (h : k < 10) : [6, 4, 3, 8, 1, 7, 0, 9, 2, 5][k]? = some (place 7 10 k) := by
  rw [← order_ten, List.getElem?_map, List.getElem?_range h]; rfl
theorem ten_cell (k : Nat) (h : k < 10) (w : World) (t : TypeId) : (w.alloc (.cells #[.int .u32 6, .int .u32 4, .int .u32 3, .int .u32 8, .int .u32 1, .int .u32 7, .int .u32 0, .int .u32 9, .int .u32 2, .int .u32 5] t)).cell? ⟨w.heap.size, k, none⟩ = some (.int .u32 ((place 7 10 k : Nat) : Int)) := by
  have e := ten_get k h
  have a := news_at w w.heap.size rfl #[.int .u32 6, .int .u32 4, .int .u32 3, .int .u32 8, .int .u32 1, .int .u32 7, .int .u32 0, .int .u32 9, .int .u32 2, .int .u32 5] t
    (([6, 4, 3, 8, 1, 7, 0, 9, 2, 5] : List Nat).map fun x => Value.int .u32 ((x : Nat) : Int)) rfl k (.int .u32 ((place 7 10 k : Nat) : Int)) (by rw [List.getElem?_map, e]; rfl)
  rw [Go.WideShapes.add_plain, Nat.zero_add] at a
  exact a

set_option maxRecDepth 100000 in
set_option maxHeartbeats 2000000 in
theorem turned_walk (seed : Nat) (count at0 : Int) (hs : Hid (seed < 18446744073709551616)) (hc0 : -9223372036854775808 ≤ count) (hc1 : count ≤ 9223372036854775807) (ha0 : -9223372036854775808 ≤ at0) (ha1 : at0 ≤ 9223372036854775807) (w : World) :
    Calls Try.prog 8 #[.int .u64 seed, .int .i64 count, .int .i64 at0] w fun e w' => e = .returned (.bool true) ∧ Below w.heap.size w w' := by
  obtain ⟨i0, hi, hz0, hz1, hz2⟩ := info_parts info_u32
  go_enter Try.func8, Try.ntmps8
  go_wp2_with fail
  have HW : Hid _ := fun k h => ten_cell k h w 63
  obtain ⟨w0, Hw0⟩ : ∃ w0, Hid (w.alloc (.cells #[.int .u32 6, .int .u32 4, .int .u32 3, .int .u32 8, .int .u32 1, .int .u32 7, .int .u32 0, .int .u32 9, .int .u32 2, .int .u32 5] 63) = w0) := ⟨_, (rfl : _ = _)⟩
  rw [Hw0.out] at HW ⊢
  have hbel0 : Below w.heap.size w w0 := by rw [← Hw0.out]; exact (Below.refl _ _).alloc (Nat.le_refl _) _
  have HP10 : Hid (∀ k, k < 10 → place 7 10 k < 10) := fun k h => (place_perm 7 (n := 10) (by decide)).maps k h
  go_loopw [8] (fun i wr => ∃ (k nq : Nat), k ≤ 10 ∧ i = .int .i64 k ∧ wr = w0.drewN nq) (fun i _ => 10 - (intOf i).toNat)
  case atStart => exact ⟨0, 0, by omega, rfl, rfl⟩
  case round =>
    obtain ⟨k, nq, hk, rfl, rfl⟩ := hrel
    by_cases hlt : k < 10
    · have hcell := HW.out k hlt
      have hpl := HP10.out k hlt
      go_wp2_with fail
      refine (turn_any 7 10 k (by show _ < _; decide) (by omega) hlt _).mono ?_
      rintro e w1 ⟨rfl, n1, rfl⟩
      generalize place 7 10 k = p at *
      go_wp2
      go_roundw
      case rel => exact ⟨k + 1, _, by omega, by go_num, rfl⟩
      case measure => simp [intOf]; omega
    · clear HW HP10
      go_wp2_with fail
      refine (pick_any count 65536 hc0 hc1 (by omega) (by omega) _).mono ?_
      rintro e w1 ⟨rfl, hw⟩
      have hw' := hw.symm
      clear hw
      subst hw'
      have hn1 := pickN_lt count (n := 65536) (by decide)
      generalize pickN count 65536 = m at *
      obtain ⟨n, hn⟩ : ∃ n, n = m + 1 := ⟨_, rfl⟩
      go_wp2_with fail
      rw [show (1 : Int) + (m : Int) = (n : Int) by omega]
      have hn2 : 1 ≤ n ∧ n ≤ 65536 := by omega
      clear hn
      refine (pick_any at0 n ha0 ha1 (by omega) (by omega) _).mono ?_
      rintro e w1 ⟨rfl, hw⟩
      have hw' := hw.symm
      clear hw
      subst hw'
      have ho1 := pickN_lt at0 (n := n) (by omega)
      generalize pickN at0 n = o at *
      go_wp2_with fail
      refine (turn_any seed n o hs (by omega) ho1 _).mono ?_
      rintro e w1 ⟨rfl, n1, rfl⟩
      generalize place seed n o = po
      go_wp2_with fail
      generalize nq + n1 = nq2
      have hbel1 : Below w.heap.size w (w0.drewN nq2) := below_drewN hbel0 _
      generalize w0.drewN nq2 = w1 at *
      have HPm : Hid _ := place_perm seed (n := n) (by omega)
      go_loopw [15, 16] (fun v i wr => ∃ k : Nat, k ≤ n ∧ k ≤ 64 ∧ i = .int .i64 k ∧ wr.ownsRow w.heap.size 57 1 v k (placeCells seed n k) ∧ Below w.heap.size w wr) (fun _ i _ => 64 - (intOf i).toNat)
      case atStart => exact ⟨0, by omega, by omega, rfl, World.ownsRow_nil _ _ _ _, hbel1⟩
      case round =>
        obtain ⟨k, hkn, hk64, rfl, hown, hbel⟩ := hrel
        by_cases hlt : k < n ∧ k < 64
        · obtain ⟨hkn', hk64'⟩ := hlt
          have hpl := HPm.out.maps k hkn'
          have HIn : Hid (∀ j, j < k → place seed n j ≠ place seed n k) := fun j hj e => by have := HPm.out.inj j k (by omega) hkn' e; omega
          go_wp2_with fail
          refine (turn_any seed n k hs (by omega) hkn' _).mono ?_
          rintro e w2 ⟨rfl, n2, rfl⟩
          have HS : Hid _ := placeCells_snoc seed n k
          have HG : Hid _ := placeCells_get seed n k
          generalize placeCells seed n k = xs at *
          obtain ⟨p, Hp⟩ : ∃ p, Hid (place seed n k = p) := ⟨_, (rfl : _ = _)⟩
          rw [Hp.out] at hpl HIn HS ⊢
          have hbel2 : Below w.heap.size w (wr.drewN n2) := below_drewN hbel _
          have hown2 : (wr.drewN n2).ownsRow w.heap.size 57 1 _ k xs := hown
          generalize wr.drewN n2 = w2 at *
          obtain ⟨aS, cS, rfl, hcS1, hcS2, HRd⟩ := own_read hown2
          unfold maxLen at hcS2
          have HR : Hid _ := HRd
          have HO : Hid (w2.ownsRow w.heap.size 57 1 (.slice aS k cS) k xs) := hown2
          clear HRd hown hown2
          go_wp2_with fail
          go_loopw [19] (fun j wq => ∃ m : Nat, m ≤ k ∧ j = .int .i64 m ∧ wq = w2) (fun j _ => k - (intOf j).toNat)
          case atStart => exact ⟨0, by omega, rfl, rfl⟩
          case round =>
            obtain ⟨m, hmk, rfl, rfl⟩ := hrel
            by_cases hml : m < k
            · obtain ⟨g, rfl, hgb, hgl, hgc⟩ := HR.out (by omega)
              have hc := (hgc m (by omega)).trans (HG.out m hml)
              have hne := HIn.out m hml
              generalize place seed n m = z at *
              have hzb : ((z : Int) == (p : Int)) = false := by simp; omega
              clear hgc
              go_wp2
              go_roundw
              case rel => exact ⟨m + 1, by omega, by go_num, trivial⟩
              case measure => simp [intOf]; omega
            · obtain rfl : m = k := by omega
              have hzs := hbel2.size
              have hoo : wr.ownsRow w.heap.size 57 1 (.slice aS m cS) m xs := HO.out
              go_wp2_with (at_builtin; refine wpList_append_own _ rfl (.tmp 89) (.tmp 91) 67 rfl w.heap.size 57 i0 (.int .u32 0) 1 4 Try.underlying67 hi hz0 hz1 hz2 rfl (by decide) _ _ _ rfl (hoo.alloc _) ⟨wr.heap.size, 0, none⟩ 1 1 [.int .u32 p] rfl rfl (news_at _ _ rfl _ _ _ rfl) (oneCell_nums _ rfl) (by unfold maxLen; omega) (by omega) (by simp; omega) ?_; intro v' w3 ho3 hgr hxx; clear hxx)
              go_roundw
              case rel =>
                refine ⟨m + 1, by omega, by omega, by go_num, ?_, (hbel2.alloc hzs _).grown hgr (by simp; omega) (fun j hj => (hoo.lt j hj).1)⟩
                rw [HS.out]; exact ho3
              case measure => simp [intOf]; omega
        · go_wp2
          all_goals go_ret
          all_goals exact ⟨rfl, hbel⟩

set_option maxRecDepth 100000 in
theorem turned_lifted (os : Os) (started : os.Started) (H : Type) (enc : TypeId × Value → H) :
    ReturnsInHanded {} Try.checked os 8 .any (Rows.turnedSpec.pre6 enc Try.prog Try.f8 Rows.turnedRow.domain false) (Rows.turnedSpec.post enc Try.prog Try.f8 false true false false) := by
  refine returnsInHanded_of_change (C := Try.checked) own started (by kernel_rfl) Try.func8
    (ChangeSpec.witness6 (enc := enc) (C := Try.checked) false ⟨#[], #[.int .u64 0, .int .i64 0, .int .i64 0], []⟩ 8 (by kernel_rfl) (by kernel_rfl) (by kernel_rfl) (by kernel_rfl)) ?_
  intro W base args ds gs before hval0 hW hcnd _
  have hval : ∀ (j : Nat) t v, Try.f8.params[j]? = some t → args[j]? = some v → Value.okWide Try.prog W .any base t v := hval0
  have hW' := hW
  obtain ⟨p, q, hA0, hV, rfl, hfz, hnd⟩ := hW
  have hA : DataW.TrodAll enc Try.prog W 0 (fun _ => true) true Try.f8.params.toList args.toList ds p := hA0
  rw [Try.params8] at hA hval
  obtain ⟨v0, vs0, d0, ds0, p0, q0, hargs, rfl, rfl, h0, r0⟩ := trodAll_cons hA
  obtain ⟨v1, vs1, d1, ds1, p1, q1, rfl, rfl, rfl, h1, r1⟩ := trodAll_cons r0
  obtain ⟨v2, vs2, d2, ds2, p2, q2, rfl, rfl, rfl, h2, r2⟩ := trodAll_cons r1
  obtain ⟨rfl, rfl, rfl⟩ := trodAll_nil r2
  obtain rfl : args = #[v0, v1, v2] := by cases args; simp_all
  obtain ⟨rfl, rfl⟩ := trodVars_none hV
  obtain ⟨n0, rfl, rfl, rfl, wf0⟩ := open_int Try.underlying56 (hval 0 56 v0 rfl rfl) h0
  obtain ⟨n1, rfl, rfl, rfl, wf1⟩ := open_int Try.underlying3 (hval 1 3 v1 rfl rfl) h1
  obtain ⟨n2, rfl, rfl, rfl, wf2⟩ := open_int Try.underlying3 (hval 2 3 v2 rfl rfl) h2
  clear hA0 hval0
  have b0 := bounds_u64 wf0
  have b1 := bounds_i64 wf1
  have b2 := bounds_i64 wf2
  obtain ⟨m0, rfl⟩ := Int.eq_ofNat_of_zero_le b0.1
  refine (turned_walk m0 n1 n2 (by show m0 < _; omega) (by omega) (by omega) (by omega) (by omega) W).mono fun e W' ⟨he, bel⟩ => ?_
  subst he
  exact ⟨_, rfl, _, _, _, [], _, [], hW', trodAll_mk1 (shut_bool Try.underlying4 _), (trodAll_cons_mk (shut_int Try.underlying56 wf0) (trodAll_cons_mk (shut_int Try.underlying3 wf1) (trodAll_cons_mk (shut_int Try.underlying3 wf2) trodAll_mk0))), rfl, bel.frame _, fun h => by cases h⟩

theorem turned_over : Rows.turnedRow.holds Try.pinned (OpenSpec.ofChange Rows.turnedSpec) :=
  OpenClaim.holds_of_wide 8 Try.f8 rfl rfl rfl rfl rfl rfl rfl ⟨rfl, rfl, rfl, rfl, rfl⟩ rfl rfl rfl rfl rfl (by kernel_rfl) Try.func8 (by kernel_rfl)
    (of_decide_eq_true (by kernel_rfl)) (by unfold Func.isWrapper; first | (rw [if_pos (by decide +kernel)]; kernel_rfl) | (rw [if_neg (by decide +kernel)]; exact ⟨rfl, rfl⟩))
    (fun os started H enc _ => turned_lifted os started H enc)

theorem turned_holds : Rows.TurnedSaid := turned_over
#print axioms turned_holds
end Go.Proofs.Ytfpodnleimhohaa
