/-
  THE STATEMENT 'Frames': the walk of the law, and its row.
-/
import Derived.Test.YtfpodnleimhohaaOpen
namespace Go.Proofs.Ytfpodnleimhohaa
open Go.ChangeShapes Go.WideShapes Go.ChangeAt Go.RowKit
open Go.ChangeMaps (open_string shut_string)
set_option linter.unusedVariables false

set_option maxHeartbeats 400000 in
theorem frames_walk (a : Option Addr) (len cap : Nat) (L : Nat → Int) (T : Nat → ByteArray) (w : World) (hx : IsExs w a len cap L T) :
    Calls Try.prog 3 #[.slice a len cap] w fun e w' => e = .returned (.bool true) ∧ Below w.heap.size w w' := by
  rcases hx with rfl | ⟨b, off, rfl, hlen, hcap, hb, h⟩
  · go_enter Try.func3, Try.ntmps3
    go_wp2
    refine wp_loop_rounds 1 ?_
    rw [rounds_succ]
    go_wp2
    go_ret
    exact ⟨rfl, Below.refl _ _⟩
  · unfold maxLen at hcap
    have H : Hid _ := h
    clear h
    go_enter Try.func3, Try.ntmps3
    go_wp2
    go_loopw [3] (fun i wr => ∃ k : Nat, k ≤ len ∧ i = .int .i64 k ∧ Below w.heap.size w wr) (fun i _ => len - (intOf i).toNat)
    case atStart => exact ⟨0, Nat.zero_le _, rfl, Below.refl _ _⟩
    case round =>
      obtain ⟨k, hk, rfl, hbel⟩ := hrel
      by_cases hlt : k < len
      · obtain ⟨c0, c1, l0, l1, tz⟩ := H.out k hlt
        have C : Hid (w.cell? ⟨b, off + k * 2, none⟩ = some (.int .u8 (L k)) ∧ w.cell? ⟨b, off + k * 2 + 1, none⟩ = some (.string (T k))) := ⟨c0, c1⟩
        have d0 := (hbel.cell (by exact hb)).trans c0
        have d1 := (hbel.cell (by exact hb)).trans c1
        clear c0 c1
        go_wp2_with fail
        refine (drillFrame_any _ _ l0 l1 tz _).mono ?_
        rintro e w1 ⟨rfl, hb1⟩
        clear d0 d1
        have hbel1 := hbel.trans (hb1.mono hbel.size)
        have d0 := (hbel1.cell (by exact hb)).trans C.out.1
        have d1 := (hbel1.cell (by exact hb)).trans C.out.2
        go_wp2_with fail
        refine (refFrame_any _ _ l0 l1 tz _).mono ?_
        rintro e w2 ⟨rfl, hb2⟩
        clear d0 d1
        generalize (frameAns (L k) (T k)).1 = X
        generalize (frameAns (L k) (T k)).2 = N
        go_wp2
        go_roundw
        case rel => exact ⟨k + 1, by omega, by go_num, hbel1.trans (hb2.mono hbel1.size)⟩
        case measure => simp [intOf]; omega
      · go_wp2
        go_ret
        exact ⟨rfl, hbel⟩

set_option maxRecDepth 100000 in
theorem frames_lifted (os : Os) (started : os.Started) (H : Type) (enc : TypeId × Value → H) :
    ReturnsInHanded {} Try.checked os 3 .any (Rows.framesSpec.pre6 enc Try.prog Try.f3 Rows.framesRow.domain false) (Rows.framesSpec.post enc Try.prog Try.f3 false true false false) := by
  refine returnsInHanded_of_change (C := Try.checked) own started (by kernel_rfl) Try.func3
    (ChangeSpec.witness6 (enc := enc) (C := Try.checked) false ⟨#[], #[.slice none 0 0], []⟩ 8 (by kernel_rfl) (by kernel_rfl) (by kernel_rfl) (by kernel_rfl)) ?_
  intro W base args ds gs before hval0 hW hcnd _
  have hval : ∀ (j : Nat) t v, Try.f3.params[j]? = some t → args[j]? = some v → Value.okWide Try.prog W .any base t v := hval0
  have hW' := hW
  obtain ⟨p, q, hA0, hV, rfl, hfz, hnd⟩ := hW
  have hA : DataW.TrodAll enc Try.prog W 0 (fun _ => true) true Try.f3.params.toList args.toList ds p := hA0
  rw [Try.params3] at hA hval
  obtain ⟨v0, vs0, d0, ds0, p0, q0, hargs, rfl, rfl, h0, r0⟩ := trodAll_cons hA
  obtain ⟨rfl, rfl, rfl⟩ := trodAll_nil r0
  obtain rfl : args = #[v0] := by cases args; simp_all
  obtain ⟨rfl, rfl⟩ := trodVars_none hV
  obtain ⟨a0, len0, cap0, rfl⟩ := okWide_slice Try.underlying22 (hval 0 22 v0 rfl rfl)
  have k0 := h0
  have lt0 : ∀ x ∈ p0, x.block < W.heap.size := by obtain ⟨m, hm⟩ := k0; exact DataW.trod_lt m _ _ _ hm
  obtain ⟨L, T, hx⟩ : ∃ L T, IsExs W a0 len0 cap0 L T := by
    obtain ⟨fuel, hf⟩ := h0
    exact open_exs (by simpa [Value.cells] using hf)
  clear hA0 hval0
  refine (frames_walk a0 len0 cap0 L T W hx).mono fun e W' ⟨he, bel⟩ => ?_
  subst he
  exact ⟨_, rfl, _, _, _, [], _, [], hW', trodAll_mk1 (shut_bool Try.underlying4 _), (trodAll_cons_mk (Below.trod laidOut (by kernel_rfl) (of_decide_eq_true (by kernel_rfl)) k0 bel lt0) trodAll_mk0), rfl, bel.frame _, fun h => by cases h⟩

theorem frames_over : Rows.framesRow.holds Try.pinned (OpenSpec.ofChange Rows.framesSpec) :=
  OpenClaim.holds_of_wide 3 Try.f3 rfl rfl rfl rfl rfl rfl rfl ⟨rfl, rfl, rfl, rfl, rfl⟩ rfl rfl rfl rfl rfl (by kernel_rfl) Try.func3 (by kernel_rfl)
    (of_decide_eq_true (by kernel_rfl)) (by unfold Func.isWrapper; first | (rw [if_pos (by decide +kernel)]; kernel_rfl) | (rw [if_neg (by decide +kernel)]; exact ⟨rfl, rfl⟩))
    (fun os started H enc _ => frames_lifted os started H enc)

theorem frames_holds : Rows.FramesSaid := frames_over
#print axioms frames_holds
end Go.Proofs.Ytfpodnleimhohaa
