/-
  THE STATEMENT 'Frames': the walk of the law, and its row.
-/
import Derived.Test.YtjokckpieemggaaWalks3
import Derived.ProofKit
import Derived.ShutString
import Derived.ChangeOld
import Derived.Below
import Derived.Deep.SlicePairs
namespace Go.Proofs.Ytjokckpieemggaa
open Go.ChangeShapes Go.WideShapes Go.ChangeAt Go.RowKit
open Go.ChangeMaps (open_string shut_string)
set_option linter.unusedVariables false

set_option maxHeartbeats 400000 in
theorem frames_walk (a : Option Addr) (len cap : Nat) (L : Nat → Int) (T : Nat → ByteArray) (w : World) (hx : IsExs w a len cap L T) :
    Calls Try.prog 3 #[.slice a len cap] w fun e w' => e = .returned (.bool true) ∧ Below w.heap.size w w' := by
  rcases hx with rfl | ⟨b, off, rfl, hlen, hcap, hb, h⟩
  · go_enter Try.func3, Try.ntmps3
    go_wp2
    refine wp_loop_rounds 1 ?_
    rw [rounds_succ]
    go_wp2
    go_ret
    exact ⟨rfl, Below.refl _ _⟩
  · unfold maxLen at hcap
    have H : Hid _ := h
    clear h
    go_enter Try.func3, Try.ntmps3
    go_wp2
    go_loopw [3] (fun i wr => ∃ k : Nat, k ≤ len ∧ i = .int .i64 k ∧ Below w.heap.size w wr) (fun i _ => len - (intOf i).toNat)
    case atStart => exact ⟨0, Nat.zero_le _, rfl, Below.refl _ _⟩
    case round =>
      obtain ⟨k, hk, rfl, hbel⟩ := hrel
      by_cases hlt : k < len
      · obtain ⟨c0, c1, l0, l1, tz⟩ := H.out k hlt
        have C : Hid (w.cell? ⟨b, off + k * 2, none⟩ = some (.int .u8 (L k)) ∧ w.cell? ⟨b, off + k * 2 + 1, none⟩ = some (.string (T k))) := ⟨c0, c1⟩
        have d0 := (hbel.cell (by exact hb)).trans c0
        have d1 := (hbel.cell (by exact hb)).trans c1
        clear c0 c1
        go_wp2_with fail
        refine (drillFrame_any _ _ l0 l1 tz _).mono ?_
        rintro e w1 ⟨rfl, hb1⟩
        clear d0 d1
        have hbel1 := hbel.trans (hb1.mono hbel.size)
        have d0 := (hbel1.cell (by exact hb)).trans C.out.1
        have d1 := (hbel1.cell (by exact hb)).trans C.out.2
        go_wp2_with fail
        refine (refFrame_any _ _ l0 l1 tz _).mono ?_
        rintro e w2 ⟨rfl, hb2⟩
        clear d0 d1
        generalize (frameAns (L k) (T k)).1 = X
        generalize (frameAns (L k) (T k)).2 = N
        go_wp2
        go_roundw
        case rel => exact ⟨k + 1, by omega, by go_num, hbel1.trans (hb2.mono hbel1.size)⟩
        case measure => simp [intOf]; omega
      · go_wp2
        go_ret
        exact ⟨rfl, hbel⟩

theorem own : ownKnob Try.prog.godebug = none := by kernel_rfl
theorem laidOut : laidOutB Try.prog = true := by kernel_rfl

/-- An argument of the type []api.Example, opened. -/
theorem open_exs {H : Type} {enc : TypeId × Value → H} {W : World} {base : Nat} {spare : Nat → Bool} {held : Bool} {fuel : Nat} {a : Option Addr} {len cap : Nat} {x : DataW H × List MemPlace}
    (h : DataW.trod enc Try.prog W base spare held fuel 22 [.slice a len cap] = some x) : ∃ L T, IsExs W a len cap L T := by
  rcases Go.Deep.open_slice_pairs (P := Try.prog) Try.underlying22 Try.underlying27 (by kernel_rfl) rfl rfl (by kernel_rfl) (by kernel_rfl) h with ⟨hcs, _⟩ | ⟨x, l, c, m, n, V0, V1, D0, D1, P0, P1, hcs, hb, hl, hm, hmm, _, hc⟩
  · simp at hcs
    obtain ⟨rfl, rfl, rfl⟩ := hcs
    exact ⟨fun _ => 0, fun _ => ByteArray.empty, .inl rfl⟩
  · simp at hcs
    obtain ⟨rfl, rfl, rfl⟩ := hcs
    by_cases h0 : len = 0
    · exact ⟨fun _ => 0, fun _ => ByteArray.empty, .inl h0⟩
    have hlm : len ≤ m := by rw [hmm]; split <;> omega
    obtain ⟨b, off, spot⟩ := x
    have c0 := (hc 0 (by omega)).1
    have hspot : spot = none := by simpa [Addr.add] using World.cell?_spot c0
    subst hspot
    have hlt : b < W.heap.size := by simpa [Addr.add] using World.block_lt_of_cell? W _ c0
    have each : ∀ i, i < m → ∃ q : Int × ByteArray, W.cell? ⟨b, off + i * 2, none⟩ = some (.int .u8 q.1) ∧ W.cell? ⟨b, off + i * 2 + 1, none⟩ = some (.string q.2) ∧ 0 ≤ q.1 ∧ q.1 ≤ 255 ∧ q.2.size ≤ maxLen := by
      intro i hi
      obtain ⟨e0, e1, t0, t1⟩ := hc i hi
      rw [add_plain] at e0 e1
      obtain ⟨z, hz, _, wz⟩ := DataW.trod_int Try.underlying5 t0
      obtain ⟨s, hs, _, ws⟩ := DataW.trod_string Try.underlying9 t1
      simp at hz hs
      have bz := bounds_u8 wz
      exact ⟨(z, s), by simpa [hz] using e0, by simpa [hs, Nat.add_assoc] using e1, bz.1, bz.2, ws⟩
    obtain ⟨q, hq⟩ := Go.Deep.choose_lt each
    exact ⟨fun i => (q i).1, fun i => (q i).2, .inr ⟨b, off, rfl, hl, hm, hlt, fun i hi => hq i (by omega)⟩⟩

set_option maxRecDepth 100000 in
theorem frames_lifted (os : Os) (started : os.Started) (H : Type) (enc : TypeId × Value → H) :
    ReturnsInHanded {} Try.checked os 3 .any (Rows.framesSpec.pre6 enc Try.prog Try.f3 Rows.framesRow.domain false) (Rows.framesSpec.post enc Try.prog Try.f3 false true false false) := by
  refine returnsInHanded_of_change (C := Try.checked) own started (by kernel_rfl) Try.func3
    (ChangeSpec.witness6 (enc := enc) (C := Try.checked) false ⟨#[], #[.slice none 0 0], []⟩ 8 (by kernel_rfl) (by kernel_rfl) (by kernel_rfl) (by kernel_rfl)) ?_
  intro W base args ds gs before hval0 hW hcnd _
  have hval : ∀ (j : Nat) t v, Try.f3.params[j]? = some t → args[j]? = some v → Value.okWide Try.prog W .any base t v := hval0
  have hW' := hW
  obtain ⟨p, q, hA0, hV, rfl, hfz, hnd⟩ := hW
  have hA : DataW.TrodAll enc Try.prog W 0 (fun _ => true) true Try.f3.params.toList args.toList ds p := hA0
  rw [Try.params3] at hA hval
  obtain ⟨v0, vs0, d0, ds0, p0, q0, hargs, rfl, rfl, h0, r0⟩ := trodAll_cons hA
  obtain ⟨rfl, rfl, rfl⟩ := trodAll_nil r0
  obtain rfl : args = #[v0] := by cases args; simp_all
  obtain ⟨rfl, rfl⟩ := trodVars_none hV
  obtain ⟨a0, len0, cap0, rfl⟩ := okWide_slice Try.underlying22 (hval 0 22 v0 rfl rfl)
  have k0 := h0
  have lt0 : ∀ x ∈ p0, x.block < W.heap.size := by obtain ⟨m, hm⟩ := k0; exact DataW.trod_lt m _ _ _ hm
  obtain ⟨L, T, hx⟩ : ∃ L T, IsExs W a0 len0 cap0 L T := by
    obtain ⟨fuel, hf⟩ := h0
    exact open_exs (by simpa [Value.cells] using hf)
  clear hA0 hval0
  refine (frames_walk a0 len0 cap0 L T W hx).mono fun e W' ⟨he, bel⟩ => ?_
  subst he
  exact ⟨_, rfl, _, _, _, [], _, [], hW', trodAll_mk1 (shut_bool Try.underlying4 _), (trodAll_cons_mk (Below.trod laidOut (by kernel_rfl) (of_decide_eq_true (by kernel_rfl)) k0 bel lt0) trodAll_mk0), rfl, bel.frame _, fun h => by cases h⟩

theorem frames_over : Rows.framesRow.holds Try.pinned (OpenSpec.ofChange Rows.framesSpec) :=
  OpenClaim.holds_of_wide 3 Try.f3 rfl rfl rfl rfl rfl rfl rfl ⟨rfl, rfl, rfl, rfl, rfl⟩ rfl rfl rfl rfl rfl (by kernel_rfl) Try.func3 (by kernel_rfl)
    (of_decide_eq_true (by kernel_rfl)) (by unfold Func.isWrapper; first | (rw [if_pos (by decide +kernel)]; kernel_rfl) | (rw [if_neg (by decide +kernel)]; exact ⟨rfl, rfl⟩))
    (fun os started H enc _ => frames_lifted os started H enc)

theorem frames_holds : Rows.FramesSaid := frames_over
#print axioms frames_holds
end Go.Proofs.Ytjokckpieemggaa
