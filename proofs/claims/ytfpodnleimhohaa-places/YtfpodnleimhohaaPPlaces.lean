/-
  THE STATEMENT 'Places': the walk of the law, and its row.
-/
import Derived.Test.YtfpodnleimhohaaWalksS
import Derived.Test.YtfpodnleimhohaaOpen
namespace Go.Proofs.Ytfpodnleimhohaa
open Go.ChangeShapes Go.WideShapes Go.ChangeAt Go.RowKit
set_option linter.unusedVariables false

/-- What a walk is told of a []Spot that came in. -/
def IsSpots (w : World) (a : Option Addr) (len cap : Nat) (S N I : Nat → Nat) : Prop :=
  len = 0 ∨ ∃ b off, a = some ⟨b, off, none⟩ ∧ len ≤ cap ∧ cap ≤ maxLen ∧ b < w.heap.size ∧
    ∀ i, i < len → (w.cell? ⟨b, off + i * 3, none⟩ = some (.int .u64 (S i)) ∧ w.cell? ⟨b, off + i * 3 + 1, none⟩ = some (.int .u32 (N i)) ∧ w.cell? ⟨b, off + i * 3 + 2, none⟩ = some (.int .u32 (I i))) ∧
      S i < 18446744073709551616 ∧ N i < 4294967296 ∧ I i < 4294967296

set_option maxRecDepth 100000 in
theorem open_spots {H : Type} {enc : TypeId × Value → H} {W : World} {base : Nat} {spare : Nat → Bool} {held : Bool} {fuel : Nat} {a : Option Addr} {len cap : Nat} {x : DataW H × List MemPlace}
    (h : DataW.trod enc Try.prog W base spare held fuel 55 [.slice a len cap] = some x) : ∃ S N I, IsSpots W a len cap S N I := by
  rcases Go.Deep.open_slice (P := Try.prog) Try.underlying55 h with ⟨hcs, _⟩ | ⟨x, l, c, m, n, D, Pl, hcs, hb, hl, hm, hmm, _, hx⟩
  · simp at hcs
    obtain ⟨rfl, rfl, rfl⟩ := hcs
    exact ⟨fun _ => 0, fun _ => 0, fun _ => 0, .inl rfl⟩
  · simp at hcs
    obtain ⟨rfl, rfl, rfl⟩ := hcs
    by_cases h0 : len = 0
    · exact ⟨fun _ => 0, fun _ => 0, fun _ => 0, .inl h0⟩
    have hlm : len ≤ m := by rw [hmm]; split <;> omega
    have each : ∀ i, i < m → ∃ q : Nat × Nat × Nat, (W.cell? (x.add (i * 3)) = some (.int .u64 q.1) ∧ W.cell? (x.add (i * 3 + 1)) = some (.int .u32 q.2.1) ∧ W.cell? (x.add (i * 3 + 2)) = some (.int .u32 q.2.2)) ∧ q.1 < 18446744073709551616 ∧ q.2.1 < 4294967296 ∧ q.2.2 < 4294967296 := by
      intro i hi
      obtain ⟨cs', h1, h2⟩ := hx i hi
      rw [show Try.prog.cellsOf 59 = 3 by kernel_rfl] at h1
      obtain ⟨_, hlen, hcell⟩ := World.cells?_some h1
      obtain ⟨xs, k, hk, hxy, _, hxl, hf⟩ := DataW.trod_struct Try.underlying59 h2
      match xs, hxl, cs', hlen with
      | [y0, y1, y2], _, [v0, v1, v2], _ =>
        have g0 := hf 0 _ rfl
        have g1 := hf 1 _ rfl
        have g2 := hf 2 _ rfl
        simp [show Try.prog.cellsOf 56 = 1 by kernel_rfl, show Try.prog.cellsOf 57 = 1 by kernel_rfl] at g0 g1 g2
        have e0 := hcell 0 (by omega)
        have e1 := hcell 1 (by omega)
        have e2 := hcell 2 (by omega)
        rw [Go.Deep.add_add] at e0 e1 e2
        obtain ⟨z0, hz0, _, wz0⟩ := DataW.trod_int Try.underlying56 g0
        obtain ⟨z1, hz1, _, wz1⟩ := DataW.trod_int Try.underlying57 g1
        obtain ⟨z2, hz2, _, wz2⟩ := DataW.trod_int Try.underlying57 g2
        simp at hz0 hz1 hz2
        have b0 := bounds_u64 wz0
        have b1 := bounds_u32 wz1
        have b2 := bounds_u32 wz2
        obtain ⟨q0, rfl⟩ := Int.eq_ofNat_of_zero_le b0.1
        obtain ⟨q1, rfl⟩ := Int.eq_ofNat_of_zero_le b1.1
        obtain ⟨q2, rfl⟩ := Int.eq_ofNat_of_zero_le b2.1
        exact ⟨(q0, q1, q2), ⟨by simpa [hz0] using e0, by simpa [hz1] using e1, by simpa [hz2] using e2⟩, by show q0 < _; omega, by show q1 < _; omega, by show q2 < _; omega⟩
    obtain ⟨q, hq⟩ := Go.Deep.choose_lt each
    obtain ⟨b, off, spot⟩ := x
    have c0 := (hq 0 (by omega)).1.1
    have hspot : spot = none := by simpa [Addr.add] using World.cell?_spot c0
    subst hspot
    have hlt : b < W.heap.size := by simpa [Addr.add] using World.block_lt_of_cell? W _ c0
    refine ⟨fun i => (q i).1, fun i => (q i).2.1, fun i => (q i).2.2, .inr ⟨b, off, rfl, hl, hm, hlt, fun i hi => ?_⟩⟩
    have := hq i (by omega)
    rw [add_plain, add_plain, add_plain] at this
    simpa [Nat.add_assoc] using this

set_option maxRecDepth 4000 in
set_option maxHeartbeats 1000000 in
theorem places_walk (a : Option Addr) (len cap : Nat) (S N I : Nat → Nat) (w : World) (hx : IsSpots w a len cap S N I) :
    Calls Try.prog 7 #[.slice a len cap] w fun e w' => e = .returned (.bool true) ∧ Below w.heap.size w w' := by
  rcases hx with rfl | ⟨b, off, rfl, hlen, hcap, hb, h⟩
  · go_enter Try.func7, Try.ntmps7
    go_wp2
    refine wp_loop_rounds 1 ?_
    rw [rounds_succ]
    go_wp2
    go_ret
    exact ⟨rfl, Below.refl _ _⟩
  · unfold maxLen at hcap
    have H : Hid _ := h
    clear h
    go_enter Try.func7, Try.ntmps7
    go_wp2
    go_loopw [3] (fun i wr => ∃ k : Nat, k ≤ len ∧ i = .int .i64 k ∧ Below w.heap.size w wr) (fun i _ => len - (intOf i).toNat)
    case atStart => exact ⟨0, Nat.zero_le _, rfl, Below.refl _ _⟩
    case round =>
      obtain ⟨k, hk, rfl, hbel⟩ := hrel
      by_cases hlt : k < len
      · obtain ⟨⟨c0, c1, c2⟩, s0, s1, s2⟩ := H.out k hlt
        have d0 := (hbel.cell (p := ⟨b, off + k * 3, none⟩) (by exact hb)).trans c0
        have d1 := (hbel.cell (p := ⟨b, off + k * 3 + 1, none⟩) (by exact hb)).trans c1
        have d2 := (hbel.cell (p := ⟨b, off + k * 3 + 2, none⟩) (by exact hb)).trans c2
        have HS0 : Hid _ := s0
        clear c0 c1 c2 s0
        generalize S k = s at *
        generalize N k = n at *
        generalize I k = i at *
        go_wp2_with fail
        refine (drillPlace_any s n i HS0 s1 s2 _).mono ?_
        rintro e w1 ⟨rfl, n1, rfl⟩
        go_wp2_with fail
        refine (refPlace_any s n i HS0 s1 s2 _).mono ?_
        rintro e w2 ⟨rfl, n2, rfl⟩
        generalize (placeAns s n i).1 = pa
        generalize (placeAns s n i).2 = pb
        go_wp2_with fail
        refine (drillBack_any s n i HS0 s1 s2 _).mono ?_
        rintro e w3 ⟨rfl, n3, rfl⟩
        go_wp2_with fail
        refine (refBack_any s n i HS0 s1 s2 _).mono ?_
        rintro e w4 ⟨rfl, n4, rfl⟩
        generalize (backAns s n i).1 = qa
        generalize (backAns s n i).2 = qb
        go_wp2
        go_roundw
        case rel => exact ⟨k + 1, by omega, by go_num, below_drewN (hbel.alloc hbel.size _) _⟩
        case measure => simp [intOf]; omega
      · go_wp2
        go_ret
        exact ⟨rfl, hbel⟩

set_option maxRecDepth 100000 in
theorem places_lifted (os : Os) (started : os.Started) (H : Type) (enc : TypeId × Value → H) :
    ReturnsInHanded {} Try.checked os 7 .any (Rows.placesSpec.pre6 enc Try.prog Try.f7 Rows.placesRow.domain false) (Rows.placesSpec.post enc Try.prog Try.f7 false true false false) := by
  refine returnsInHanded_of_change (C := Try.checked) own started (by kernel_rfl) Try.func7
    (ChangeSpec.witness6 (enc := enc) (C := Try.checked) false ⟨#[], #[.slice none 0 0], []⟩ 8 (by kernel_rfl) (by kernel_rfl) (by kernel_rfl) (by kernel_rfl)) ?_
  intro W base args ds gs before hval0 hW hcnd _
  have hval : ∀ (j : Nat) t v, Try.f7.params[j]? = some t → args[j]? = some v → Value.okWide Try.prog W .any base t v := hval0
  have hW' := hW
  obtain ⟨p, q, hA0, hV, rfl, hfz, hnd⟩ := hW
  have hA : DataW.TrodAll enc Try.prog W 0 (fun _ => true) true Try.f7.params.toList args.toList ds p := hA0
  rw [Try.params7] at hA hval
  obtain ⟨v0, vs0, d0, ds0, p0, q0, hargs, rfl, rfl, h0, r0⟩ := trodAll_cons hA
  obtain ⟨rfl, rfl, rfl⟩ := trodAll_nil r0
  obtain rfl : args = #[v0] := by cases args; simp_all
  obtain ⟨rfl, rfl⟩ := trodVars_none hV
  obtain ⟨a0, len0, cap0, rfl⟩ := okWide_slice Try.underlying55 (hval 0 55 v0 rfl rfl)
  have k0 := h0
  have lt0 : ∀ x ∈ p0, x.block < W.heap.size := by obtain ⟨m, hm⟩ := k0; exact DataW.trod_lt m _ _ _ hm
  obtain ⟨S, N, I, hx⟩ : ∃ S N I, IsSpots W a0 len0 cap0 S N I := by
    obtain ⟨fuel, hf⟩ := h0
    exact open_spots (by simpa [Value.cells] using hf)
  clear hA0 hval0
  refine (places_walk a0 len0 cap0 S N I W hx).mono fun e W' ⟨he, bel⟩ => ?_
  subst he
  exact ⟨_, rfl, _, _, _, [], _, [], hW', trodAll_mk1 (shut_bool Try.underlying4 _), (trodAll_cons_mk (Below.trod laidOut (by kernel_rfl) (of_decide_eq_true (by kernel_rfl)) k0 bel lt0) trodAll_mk0), rfl, bel.frame _, fun h => by cases h⟩

theorem places_over : Rows.placesRow.holds Try.pinned (OpenSpec.ofChange Rows.placesSpec) :=
  OpenClaim.holds_of_wide 7 Try.f7 rfl rfl rfl rfl rfl rfl rfl ⟨rfl, rfl, rfl, rfl, rfl⟩ rfl rfl rfl rfl rfl (by kernel_rfl) Try.func7 (by kernel_rfl)
    (of_decide_eq_true (by kernel_rfl)) (by unfold Func.isWrapper; first | (rw [if_pos (by decide +kernel)]; kernel_rfl) | (rw [if_neg (by decide +kernel)]; exact ⟨rfl, rfl⟩))
    (fun os started H enc _ => places_lifted os started H enc)

theorem places_holds : Rows.PlacesSaid := places_over
#print axioms places_holds
end Go.Proofs.Ytfpodnleimhohaa
