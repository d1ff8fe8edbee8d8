/-
  WALKS: what was kept is looked at.
-/
import Derived.Test.YtfpodnleimhohaaWalksF
namespace Go.Proofs.Ytfpodnleimhohaa
open Go.RowKit
set_option linter.unusedVariables false

set_option maxRecDepth 4000 in
set_option maxHeartbeats 1000000 in
theorem fullRecords_any (base p : Nat) (v : Value) (m : Int) (w : World) (h : Full w base 52 (mkR m) v p) (hp : p ≤ 10000) :
    Calls Try.prog 65 #[v, .int .i64 m] w fun e w' => e = .returned (.bool true) ∧ w' = w := by
  obtain ⟨a, c, rfl, h1, h2, HRd⟩ := own_read h
  unfold maxLen at h2
  have HR : Hid _ := HRd
  clear HRd h
  go_enter Try.func65, Try.ntmps65
  go_wp2
  go_loop [5] (fun i => ∃ k : Nat, k ≤ p ∧ i = .int .i64 k) (fun i => p - (intOf i).toNat)
  case atStart => exact ⟨0, by omega, rfl⟩
  case round =>
    obtain ⟨k, hk, rfl⟩ := hrel
    by_cases hlt : k < p
    · obtain ⟨g, rfl, _, _, hg⟩ := HR.out (by omega)
      have q : ∀ j, j < 4 → w.cell? ⟨g, k * 4 + j, none⟩ = (mkR m)[j]? := fun j hj => (hg (k * 4 + j) (by show k * 4 + j < p * 4; omega)).trans (fills_get (mkR m) p k j hlt hj)
      have q0 := q 0 (by omega)
      have q1 := q 1 (by omega)
      have q2 := q 2 (by omega)
      have q3 := q 3 (by omega)
      simp only [mkR, List.getElem?_cons_zero, List.getElem?_cons_succ, Nat.add_zero] at q0 q1 q2 q3
      clear q hg
      go_wp2
      go_round
      case rel => exact ⟨k + 1, by omega, by go_num⟩
      case measure => simp [intOf]; omega
    · go_wp2
      go_ret
      exact ⟨rfl, rfl⟩

set_option maxRecDepth 4000 in
set_option maxHeartbeats 1000000 in
theorem fullGaps_any (base p : Nat) (v : Value) (m : Int) (w : World) (h : Full w base 50 (mkG m) v p) (hp : p ≤ 10000) :
    Calls Try.prog 66 #[v, .int .i64 m] w fun e w' => e = .returned (.bool true) ∧ w' = w := by
  obtain ⟨a, c, rfl, h1, h2, HRd⟩ := own_read h
  unfold maxLen at h2
  have HR : Hid _ := HRd
  clear HRd h
  go_enter Try.func66, Try.ntmps66
  go_wp2
  go_loop [5] (fun i => ∃ k : Nat, k ≤ p ∧ i = .int .i64 k) (fun i => p - (intOf i).toNat)
  case atStart => exact ⟨0, by omega, rfl⟩
  case round =>
    obtain ⟨k, hk, rfl⟩ := hrel
    by_cases hlt : k < p
    · obtain ⟨g, rfl, _, _, hg⟩ := HR.out (by omega)
      have q : ∀ j, j < 2 → w.cell? ⟨g, k * 2 + j, none⟩ = (mkG m)[j]? := fun j hj => (hg (k * 2 + j) (by show k * 2 + j < p * 2; omega)).trans (fills_get (mkG m) p k j hlt hj)
      have q0 := q 0 (by omega)
      have q1 := q 1 (by omega)
      simp only [mkG, List.getElem?_cons_zero, List.getElem?_cons_succ, Nat.add_zero] at q0 q1
      clear q hg
      go_wp2
      go_round
      case rel => exact ⟨k + 1, by omega, by go_num⟩
      case measure => simp [intOf]; omega
    · go_wp2
      go_ret
      exact ⟨rfl, rfl⟩

/-- A list that was kept: itself, the three that are longer, its mark, its length. -/
structure Ent where
  l : Value
  a : Value
  b : Value
  c : Value
  m : Int
  n : Nat
def entCells (x : Ent) : List Value := [x.l, x.a, x.b, x.c, .int .i64 x.m]
def entsCells (l : List Ent) : List Value := l.flatMap entCells
theorem entsCells_snoc (l : List Ent) (x : Ent) : entsCells (l ++ [x]) = entsCells l ++ entCells x := by simp [entsCells]
theorem ent_get {l : List Ent} {k : Nat} {x : Ent} (h : l[k]? = some x) : (entsCells l)[k * 5]? = some x.l ∧ (entsCells l)[k * 5 + 1]? = some x.a ∧ (entsCells l)[k * 5 + 2]? = some x.b ∧ (entsCells l)[k * 5 + 3]? = some x.c ∧ (entsCells l)[k * 5 + 4]? = some (.int .i64 x.m) := by
  have f := flat_get entCells 5 (fun _ => rfl) l k x h
  exact ⟨f 0 (by omega), f 1 (by omega), f 2 (by omega), f 3 (by omega), f 4 (by omega)⟩
/-- It reads as its owner wrote it. -/
structure EntIs (w : World) (base e : Nat) (mk : Int → List Value) (x : Ent) : Prop where
  l : Full w base e (mk x.m) x.l x.n
  a : Full w base e (mk x.m) x.a (x.n + 1)
  b : Full w base e (mk x.m) x.b (x.n + 2)
  c : Full w base e (mk x.m) x.c (x.n + 3)
  n : x.n ≤ 1000
theorem EntIs.later {w w' : World} {base e : Nat} {mk : Int → List Value} {x : Ent} (h : EntIs w base e mk x) (hb : Below w.heap.size w w') : EntIs w' base e mk x :=
  ⟨ownsRow_below h.l hb, ownsRow_below h.a hb, ownsRow_below h.b hb, ownsRow_below h.c hb, h.n⟩

set_option maxRecDepth 100000 in
set_option maxHeartbeats 4000000 in
theorem looks_any (g o : Nat) (aI : Option Addr) (cI : Nat) (aW : Option Addr) (cW : Nat) (aR : Option Addr) (cR : Nat) (aG : Option Addr) (cG : Nat) (base : Nat) (ER EG : List Ent) (w : World)
    (hB : BookAt w g o 0 0 ER.length EG.length aI cI aW cW aR cR aG cG) (hR : w.ownsRow base 123 5 (.slice aR ER.length cR) ER.length (entsCells ER)) (hG : w.ownsRow base 125 5 (.slice aG EG.length cG) EG.length (entsCells EG))
    (hER : ∀ x ∈ ER, EntIs w base 52 mkR x) (hEG : ∀ x ∈ EG, EntIs w base 50 mkG x) (hg : g < w.heap.size) (h1 : ER.length ≤ 100000000) (h2 : EG.length ≤ 100000000) :
    Calls Try.prog 46 #[.pointer (some ⟨g, o, none⟩)] w fun e w' => e = .returned (.bool true) ∧ Below w.heap.size w w' := by
  have HB : Hid _ := hB
  have HER : Hid _ := hER
  have HEG : Hid _ := hEG
  obtain ⟨_, _, hv1, hR1, hR2, HRr⟩ := own_read hR
  simp at hv1
  obtain ⟨rfl, rfl⟩ := hv1
  obtain ⟨_, _, hv2, hG1, hG2, HGg⟩ := own_read hG
  simp at hv2
  obtain ⟨rfl, rfl⟩ := hv2
  have HR : Hid _ := HRr
  have HG : Hid _ := HGg
  unfold maxLen at hR2 hG2
  have c0 := hB.c0
  have c1 := hB.c1
  clear hER hEG HRr HGg hR hG hB
  go_enter Try.func46, Try.ntmps46
  go_wp2
  refine wp_loop_rounds 1 ?_
  rw [rounds_succ]
  go_wp2
  refine wp_loop_rounds 1 ?_
  rw [rounds_succ]
  go_wp2
  go_loopw [7] (fun i wr => ∃ k : Nat, k ≤ ER.length ∧ i = .int .i64 k ∧ Below w.heap.size w wr) (fun i _ => ER.length - (intOf i).toNat)
  case atStart => exact ⟨0, by omega, rfl, Below.refl _ _⟩
  case round =>
    obtain ⟨k, hk, rfl, hbr⟩ := hrel
    have d2 := (hbr.cell (p := ⟨g, o + 2, none⟩) hg).trans HB.out.c2
    have d3 := (hbr.cell (p := ⟨g, o + 3, none⟩) hg).trans HB.out.c3
    by_cases hlt : k < ER.length
    · obtain ⟨gr, rfl, _, hgl, hgc⟩ := HR.out (by omega)
      obtain ⟨q0, q1, q2, q3, q4⟩ := ent_get (List.getElem?_eq_getElem hlt)
      have hE := HER.out _ (List.getElem_mem hlt)
      have e0 := ((hbr.cell (p := ⟨gr, k * 5, none⟩) hgl).trans (hgc _ (by omega))).trans q0
      have e1 := ((hbr.cell (p := ⟨gr, k * 5 + 1, none⟩) hgl).trans (hgc _ (by omega))).trans q1
      have e2 := ((hbr.cell (p := ⟨gr, k * 5 + 2, none⟩) hgl).trans (hgc _ (by omega))).trans q2
      have e3 := ((hbr.cell (p := ⟨gr, k * 5 + 3, none⟩) hgl).trans (hgc _ (by omega))).trans q3
      have e4 := ((hbr.cell (p := ⟨gr, k * 5 + 4, none⟩) hgl).trans (hgc _ (by omega))).trans q4
      clear q0 q1 q2 q3 q4 hgc
      generalize (ER[k]'hlt) = x at *
      have HE2 : Hid (EntIs wr base 52 mkR x) := EntIs.later hE hbr
      obtain ⟨l, a, b, c, m, n⟩ := x
      obtain ⟨al, cl, hl, _, _, _⟩ := own_read hE.l
      obtain ⟨aa, ca, ha, _, _, _⟩ := own_read hE.a
      obtain ⟨ab, cb, hb, _, _, _⟩ := own_read hE.b
      obtain ⟨ac, cc, hc, _, _, _⟩ := own_read hE.c
      simp only at hl ha hb hc e0 e1 e2 e3 e4
      subst hl ha hb hc
      have hnb : n ≤ 1000 := hE.n
      clear hE
      have hki : (k : Int) < (ER.length : Int) := by omega
      go_wp2_with fail
      refine (fullRecords_any base n _ m _ (World.ownsRow.alloc HE2.out.l _) (by omega)).mono ?_
      rintro e w' ⟨rfl, hw⟩
      subst hw
      go_wp2_with fail
      refine (fullRecords_any base (n + 1) _ m _ (World.ownsRow.alloc HE2.out.a _) (by omega)).mono ?_
      rintro e w' ⟨rfl, hw⟩
      subst hw
      go_wp2_with fail
      refine (fullRecords_any base (n + 2) _ m _ (World.ownsRow.alloc HE2.out.b _) (by omega)).mono ?_
      rintro e w' ⟨rfl, hw⟩
      subst hw
      go_wp2_with fail
      refine (fullRecords_any base (n + 3) _ m _ (World.ownsRow.alloc HE2.out.c _) (by omega)).mono ?_
      rintro e w' ⟨rfl, hw⟩
      subst hw
      go_wp2
      go_roundw
      case rel => exact ⟨k + 1, by omega, by go_num, hbr.alloc hbr.size _⟩
      case measure => simp [intOf]; omega
    · go_wp2
      go_loopw [9] (fun i wr => ∃ k : Nat, k ≤ EG.length ∧ i = .int .i64 k ∧ Below w.heap.size w wr) (fun i _ => EG.length - (intOf i).toNat)
      case atStart => exact ⟨0, by omega, rfl, hbr⟩
      case round =>
        obtain ⟨k, hk, rfl, hbr⟩ := hrel
        have d2 := (hbr.cell (p := ⟨g, o + 2, none⟩) hg).trans HB.out.c2
        have d3 := (hbr.cell (p := ⟨g, o + 3, none⟩) hg).trans HB.out.c3
        by_cases hlt : k < EG.length
        · obtain ⟨gr, rfl, _, hgl, hgc⟩ := HG.out (by omega)
          obtain ⟨q0, q1, q2, q3, q4⟩ := ent_get (List.getElem?_eq_getElem hlt)
          have hE := HEG.out _ (List.getElem_mem hlt)
          have e0 := ((hbr.cell (p := ⟨gr, k * 5, none⟩) hgl).trans (hgc _ (by omega))).trans q0
          have e1 := ((hbr.cell (p := ⟨gr, k * 5 + 1, none⟩) hgl).trans (hgc _ (by omega))).trans q1
          have e2 := ((hbr.cell (p := ⟨gr, k * 5 + 2, none⟩) hgl).trans (hgc _ (by omega))).trans q2
          have e3 := ((hbr.cell (p := ⟨gr, k * 5 + 3, none⟩) hgl).trans (hgc _ (by omega))).trans q3
          have e4 := ((hbr.cell (p := ⟨gr, k * 5 + 4, none⟩) hgl).trans (hgc _ (by omega))).trans q4
          clear q0 q1 q2 q3 q4 hgc
          generalize (EG[k]'hlt) = x at *
          have HE2 : Hid (EntIs wr base 50 mkG x) := EntIs.later hE hbr
          obtain ⟨l, a, b, c, m, n⟩ := x
          obtain ⟨al, cl, hl, _, _, _⟩ := own_read hE.l
          obtain ⟨aa, ca, ha, _, _, _⟩ := own_read hE.a
          obtain ⟨ab, cb, hb, _, _, _⟩ := own_read hE.b
          obtain ⟨ac, cc, hc, _, _, _⟩ := own_read hE.c
          simp only at hl ha hb hc e0 e1 e2 e3 e4
          subst hl ha hb hc
          have hnb : n ≤ 1000 := hE.n
          clear hE
          have hki : (k : Int) < (EG.length : Int) := by omega
          go_wp2_with fail
          refine (fullGaps_any base n _ m _ (World.ownsRow.alloc HE2.out.l _) (by omega)).mono ?_
          rintro e w' ⟨rfl, hw⟩
          subst hw
          go_wp2_with fail
          refine (fullGaps_any base (n + 1) _ m _ (World.ownsRow.alloc HE2.out.a _) (by omega)).mono ?_
          rintro e w' ⟨rfl, hw⟩
          subst hw
          go_wp2_with fail
          refine (fullGaps_any base (n + 2) _ m _ (World.ownsRow.alloc HE2.out.b _) (by omega)).mono ?_
          rintro e w' ⟨rfl, hw⟩
          subst hw
          go_wp2_with fail
          refine (fullGaps_any base (n + 3) _ m _ (World.ownsRow.alloc HE2.out.c _) (by omega)).mono ?_
          rintro e w' ⟨rfl, hw⟩
          subst hw
          go_wp2
          go_roundw
          case rel => exact ⟨k + 1, by omega, by go_num, hbr.alloc hbr.size _⟩
          case measure => simp [intOf]; omega
        · go_wp2
          go_ret
          exact ⟨rfl, hbr⟩

end Go.Proofs.Ytfpodnleimhohaa
