import Derived.Test.YtfpodnleimhohaaGreatDoorGD
/-
  WALKS: a list of numbers is kept.
-/
namespace Go.Proofs.YtfpodnleimhohaaGreatDoor
open Go.RowKit
set_option linter.unusedVariables false

/-- On the way: the new entry's block, the list full. -/
structure KS (w W : World) (base x0 : Nat) (mk : List Value) (e te : Nat) (vL : Value) (n : Nat) (xs : Array Value) : Prop where
  xb : W.heap[x0]? = some (.cells xs te (0, 0))
  full : Full W base e mk vL n
  sp : Spared w W (fun b => some b = vL.ownBlock)
  xw : w.heap.size ≤ x0
  vl : ∀ k, vL.ownBlock = some k → k < x0
theorem KS.step {w W w2 : World} {base x0 : Nat} {mk : List Value} {e te : Nat} {vL : Value} {n : Nat} {xs : Array Value} {T : Obj} {k : Nat} {v : Value} (s : KS w W base x0 mk e te vL n xs) (hne : e ≠ te) (i : Nat)
    (hg : (W.alloc T).grownBy w2 vL.ownBlock) (hst : ∀ o p, p ≤ n + k → Full (W.alloc T) base e mk o p → Full w2 base e mk o p) (hv : Full w2 base e mk v (n + k)) :
    KS w (w2.setCell ⟨x0, i, none⟩ v) base x0 mk e te vL n (xs.setIfInBounds i v) ∧ Full (w2.setCell ⟨x0, i, none⟩ v) base e mk v (n + k) ∧ (∀ o p, p ≤ n + k → Full W base e mk o p → Full (w2.setCell ⟨x0, i, none⟩ v) base e mk o p) := by
  have lx := lt_of_block s.xb
  have ax : (W.alloc T).heap[x0]? = some (.cells xs te (0, 0)) := (Below.heap_alloc W T x0 lx).trans s.xb
  have x2 : w2.heap[x0]? = some (.cells xs te (0, 0)) := (hg.block x0 (by simp; omega) (fun h => by have := s.vl x0 h.symm; omega)).trans ax
  have keep : ∀ o p, Full w2 base e mk o p → Full (w2.setCell ⟨x0, i, none⟩ v) base e mk o p := fun o p h =>
    ownsRow_setCell_other h (own_ne h x2 hne) v
  have all : ∀ o p, p ≤ n + k → Full W base e mk o p → Full (w2.setCell ⟨x0, i, none⟩ v) base e mk o p := fun o p hp h => keep o p (hst o p hp (World.ownsRow.alloc h T))
  refine ⟨⟨heap_setCell_same w2 x0 i xs te v x2, all vL n (by omega) s.full, ?_, s.xw, s.vl⟩, keep v _ hv, all⟩
  refine ((s.sp.trans (Spared.of_grown (World.grownBy_alloc W T vL.ownBlock)) (fun _ _ h => h)).trans (Spared.of_grown hg) (fun _ _ h => h)).trans (Spared.of_set w2 x0 i v) ?_
  intro j hj h
  have := s.xw
  omega
theorem KS.after {w W w2 : World} {base x0 : Nat} {mk : List Value} {e te : Nat} {vL : Value} {n : Nat} {xs : Array Value} {T : Obj} (s : KS w W base x0 mk e te vL n xs) (hg : (W.alloc T).grownBy w2 vL.ownBlock) :
    w2.heap[x0]? = some (.cells xs te (0, 0)) := by
  have lx := lt_of_block s.xb
  exact (hg.block x0 (by simp; omega) (fun h => by have := s.vl x0 h.symm; omega)).trans ((Below.heap_alloc W T x0 lx).trans s.xb)
theorem KS.xc {w W : World} {base x0 : Nat} {mk : List Value} {e te : Nat} {vL : Value} {n : Nat} {xs : Array Value} (s : KS w W base x0 mk e te vL n xs) (j : Nat) : W.cell? ⟨x0, j, none⟩ = xs[j]? ∧ W.frozen? ⟨x0, j, none⟩ = false := by
  constructor
  · simp [World.cell?, s.xb]
  · simp [World.frozen?, s.xb]
theorem fill_set1 (a : Value) (k : Nat) (xs : List Value) (h : k + 1 ≤ xs.length) : (fills [a] k ++ xs.drop k).set k a = fills [a] (k + 1) ++ xs.drop (k + 1) := by
  have hl : (fills [a] k).length = k := by rw [fills_length]; simp
  rw [List.set_append_right _ _ (by omega), hl, Nat.sub_self, fills_add, List.append_assoc, List.drop_eq_getElem_cons (show k < xs.length by omega)]
  rfl

def mkI (m : Int) : List Value := [.int .i64 m]
theorem info_intJ : (Tryz.prog.info? 3).map (fun i => (i.zero, i.size, i.bytes)) = some (some (.int .i64 0), 1, 8) := by kernel_rfl
theorem info_intE : (Tryz.prog.info? 83).map (fun i => (i.zero, i.size, i.bytes)) = some (some (.agg #[.slice none 0 0, .slice none 0 0, .slice none 0 0, .slice none 0 0, .int .i64 0]), 5, 104) := by kernel_rfl

set_option maxRecDepth 100000 in
set_option maxHeartbeats 2000000 in
theorem keepInts_any (g o nI nW nR nG : Nat) (aI : Option Addr) (cI : Nat) (aW : Option Addr) (cW : Nat) (aR : Option Addr) (cR : Nat) (aG : Option Addr) (cG : Nat) (base n : Nat) (vL : Value) (xs rc : List Value) (w : World)
    (hB : BookAt w g o nI nW nR nG aI cI aW cW aR cR aG cG) (hnum : nI ≤ 100000000 ∧ nW ≤ 100000000 ∧ nR ≤ 100000000 ∧ nG ≤ 100000000) (hgb : g < base) (hbw : base ≤ w.heap.size)
    (hL : w.ownsRow base 3 1 vL n xs) (hn : n ≤ 1000) (hRc : w.ownsRow base 83 5 (.slice aI nI cI) nI rc) :
    Calls Tryz.prog 22 #[.pointer (some ⟨g, o, none⟩), vL] w fun e w' => e = .returned (.tuple #[]) ∧ ∃ aI' cI' va vb vc, BookAt w' g o (nI + 1) nW nR nG aI' cI' aW cW aR cR aG cG ∧
      w'.ownsRow base 83 5 (.slice aI' (nI + 1) cI') (nI + 1) (rc ++ [vL, va, vb, vc, .int .i64 (-1000 - (nI : Int) - nW - nR - nG)]) ∧
      Full w' base 3 (mkI (-1000 - (nI : Int) - nW - nR - nG)) vL n ∧ Full w' base 3 (mkI (-1000 - (nI : Int) - nW - nR - nG)) va (n + 1) ∧ Full w' base 3 (mkI (-1000 - (nI : Int) - nW - nR - nG)) vb (n + 2) ∧ Full w' base 3 (mkI (-1000 - (nI : Int) - nW - nR - nG)) vc (n + 3) ∧
      Spared w w' (fun k => k = g ∨ some k = vL.ownBlock ∨ some k = Value.ownBlock (.slice aI nI cI)) ∧ (∃ (wz : World) (u : Value), w' = wz.setCell ⟨g, o, none⟩ u ∧ wz.heap[g]? = w.heap[g]?) := by
  obtain ⟨iR, hiR, hzR0, hzR1, hzR2⟩ := info_parts info_intJ
  obtain ⟨iE, hiE, hzE0, hzE1, hzE2⟩ := info_parts info_intE
  have HB : Hid _ := hB
  have HL : Hid _ := hL
  have HRc : Hid _ := hRc
  obtain ⟨aL, cL, rfl, hL1, hL2, _⟩ := own_read hL
  unfold maxLen at hL2
  clear hB hL hRc
  go_enter Tryz.func22, Tryz.ntmps22
  go_wp2_with fail
  refine (number_any g o nI nW nR nG aI cI aW cW aR cR aG cG _ HB.out hnum).mono ?_
  rintro e w1 ⟨rfl, hw⟩
  obtain ⟨hb1, hs1⟩ := below_of_drewN hw
  clear hw
  have HL1 : Hid (w1.ownsRow base 3 1 (.slice aL n cL) n xs) := ownsRow_below HL.out hb1
  have HB1 : Hid (BookAt w1 g o nI nW nR nG aI cI aW cW aR cR aG cG) := BookAt.below HB.out hb1 (by omega)
  have HRc1 : Hid (w1.ownsRow base 83 5 (.slice aI nI cI) nI rc) := ownsRow_below HRc.out hb1
  have Hsp1 : Hid (Below w.heap.size w w1 ∧ w1.heap.size = w.heap.size) := ⟨hb1, hs1⟩
  clear HL HB HRc hb1 hs1
  generalize hm0 : (-1000 - (nI : Int) - nW - nR - nG) = m
  have HM : Hid (-1000 - (nI : Int) - nW - nR - nG = m) := hm0
  clear hm0
  have hbw1 : base ≤ w1.heap.size := by have := Hsp1.out.2; omega
  clear hbw
  go_wp2
  go_loopw [5] (fun i wr => ∃ k : Nat, k ≤ n ∧ i = .int .i64 k ∧ Hid (wr.ownsRow base 3 1 (.slice aL n cL) n (fills (mkI m) k ++ xs.drop k) ∧ Spared w1 wr (fun b => some b = Value.ownBlock (.slice aL n cL)))) (fun i _ => n - (intOf i).toNat)
  case atStart => exact ⟨0, by omega, rfl, by simpa [fills] using HL1.out, Spared.refl _ _⟩
  case round =>
    obtain ⟨k, hk, rfl, HS⟩ := hrel
    by_cases hlt : k < n
    · obtain ⟨ho, hsp⟩ := HS.out
      obtain ⟨a', c', he, _, _, HRd⟩ := own_read ho
      simp at he
      obtain ⟨rfl, rfl⟩ := he
      obtain ⟨gL, rfl, hg1, hg2, hg3⟩ := HRd (by omega)
      have hxl := HL1.out.1
      have hll := ho.1
      have hgw : gL < w1.heap.size := (HL1.out.lt gL rfl).2
      obtain ⟨u0, d0⟩ : ∃ u, wr.cell? ⟨gL, k, none⟩ = some u := by
        rw [hg3 k (by omega)]
        exact ⟨_, List.getElem?_eq_getElem (by omega)⟩
      have f0 := ho.frozenAt k
      clear HRd hg3 ho hsp
      go_wp2
      go_roundw
      case rel =>
        obtain ⟨ho, hsp⟩ := HS.out
        have s0 := World.ownsRow.stored ho k (.int .i64 m)
        refine ⟨k + 1, by omega, by go_num, ?_, ?_⟩
        · have := fill_set1 (.int .i64 m) k xs (by omega)
          have h3 := s0.1
          rw [show fills (mkI m) k = fills [.int .i64 m] k from rfl, this] at h3
          exact h3
        · have q : ∀ W j u, Spared w1 W (fun b => some b = Value.ownBlock (.slice (some ⟨gL, 0, none⟩) n cL)) → Spared w1 (W.setCell ⟨gL, j, none⟩ u) (fun b => some b = Value.ownBlock (.slice (some ⟨gL, 0, none⟩) n cL)) := fun W j u h =>
            h.trans (Spared.of_set W gL j u) (fun i _ hi => by rw [hi]; rfl)
          exact q _ _ _ hsp
      case measure => simp [intOf]; omega
    · obtain rfl : k = n := by omega
      have HF : Hid (Full wr base 3 (mkI m) (.slice aL k cL) k) := by
        have := HS.out.1
        rw [List.drop_eq_nil_of_le (by rw [HL1.out.1]; omega), List.append_nil] at this
        exact this
      have hzr : w1.heap.size ≤ wr.heap.size := HS.out.2.size
      have K0 : KS w1 (wr.alloc (.cells #[.slice aL k cL, .slice none 0 0, .slice none 0 0, .slice none 0 0, .int .i64 m] 83)) base wr.heap.size (mkI m) 3 83 (.slice aL k cL) k #[.slice aL k cL, .slice none 0 0, .slice none 0 0, .slice none 0 0, .int .i64 m] :=
        ⟨heap_alloc_new wr _, World.ownsRow.alloc HF.out _, HS.out.2.trans (Spared.of_below ((Below.refl _ _).alloc (Nat.le_refl _) _) (fun _ => False)) (fun _ _ h => h.elim), hzr, fun j hj => Nat.lt_of_lt_of_le (HL1.out.lt j hj).2 hzr⟩
      have HK0 : Hid _ := K0
      clear K0 HS HF
      go_upto_region 6 with fail
      generalize hx0 : wr.heap.size = x0 at *
      have HX0 : Hid (wr.heap.size = x0) := hx0
      clear hx0
      go_cut [] (fun wc => ∃ va, Hid (KS w1 wc base x0 (mkI m) 3 83 (.slice aL k cL) k #[.slice aL k cL, va, .slice none 0 0, .slice none 0 0, .int .i64 m] ∧ Full wc base 3 (mkI m) va (k + 1)))
      case first =>
        have hz0 := HX0.out
        go_wp2_with (at_builtin; refine wpList_append_mark _ rfl (.tmp 22) (.tmp 24) 73 rfl base 3 iR (.int .i64 0) (mkI m) 8 Tryz.underlying73 hiR hzR0 hzR1 hzR2 rfl (Nat.succ_pos _) (oneCell_nums _ rfl) _ _ rfl (World.ownsRow.alloc HK0.out.full _) ⟨x0 + 1, 0, none⟩ 1 1 rfl (news_at _ _ (by first | rfl | (simp; omega)) _ _ _ rfl) (by unfold maxLen; omega) (by omega) (by simp; omega) ?_; intro v2 w2 hF2 hg2 hst2; obtain ⟨a2, c2, rfl, _, _, _⟩ := own_read hF2; have hx2 := KS.after HK0.out hg2; have x1 : w2.cell? ⟨x0, 1, none⟩ = some (.slice none 0 0) := (by simp [World.cell?, hx2]); have y1 : w2.frozen? ⟨x0, 1, none⟩ = false := (by simp [World.frozen?, hx2]))
        go_meet
        case rel =>
          have st := HK0.out.step (by decide) 1 hg2 hst2 hF2
          exact ⟨_, st.1, st.2.1⟩
      case rest =>
        obtain ⟨va, HH1⟩ := hcut
        have HK1 : Hid (KS w1 wc base x0 (mkI m) 3 83 (.slice aL k cL) k #[.slice aL k cL, va, .slice none 0 0, .slice none 0 0, .int .i64 m]) := HH1.out.1
        have HFa : Hid (Full wc base 3 (mkI m) va (k + 1)) := HH1.out.2
        clear HH1 HK0
        go_upto_region 7 with fail
        go_cut [] (fun wc => ∃ vb, Hid (KS w1 wc base x0 (mkI m) 3 83 (.slice aL k cL) k #[.slice aL k cL, va, vb, .slice none 0 0, .int .i64 m] ∧ Full wc base 3 (mkI m) va (k + 1) ∧ Full wc base 3 (mkI m) vb (k + 2)))
        case first =>
          have hrz := lt_of_block HK1.out.xb; have hxw := HK1.out.xw
          have hbz : base ≤ wc.heap.size := by omega
          go_wp2_with (at_builtin; refine wpList_append_mark _ rfl (.tmp 27) (.tmp 30) 73 rfl base 3 iR (.int .i64 0) (mkI m) 8 Tryz.underlying73 hiR hzR0 hzR1 hzR2 rfl (Nat.succ_pos _) (oneCell_nums _ rfl) _ _ rfl (World.ownsRow.alloc HK1.out.full _) ⟨wc.heap.size, 0, none⟩ 2 2 rfl (news_at _ _ (by first | rfl | (simp; omega)) _ _ _ rfl) (by unfold maxLen; omega) (by omega) (by simp; omega) ?_; intro v2 w2 hF2 hg2 hst2; obtain ⟨a2, c2, rfl, _, _, _⟩ := own_read hF2; have hx2 := KS.after HK1.out hg2; have x1 : w2.cell? ⟨x0, 2, none⟩ = some (.slice none 0 0) := (by simp [World.cell?, hx2]); have y1 : w2.frozen? ⟨x0, 2, none⟩ = false := (by simp [World.frozen?, hx2]))
          go_meet
          case rel =>
            have st := HK1.out.step (by decide) 2 hg2 hst2 hF2
            exact ⟨_, st.1, st.2.2 va (k + 1) (by omega) HFa.out, st.2.1⟩
        case rest =>
          obtain ⟨vb, HH2⟩ := hcut
          have HK2 : Hid (KS w1 wc base x0 (mkI m) 3 83 (.slice aL k cL) k #[.slice aL k cL, va, vb, .slice none 0 0, .int .i64 m]) := HH2.out.1
          have HFb : Hid (Full wc base 3 (mkI m) va (k + 1) ∧ Full wc base 3 (mkI m) vb (k + 2)) := HH2.out.2
          clear HH2 HK1 HFa
          go_upto_region 8 with fail
          go_cut [] (fun wc => ∃ vc, Hid (KS w1 wc base x0 (mkI m) 3 83 (.slice aL k cL) k #[.slice aL k cL, va, vb, vc, .int .i64 m] ∧ Full wc base 3 (mkI m) va (k + 1) ∧ Full wc base 3 (mkI m) vb (k + 2) ∧ Full wc base 3 (mkI m) vc (k + 3)))
          case first =>
            have hrz := lt_of_block HK2.out.xb; have hxw := HK2.out.xw
            have hbz : base ≤ wc.heap.size := by omega
            go_wp2_with (at_builtin; refine wpList_append_mark _ rfl (.tmp 33) (.tmp 37) 73 rfl base 3 iR (.int .i64 0) (mkI m) 8 Tryz.underlying73 hiR hzR0 hzR1 hzR2 rfl (Nat.succ_pos _) (oneCell_nums _ rfl) _ _ rfl (World.ownsRow.alloc HK2.out.full _) ⟨wc.heap.size, 0, none⟩ 3 3 rfl (news_at _ _ (by first | rfl | (simp; omega)) _ _ _ rfl) (by unfold maxLen; omega) (by omega) (by simp; omega) ?_; intro v2 w2 hF2 hg2 hst2; obtain ⟨a2, c2, rfl, _, _, _⟩ := own_read hF2; have hx2 := KS.after HK2.out hg2; have x1 : w2.cell? ⟨x0, 3, none⟩ = some (.slice none 0 0) := (by simp [World.cell?, hx2]); have y1 : w2.frozen? ⟨x0, 3, none⟩ = false := (by simp [World.frozen?, hx2]))
            go_meet
            case rel =>
              have st := HK2.out.step (by decide) 3 hg2 hst2 hF2
              exact ⟨_, st.1, st.2.2 va (k + 1) (by omega) HFb.out.1, st.2.2 vb (k + 2) (by omega) HFb.out.2, st.2.1⟩
          case rest =>
            obtain ⟨vc, HH3⟩ := hcut
            have HK3 : Hid (KS w1 wc base x0 (mkI m) 3 83 (.slice aL k cL) k #[.slice aL k cL, va, vb, vc, .int .i64 m]) := HH3.out.1
            have HFc : Hid (Full wc base 3 (mkI m) va (k + 1) ∧ Full wc base 3 (mkI m) vb (k + 2) ∧ Full wc base 3 (mkI m) vc (k + 3)) := HH3.out.2
            clear HH3 HK2 HFb
            go_upto_region 9 with fail
            have hsp := HK3.out.sp
            have hvl := HL1.out.lt
            have hgne : ¬ (some g = Value.ownBlock (.slice aL k cL)) := fun h => by have := (hvl g h.symm).1; omega
            have hgw : g < w1.heap.size := by omega
            have HBc : Hid (BookAt wc g o nI nW nR nG aI cI aW cW aR cR aG cG) := BookAt.kept HB1.out (hsp.block g hgw hgne)
            have HRcc : Hid (wc.ownsRow base 83 5 (.slice aI nI cI) nI rc) := ownsRow_spared HRc1.out hsp (fun j hj hs => by
              obtain ⟨cu, hh⟩ := own_tag HRc1.out hj
              exact own_ne HL1.out hh (by decide) hs.symm)
            obtain ⟨aa, ca, rfl, _, _, _⟩ := own_read HFc.out.1
            obtain ⟨ab, cb, rfl, _, _, _⟩ := own_read HFc.out.2.1
            obtain ⟨ac, cc, rfl, _, _, _⟩ := own_read HFc.out.2.2
            have c2 := HBc.out.c0
            have f2 := HBc.out.f0
            have x0c := (HK3.out.xc 0).1
            have x1c := (HK3.out.xc 1).1
            have x2c := (HK3.out.xc 2).1
            have x3c := (HK3.out.xc 3).1
            have x4c := (HK3.out.xc 4).1
            simp at x0c x1c x2c x3c x4c
            have hxz := lt_of_block HK3.out.xb
            have hgz : g < wc.heap.size := by have := hsp.size; omega
            have hbz : base ≤ wc.heap.size := by have := hsp.size; omega
            have HrowG : Hid (∀ j, Value.ownBlock (.slice aI nI cI) = some j → base ≤ j) := fun j hj => (HRcc.out.lt j hj).1
            have HrowX : Hid (Value.ownBlock (.slice aI nI cI) ≠ some x0) := fun h => by
              have h1 := (HRc1.out.lt x0 h).2
              have := HK3.out.xw
              omega
            have HgB : Hid (wc.heap[g]? = w1.heap[g]?) := hsp.block g hgw hgne
            clear hsp hvl hgne hgw
            obtain ⟨hn1, hn2, hn3, hn4⟩ := hnum
            go_region_law (first | (refine step_append_own rfl (.tmp 44) (.tmp 46) 28 rfl base 83 iE (.agg #[.slice none 0 0, .slice none 0 0, .slice none 0 0, .slice none 0 0, .int .i64 0]) 5 104 Tryz.underlying28 hiE hzE0 hzE1 hzE2 rfl (by decide) _ _ _ rfl (by exact (World.ownsRow.alloc HRcc.out _).drew) ⟨wc.heap.size, 0, none⟩ 1 1 [.slice aL k cL, .slice aa (k + 1) ca, .slice ab (k + 2) cb, .slice ac (k + 3) cc, .int .i64 m] rfl rfl (by exact news_at _ _ rfl _ _ _ rfl) (oneCell_nums _ rfl) (by unfold maxLen; omega) (by omega) (by simp; omega) ?_; intro v' w3 hown' hgrow; obtain ⟨a3, c3, rfl, _, _, _⟩ := own_read hown'; have kg := block_at hgrow g (by simp; omega) (fun h => by have := HrowG.out g h.symm; omega); have kx := block_at hgrow x0 (by simp; omega) (fun h => HrowX.out h.symm); have e0 : w3.cell? ⟨g, o, none⟩ = some (.slice aI nI cI) := (by rw [kg.1]; simp [go_sem, c2, hgz]); have e1 : w3.frozen? ⟨g, o, none⟩ = false := (by rw [kg.2]; simp [go_sem, f2, hgz])))
            all_goals
              go_wp2
              go_end0
              refine ⟨rfl, ?_⟩
              rw [HM.out]
              refine ⟨_, _, _, _, _, ?_, ownsRow_setCell_below hown' hgb _, full_end HK3.out.full HRcc.out (by decide) hgrow hgb, full_end HFc.out.1 HRcc.out (by decide) hgrow hgb, full_end HFc.out.2.1 HRcc.out (by decide) hgrow hgb, full_end HFc.out.2.2 HRcc.out (by decide) hgrow hgb, ?_, ?_⟩
              · have hk : w3.heap[g]? = wc.heap[g]? := (hgrow.block g (by simp; omega) (fun h => by have := HrowG.out g h.symm; omega)).trans (Below.heap_alloc wc _ g hgz)
                have B := BookAt.kept HBc.out hk
                refine ⟨?_, ?_, ?_, ?_, ?_, ?_, ?_, ?_⟩
                · exact World.cell?_setCell_same _ _ _ B.c0
                · rw [World.cell?_setCell_other _ _ _ _ (by simp)]; exact B.c1
                · rw [World.cell?_setCell_other _ _ _ _ (by simp)]; exact B.c2
                · rw [World.cell?_setCell_other _ _ _ _ (by simp)]; exact B.c3
                · rw [World.frozen?_setCell]; exact B.f0
                · rw [World.frozen?_setCell]; exact B.f1
                · rw [World.frozen?_setCell]; exact B.f2
                · rw [World.frozen?_setCell]; exact B.f3
              · exact spared_end Hsp1.out.1 Hsp1.out.2 HK3.out.sp hgrow
              · have hk : w3.heap[g]? = wc.heap[g]? := (hgrow.block g (by simp; omega) (fun h => by have := HrowG.out g h.symm; omega)).trans (Below.heap_alloc wc _ g hgz)
                exact ⟨w3, _, rfl, hk.trans (HgB.out.trans (Hsp1.out.1.block g (by have := Hsp1.out.2; omega)))⟩
end Go.Proofs.YtfpodnleimhohaaGreatDoor

/-
  WALKS: a list of weights is kept.
-/
namespace Go.Proofs.YtfpodnleimhohaaGreatDoor
open Go.RowKit
set_option linter.unusedVariables false

def mkW (m : Int) : List Value := [.int .i32 m]
theorem info_i32J : (Tryz.prog.info? 21).map (fun i => (i.zero, i.size, i.bytes)) = some (some (.int .i32 0), 1, 4) := by kernel_rfl
theorem info_weiE : (Tryz.prog.info? 87).map (fun i => (i.zero, i.size, i.bytes)) = some (some (.agg #[.slice none 0 0, .slice none 0 0, .slice none 0 0, .slice none 0 0, .int .i32 0]), 5, 104) := by kernel_rfl

set_option maxRecDepth 100000 in
set_option maxHeartbeats 2000000 in
theorem keepWeights_any (g o nI nW nR nG : Nat) (aI : Option Addr) (cI : Nat) (aW : Option Addr) (cW : Nat) (aR : Option Addr) (cR : Nat) (aG : Option Addr) (cG : Nat) (base n : Nat) (vL : Value) (xs rc : List Value) (w : World)
    (hB : BookAt w g o nI nW nR nG aI cI aW cW aR cR aG cG) (hnum : nI ≤ 100000000 ∧ nW ≤ 100000000 ∧ nR ≤ 100000000 ∧ nG ≤ 100000000) (hgb : g < base) (hbw : base ≤ w.heap.size)
    (hL : w.ownsRow base 21 1 vL n xs) (hn : n ≤ 1000) (hRc : w.ownsRow base 87 5 (.slice aW nW cW) nW rc) :
    Calls Tryz.prog 60 #[.pointer (some ⟨g, o, none⟩), vL] w fun e w' => e = .returned (.tuple #[]) ∧ ∃ aW' cW' va vb vc, BookAt w' g o nI (nW + 1) nR nG aI cI aW' cW' aR cR aG cG ∧
      w'.ownsRow base 87 5 (.slice aW' (nW + 1) cW') (nW + 1) (rc ++ [vL, va, vb, vc, .int .i32 (-1000 - (nI : Int) - nW - nR - nG)]) ∧
      Full w' base 21 (mkW (-1000 - (nI : Int) - nW - nR - nG)) vL n ∧ Full w' base 21 (mkW (-1000 - (nI : Int) - nW - nR - nG)) va (n + 1) ∧ Full w' base 21 (mkW (-1000 - (nI : Int) - nW - nR - nG)) vb (n + 2) ∧ Full w' base 21 (mkW (-1000 - (nI : Int) - nW - nR - nG)) vc (n + 3) ∧
      Spared w w' (fun k => k = g ∨ some k = vL.ownBlock ∨ some k = Value.ownBlock (.slice aW nW cW)) ∧ (∃ (wz : World) (u : Value), w' = wz.setCell ⟨g, o + 1, none⟩ u ∧ wz.heap[g]? = w.heap[g]?) := by
  obtain ⟨iR, hiR, hzR0, hzR1, hzR2⟩ := info_parts info_i32J
  obtain ⟨iE, hiE, hzE0, hzE1, hzE2⟩ := info_parts info_weiE
  have HB : Hid _ := hB
  have HL : Hid _ := hL
  have HRc : Hid _ := hRc
  obtain ⟨aL, cL, rfl, hL1, hL2, _⟩ := own_read hL
  unfold maxLen at hL2
  clear hB hL hRc
  go_enter Tryz.func60, Tryz.ntmps60
  go_wp2_with fail
  refine (number_any g o nI nW nR nG aI cI aW cW aR cR aG cG _ HB.out hnum).mono ?_
  rintro e w1 ⟨rfl, hw⟩
  obtain ⟨hb1, hs1⟩ := below_of_drewN hw
  clear hw
  have HL1 : Hid (w1.ownsRow base 21 1 (.slice aL n cL) n xs) := ownsRow_below HL.out hb1
  have HB1 : Hid (BookAt w1 g o nI nW nR nG aI cI aW cW aR cR aG cG) := BookAt.below HB.out hb1 (by omega)
  have HRc1 : Hid (w1.ownsRow base 87 5 (.slice aW nW cW) nW rc) := ownsRow_below HRc.out hb1
  have Hsp1 : Hid (Below w.heap.size w w1 ∧ w1.heap.size = w.heap.size) := ⟨hb1, hs1⟩
  clear HL HB HRc hb1 hs1
  generalize hm0 : (-1000 - (nI : Int) - nW - nR - nG) = m
  have HM : Hid (-1000 - (nI : Int) - nW - nR - nG = m) := hm0
  have hmb : -400001000 ≤ m ∧ m ≤ -1000 := by omega
  clear hm0
  have hbw1 : base ≤ w1.heap.size := by have := Hsp1.out.2; omega
  clear hbw
  go_wp2
  go_loopw [5] (fun i wr => ∃ k : Nat, k ≤ n ∧ i = .int .i64 k ∧ Hid (wr.ownsRow base 21 1 (.slice aL n cL) n (fills (mkW m) k ++ xs.drop k) ∧ Spared w1 wr (fun b => some b = Value.ownBlock (.slice aL n cL)))) (fun i _ => n - (intOf i).toNat)
  case atStart => exact ⟨0, by omega, rfl, by simpa [fills] using HL1.out, Spared.refl _ _⟩
  case round =>
    obtain ⟨k, hk, rfl, HS⟩ := hrel
    by_cases hlt : k < n
    · obtain ⟨ho, hsp⟩ := HS.out
      obtain ⟨a', c', he, _, _, HRd⟩ := own_read ho
      simp at he
      obtain ⟨rfl, rfl⟩ := he
      obtain ⟨gL, rfl, hg1, hg2, hg3⟩ := HRd (by omega)
      have hxl := HL1.out.1
      have hll := ho.1
      have hgw : gL < w1.heap.size := (HL1.out.lt gL rfl).2
      obtain ⟨u0, d0⟩ : ∃ u, wr.cell? ⟨gL, k, none⟩ = some u := by
        rw [hg3 k (by omega)]
        exact ⟨_, List.getElem?_eq_getElem (by omega)⟩
      have f0 := ho.frozenAt k
      clear HRd hg3 ho hsp
      go_wp2
      go_roundw
      case rel =>
        obtain ⟨ho, hsp⟩ := HS.out
        have s0 := World.ownsRow.stored ho k (.int .i32 m)
        refine ⟨k + 1, by omega, by go_num, ?_, ?_⟩
        · have := fill_set1 (.int .i32 m) k xs (by omega)
          have h3 := s0.1
          rw [show fills (mkW m) k = fills [.int .i32 m] k from rfl, this] at h3
          exact h3
        · have q : ∀ W j u, Spared w1 W (fun b => some b = Value.ownBlock (.slice (some ⟨gL, 0, none⟩) n cL)) → Spared w1 (W.setCell ⟨gL, j, none⟩ u) (fun b => some b = Value.ownBlock (.slice (some ⟨gL, 0, none⟩) n cL)) := fun W j u h =>
            h.trans (Spared.of_set W gL j u) (fun i _ hi => by rw [hi]; rfl)
          exact q _ _ _ hsp
      case measure => simp [intOf]; omega
    · obtain rfl : k = n := by omega
      have HF : Hid (Full wr base 21 (mkW m) (.slice aL k cL) k) := by
        have := HS.out.1
        rw [List.drop_eq_nil_of_le (by rw [HL1.out.1]; omega), List.append_nil] at this
        exact this
      have hzr : w1.heap.size ≤ wr.heap.size := HS.out.2.size
      have K0 : KS w1 (wr.alloc (.cells #[.slice aL k cL, .slice none 0 0, .slice none 0 0, .slice none 0 0, .int .i32 m] 87)) base wr.heap.size (mkW m) 21 87 (.slice aL k cL) k #[.slice aL k cL, .slice none 0 0, .slice none 0 0, .slice none 0 0, .int .i32 m] :=
        ⟨heap_alloc_new wr _, World.ownsRow.alloc HF.out _, HS.out.2.trans (Spared.of_below ((Below.refl _ _).alloc (Nat.le_refl _) _) (fun _ => False)) (fun _ _ h => h.elim), hzr, fun j hj => Nat.lt_of_lt_of_le (HL1.out.lt j hj).2 hzr⟩
      have HK0 : Hid _ := K0
      clear K0 HS HF
      go_upto_region 6 with fail
      generalize hx0 : wr.heap.size = x0 at *
      have HX0 : Hid (wr.heap.size = x0) := hx0
      clear hx0
      go_cut [] (fun wc => ∃ va, Hid (KS w1 wc base x0 (mkW m) 21 87 (.slice aL k cL) k #[.slice aL k cL, va, .slice none 0 0, .slice none 0 0, .int .i32 m] ∧ Full wc base 21 (mkW m) va (k + 1)))
      case first =>
        have hz0 := HX0.out
        go_wp2_with (at_builtin; refine wpList_append_mark _ rfl (.tmp 23) (.tmp 25) 85 rfl base 21 iR (.int .i32 0) (mkW m) 4 Tryz.underlying85 hiR hzR0 hzR1 hzR2 rfl (Nat.succ_pos _) (oneCell_nums _ rfl) _ _ rfl (World.ownsRow.alloc HK0.out.full _) ⟨x0 + 1, 0, none⟩ 1 1 rfl (news_at _ _ (by first | rfl | (simp; omega)) _ _ _ rfl) (by unfold maxLen; omega) (by omega) (by simp; omega) ?_; intro v2 w2 hF2 hg2 hst2; obtain ⟨a2, c2, rfl, _, _, _⟩ := own_read hF2; have hx2 := KS.after HK0.out hg2; have x1 : w2.cell? ⟨x0, 1, none⟩ = some (.slice none 0 0) := (by simp [World.cell?, hx2]); have y1 : w2.frozen? ⟨x0, 1, none⟩ = false := (by simp [World.frozen?, hx2]))
        go_meet
        case rel =>
          have st := HK0.out.step (by decide) 1 hg2 hst2 hF2
          exact ⟨_, st.1, st.2.1⟩
      case rest =>
        obtain ⟨va, HH1⟩ := hcut
        have HK1 : Hid (KS w1 wc base x0 (mkW m) 21 87 (.slice aL k cL) k #[.slice aL k cL, va, .slice none 0 0, .slice none 0 0, .int .i32 m]) := HH1.out.1
        have HFa : Hid (Full wc base 21 (mkW m) va (k + 1)) := HH1.out.2
        clear HH1 HK0
        go_upto_region 7 with fail
        go_cut [] (fun wc => ∃ vb, Hid (KS w1 wc base x0 (mkW m) 21 87 (.slice aL k cL) k #[.slice aL k cL, va, vb, .slice none 0 0, .int .i32 m] ∧ Full wc base 21 (mkW m) va (k + 1) ∧ Full wc base 21 (mkW m) vb (k + 2)))
        case first =>
          have hrz := lt_of_block HK1.out.xb; have hxw := HK1.out.xw
          have hbz : base ≤ wc.heap.size := by omega
          go_wp2_with (at_builtin; refine wpList_append_mark _ rfl (.tmp 28) (.tmp 31) 85 rfl base 21 iR (.int .i32 0) (mkW m) 4 Tryz.underlying85 hiR hzR0 hzR1 hzR2 rfl (Nat.succ_pos _) (oneCell_nums _ rfl) _ _ rfl (World.ownsRow.alloc HK1.out.full _) ⟨wc.heap.size, 0, none⟩ 2 2 rfl (news_at _ _ (by first | rfl | (simp; omega)) _ _ _ rfl) (by unfold maxLen; omega) (by omega) (by simp; omega) ?_; intro v2 w2 hF2 hg2 hst2; obtain ⟨a2, c2, rfl, _, _, _⟩ := own_read hF2; have hx2 := KS.after HK1.out hg2; have x1 : w2.cell? ⟨x0, 2, none⟩ = some (.slice none 0 0) := (by simp [World.cell?, hx2]); have y1 : w2.frozen? ⟨x0, 2, none⟩ = false := (by simp [World.frozen?, hx2]))
          go_meet
          case rel =>
            have st := HK1.out.step (by decide) 2 hg2 hst2 hF2
            exact ⟨_, st.1, st.2.2 va (k + 1) (by omega) HFa.out, st.2.1⟩
        case rest =>
          obtain ⟨vb, HH2⟩ := hcut
          have HK2 : Hid (KS w1 wc base x0 (mkW m) 21 87 (.slice aL k cL) k #[.slice aL k cL, va, vb, .slice none 0 0, .int .i32 m]) := HH2.out.1
          have HFb : Hid (Full wc base 21 (mkW m) va (k + 1) ∧ Full wc base 21 (mkW m) vb (k + 2)) := HH2.out.2
          clear HH2 HK1 HFa
          go_upto_region 8 with fail
          go_cut [] (fun wc => ∃ vc, Hid (KS w1 wc base x0 (mkW m) 21 87 (.slice aL k cL) k #[.slice aL k cL, va, vb, vc, .int .i32 m] ∧ Full wc base 21 (mkW m) va (k + 1) ∧ Full wc base 21 (mkW m) vb (k + 2) ∧ Full wc base 21 (mkW m) vc (k + 3)))
          case first =>
            have hrz := lt_of_block HK2.out.xb; have hxw := HK2.out.xw
            have hbz : base ≤ wc.heap.size := by omega
            go_wp2_with (at_builtin; refine wpList_append_mark _ rfl (.tmp 34) (.tmp 38) 85 rfl base 21 iR (.int .i32 0) (mkW m) 4 Tryz.underlying85 hiR hzR0 hzR1 hzR2 rfl (Nat.succ_pos _) (oneCell_nums _ rfl) _ _ rfl (World.ownsRow.alloc HK2.out.full _) ⟨wc.heap.size, 0, none⟩ 3 3 rfl (news_at _ _ (by first | rfl | (simp; omega)) _ _ _ rfl) (by unfold maxLen; omega) (by omega) (by simp; omega) ?_; intro v2 w2 hF2 hg2 hst2; obtain ⟨a2, c2, rfl, _, _, _⟩ := own_read hF2; have hx2 := KS.after HK2.out hg2; have x1 : w2.cell? ⟨x0, 3, none⟩ = some (.slice none 0 0) := (by simp [World.cell?, hx2]); have y1 : w2.frozen? ⟨x0, 3, none⟩ = false := (by simp [World.frozen?, hx2]))
            go_meet
            case rel =>
              have st := HK2.out.step (by decide) 3 hg2 hst2 hF2
              exact ⟨_, st.1, st.2.2 va (k + 1) (by omega) HFb.out.1, st.2.2 vb (k + 2) (by omega) HFb.out.2, st.2.1⟩
          case rest =>
            obtain ⟨vc, HH3⟩ := hcut
            have HK3 : Hid (KS w1 wc base x0 (mkW m) 21 87 (.slice aL k cL) k #[.slice aL k cL, va, vb, vc, .int .i32 m]) := HH3.out.1
            have HFc : Hid (Full wc base 21 (mkW m) va (k + 1) ∧ Full wc base 21 (mkW m) vb (k + 2) ∧ Full wc base 21 (mkW m) vc (k + 3)) := HH3.out.2
            clear HH3 HK2 HFb
            go_upto_region 9 with fail
            have hsp := HK3.out.sp
            have hvl := HL1.out.lt
            have hgne : ¬ (some g = Value.ownBlock (.slice aL k cL)) := fun h => by have := (hvl g h.symm).1; omega
            have hgw : g < w1.heap.size := by omega
            have HBc : Hid (BookAt wc g o nI nW nR nG aI cI aW cW aR cR aG cG) := BookAt.kept HB1.out (hsp.block g hgw hgne)
            have HRcc : Hid (wc.ownsRow base 87 5 (.slice aW nW cW) nW rc) := ownsRow_spared HRc1.out hsp (fun j hj hs => by
              obtain ⟨cu, hh⟩ := own_tag HRc1.out hj
              exact own_ne HL1.out hh (by decide) hs.symm)
            obtain ⟨aa, ca, rfl, _, _, _⟩ := own_read HFc.out.1
            obtain ⟨ab, cb, rfl, _, _, _⟩ := own_read HFc.out.2.1
            obtain ⟨ac, cc, rfl, _, _, _⟩ := own_read HFc.out.2.2
            have c2 := HBc.out.c1
            have f2 := HBc.out.f1
            have x0c := (HK3.out.xc 0).1
            have x1c := (HK3.out.xc 1).1
            have x2c := (HK3.out.xc 2).1
            have x3c := (HK3.out.xc 3).1
            have x4c := (HK3.out.xc 4).1
            simp at x0c x1c x2c x3c x4c
            have hxz := lt_of_block HK3.out.xb
            have hgz : g < wc.heap.size := by have := hsp.size; omega
            have hbz : base ≤ wc.heap.size := by have := hsp.size; omega
            have HrowG : Hid (∀ j, Value.ownBlock (.slice aW nW cW) = some j → base ≤ j) := fun j hj => (HRcc.out.lt j hj).1
            have HrowX : Hid (Value.ownBlock (.slice aW nW cW) ≠ some x0) := fun h => by
              have h1 := (HRc1.out.lt x0 h).2
              have := HK3.out.xw
              omega
            have HgB : Hid (wc.heap[g]? = w1.heap[g]?) := hsp.block g hgw hgne
            clear hsp hvl hgne hgw
            obtain ⟨hn1, hn2, hn3, hn4⟩ := hnum
            go_region_law (first | (refine step_append_own rfl (.tmp 45) (.tmp 47) 29 rfl base 87 iE (.agg #[.slice none 0 0, .slice none 0 0, .slice none 0 0, .slice none 0 0, .int .i32 0]) 5 104 Tryz.underlying29 hiE hzE0 hzE1 hzE2 rfl (by decide) _ _ _ rfl (by exact (World.ownsRow.alloc HRcc.out _).drew) ⟨wc.heap.size, 0, none⟩ 1 1 [.slice aL k cL, .slice aa (k + 1) ca, .slice ab (k + 2) cb, .slice ac (k + 3) cc, .int .i32 m] rfl rfl (by exact news_at _ _ rfl _ _ _ rfl) (oneCell_nums _ rfl) (by unfold maxLen; omega) (by omega) (by simp; omega) ?_; intro v' w3 hown' hgrow; obtain ⟨a3, c3, rfl, _, _, _⟩ := own_read hown'; have kg := block_at hgrow g (by simp; omega) (fun h => by have := HrowG.out g h.symm; omega); have kx := block_at hgrow x0 (by simp; omega) (fun h => HrowX.out h.symm); have e0 : w3.cell? ⟨g, o + 1, none⟩ = some (.slice aW nW cW) := (by rw [kg.1]; simp [go_sem, c2, hgz]); have e1 : w3.frozen? ⟨g, o + 1, none⟩ = false := (by rw [kg.2]; simp [go_sem, f2, hgz])))
            all_goals
              go_wp2
              go_end0
              refine ⟨rfl, ?_⟩
              rw [HM.out]
              refine ⟨_, _, _, _, _, ?_, ownsRow_setCell_below hown' hgb _, full_end HK3.out.full HRcc.out (by decide) hgrow hgb, full_end HFc.out.1 HRcc.out (by decide) hgrow hgb, full_end HFc.out.2.1 HRcc.out (by decide) hgrow hgb, full_end HFc.out.2.2 HRcc.out (by decide) hgrow hgb, ?_, ?_⟩
              · have hk : w3.heap[g]? = wc.heap[g]? := (hgrow.block g (by simp; omega) (fun h => by have := HrowG.out g h.symm; omega)).trans (Below.heap_alloc wc _ g hgz)
                have B := BookAt.kept HBc.out hk
                refine ⟨?_, ?_, ?_, ?_, ?_, ?_, ?_, ?_⟩
                · rw [World.cell?_setCell_other _ _ _ _ (by simp)]; exact B.c0
                · exact World.cell?_setCell_same _ _ _ B.c1
                · rw [World.cell?_setCell_other _ _ _ _ (by simp)]; exact B.c2
                · rw [World.cell?_setCell_other _ _ _ _ (by simp)]; exact B.c3
                · rw [World.frozen?_setCell]; exact B.f0
                · rw [World.frozen?_setCell]; exact B.f1
                · rw [World.frozen?_setCell]; exact B.f2
                · rw [World.frozen?_setCell]; exact B.f3
              · exact spared_end Hsp1.out.1 Hsp1.out.2 HK3.out.sp hgrow
              · have hk : w3.heap[g]? = wc.heap[g]? := (hgrow.block g (by simp; omega) (fun h => by have := HrowG.out g h.symm; omega)).trans (Below.heap_alloc wc _ g hgz)
                exact ⟨w3, _, rfl, hk.trans (HgB.out.trans (Hsp1.out.1.block g (by have := Hsp1.out.2; omega)))⟩
end Go.Proofs.YtfpodnleimhohaaGreatDoor

/-
  WALKS: what was kept is looked at: lists of numbers, of weights.
-/
namespace Go.Proofs.YtfpodnleimhohaaGreatDoor
open Go.RowKit
set_option linter.unusedVariables false

set_option maxRecDepth 4000 in
set_option maxHeartbeats 1000000 in
theorem fullInts_any (base p : Nat) (v : Value) (m : Int) (w : World) (h : Full w base 3 (mkI m) v p) (hp : p ≤ 10000) :
    Calls Tryz.prog 26 #[v, .int .i64 m] w fun e w' => e = .returned (.bool true) ∧ w' = w := by
  obtain ⟨a, c, rfl, h1, h2, HRd⟩ := own_read h
  unfold maxLen at h2
  have HR : Hid _ := HRd
  clear HRd h
  go_enter Tryz.func26, Tryz.ntmps26
  go_wp2
  go_loop [5] (fun i => ∃ k : Nat, k ≤ p ∧ i = .int .i64 k) (fun i => p - (intOf i).toNat)
  case atStart => exact ⟨0, by omega, rfl⟩
  case round =>
    obtain ⟨k, hk, rfl⟩ := hrel
    by_cases hlt : k < p
    · obtain ⟨g, rfl, _, _, hg⟩ := HR.out (by omega)
      have q0 : w.cell? ⟨g, k, none⟩ = some (.int .i64 m) := by
        have := (hg (k * 1 + 0) (by show k * 1 + 0 < p * 1; omega)).trans (fills_get (mkI m) p k 0 hlt (by show 0 < 1; decide))
        simpa [mkI] using this
      clear hg
      go_wp2
      go_round
      case rel => exact ⟨k + 1, by omega, by go_num⟩
      case measure => simp [intOf]; omega
    · go_wp2
      go_ret
      exact ⟨rfl, rfl⟩

set_option maxRecDepth 4000 in
set_option maxHeartbeats 1000000 in
theorem fullWeights_any (base p : Nat) (v : Value) (m : Int) (w : World) (h : Full w base 21 (mkW m) v p) (hp : p ≤ 10000) :
    Calls Tryz.prog 27 #[v, .int .i32 m] w fun e w' => e = .returned (.bool true) ∧ w' = w := by
  obtain ⟨a, c, rfl, h1, h2, HRd⟩ := own_read h
  unfold maxLen at h2
  have HR : Hid _ := HRd
  clear HRd h
  go_enter Tryz.func27, Tryz.ntmps27
  go_wp2
  go_loop [5] (fun i => ∃ k : Nat, k ≤ p ∧ i = .int .i64 k) (fun i => p - (intOf i).toNat)
  case atStart => exact ⟨0, by omega, rfl⟩
  case round =>
    obtain ⟨k, hk, rfl⟩ := hrel
    by_cases hlt : k < p
    · obtain ⟨g, rfl, _, _, hg⟩ := HR.out (by omega)
      have q0 : w.cell? ⟨g, k, none⟩ = some (.int .i32 m) := by
        have := (hg (k * 1 + 0) (by show k * 1 + 0 < p * 1; omega)).trans (fills_get (mkW m) p k 0 hlt (by show 0 < 1; decide))
        simpa [mkW] using this
      clear hg
      go_wp2
      go_round
      case rel => exact ⟨k + 1, by omega, by go_num⟩
      case measure => simp [intOf]; omega
    · go_wp2
      go_ret
      exact ⟨rfl, rfl⟩

def entCellsW (x : Ent) : List Value := [x.l, x.a, x.b, x.c, .int .i32 x.m]
def entsCellsW (l : List Ent) : List Value := l.flatMap entCellsW
theorem entsCellsW_snoc (l : List Ent) (x : Ent) : entsCellsW (l ++ [x]) = entsCellsW l ++ entCellsW x := by simp [entsCellsW]
theorem entW_get {l : List Ent} {k : Nat} {x : Ent} (h : l[k]? = some x) : (entsCellsW l)[k * 5]? = some x.l ∧ (entsCellsW l)[k * 5 + 1]? = some x.a ∧ (entsCellsW l)[k * 5 + 2]? = some x.b ∧ (entsCellsW l)[k * 5 + 3]? = some x.c ∧ (entsCellsW l)[k * 5 + 4]? = some (.int .i32 x.m) := by
  have f := flat_get entCellsW 5 (fun _ => rfl) l k x h
  exact ⟨f 0 (by omega), f 1 (by omega), f 2 (by omega), f 3 (by omega), f 4 (by omega)⟩

set_option maxRecDepth 100000 in
set_option maxHeartbeats 4000000 in
theorem looks2_any (g o : Nat) (aI : Option Addr) (cI : Nat) (aW : Option Addr) (cW : Nat) (aR : Option Addr) (cR : Nat) (aG : Option Addr) (cG : Nat) (base : Nat) (EI EW : List Ent) (w : World)
    (hB : BookAt w g o EI.length EW.length 0 0 aI cI aW cW aR cR aG cG) (hR : w.ownsRow base 83 5 (.slice aI EI.length cI) EI.length (entsCells EI)) (hG : w.ownsRow base 87 5 (.slice aW EW.length cW) EW.length (entsCellsW EW))
    (hEI : ∀ x ∈ EI, EntIs w base 3 mkI x) (hEW : ∀ x ∈ EW, EntIs w base 21 mkW x) (hg : g < w.heap.size) (h1 : EI.length ≤ 100000000) (h2 : EW.length ≤ 100000000) :
    Calls Tryz.prog 11 #[.pointer (some ⟨g, o, none⟩)] w fun e w' => e = .returned (.bool true) ∧ Below w.heap.size w w' := by
  have HB : Hid _ := hB
  have HEI : Hid _ := hEI
  have HEW : Hid _ := hEW
  obtain ⟨_, _, hv1, hR1, hR2, HRr⟩ := own_read hR
  simp at hv1
  obtain ⟨rfl, rfl⟩ := hv1
  obtain ⟨_, _, hv2, hG1, hG2, HGg⟩ := own_read hG
  simp at hv2
  obtain ⟨rfl, rfl⟩ := hv2
  have HR : Hid _ := HRr
  have HG : Hid _ := HGg
  unfold maxLen at hR2 hG2
  clear hEI hEW HRr HGg hR hG hB
  go_enter Tryz.func11, Tryz.ntmps11
  go_wp2
  go_loopw [3] (fun i wr => ∃ k : Nat, k ≤ EI.length ∧ i = .int .i64 k ∧ Below w.heap.size w wr) (fun i _ => EI.length - (intOf i).toNat)
  case atStart => exact ⟨0, by omega, rfl, Below.refl _ _⟩
  case round =>
    obtain ⟨k, hk, rfl, hbr⟩ := hrel
    have d0 := (hbr.cell (p := ⟨g, o, none⟩) hg).trans HB.out.c0
    have d1 := (hbr.cell (p := ⟨g, o + 1, none⟩) hg).trans HB.out.c1
    by_cases hlt : k < EI.length
    · obtain ⟨gr, rfl, _, hgl, hgc⟩ := HR.out (by omega)
      obtain ⟨q0, q1, q2, q3, q4⟩ := ent_get (List.getElem?_eq_getElem hlt)
      have hE := HEI.out _ (List.getElem_mem hlt)
      have e0 := ((hbr.cell (p := ⟨gr, k * 5, none⟩) hgl).trans (hgc _ (by omega))).trans q0
      have e1 := ((hbr.cell (p := ⟨gr, k * 5 + 1, none⟩) hgl).trans (hgc _ (by omega))).trans q1
      have e2 := ((hbr.cell (p := ⟨gr, k * 5 + 2, none⟩) hgl).trans (hgc _ (by omega))).trans q2
      have e3 := ((hbr.cell (p := ⟨gr, k * 5 + 3, none⟩) hgl).trans (hgc _ (by omega))).trans q3
      have e4 := ((hbr.cell (p := ⟨gr, k * 5 + 4, none⟩) hgl).trans (hgc _ (by omega))).trans q4
      clear q0 q1 q2 q3 q4 hgc
      generalize (EI[k]'hlt) = x at *
      have HE2 : Hid (EntIs wr base 3 mkI x) := EntIs.later hE hbr
      obtain ⟨l, a, b, c, m, n⟩ := x
      obtain ⟨al, cl, hl, _, _, _⟩ := own_read hE.l
      obtain ⟨aa, ca, ha, _, _, _⟩ := own_read hE.a
      obtain ⟨ab, cb, hb, _, _, _⟩ := own_read hE.b
      obtain ⟨ac, cc, hc, _, _, _⟩ := own_read hE.c
      simp only at hl ha hb hc e0 e1 e2 e3 e4
      subst hl ha hb hc
      have hnb : n ≤ 1000 := hE.n
      clear hE
      have hki : (k : Int) < (EI.length : Int) := by omega
      go_wp2_with fail
      refine (fullInts_any base n _ m _ (World.ownsRow.alloc HE2.out.l _) (by omega)).mono ?_
      rintro e w' ⟨rfl, hw⟩
      subst hw
      go_wp2_with fail
      refine (fullInts_any base (n + 1) _ m _ (World.ownsRow.alloc HE2.out.a _) (by omega)).mono ?_
      rintro e w' ⟨rfl, hw⟩
      subst hw
      go_wp2_with fail
      refine (fullInts_any base (n + 2) _ m _ (World.ownsRow.alloc HE2.out.b _) (by omega)).mono ?_
      rintro e w' ⟨rfl, hw⟩
      subst hw
      go_wp2_with fail
      refine (fullInts_any base (n + 3) _ m _ (World.ownsRow.alloc HE2.out.c _) (by omega)).mono ?_
      rintro e w' ⟨rfl, hw⟩
      subst hw
      go_wp2
      go_roundw
      case rel => exact ⟨k + 1, by omega, by go_num, hbr.alloc hbr.size _⟩
      case measure => simp [intOf]; omega
    · go_wp2
      go_loopw [5] (fun i wr => ∃ k : Nat, k ≤ EW.length ∧ i = .int .i64 k ∧ Below w.heap.size w wr) (fun i _ => EW.length - (intOf i).toNat)
      case atStart => exact ⟨0, by omega, rfl, hbr⟩
      case round =>
        obtain ⟨k, hk, rfl, hbr⟩ := hrel
        have d1 := (hbr.cell (p := ⟨g, o + 1, none⟩) hg).trans HB.out.c1
        have d2 := (hbr.cell (p := ⟨g, o + 2, none⟩) hg).trans HB.out.c2
        have d3 := (hbr.cell (p := ⟨g, o + 3, none⟩) hg).trans HB.out.c3
        by_cases hlt : k < EW.length
        · obtain ⟨gr, rfl, _, hgl, hgc⟩ := HG.out (by omega)
          obtain ⟨q0, q1, q2, q3, q4⟩ := entW_get (List.getElem?_eq_getElem hlt)
          have hE := HEW.out _ (List.getElem_mem hlt)
          have e0 := ((hbr.cell (p := ⟨gr, k * 5, none⟩) hgl).trans (hgc _ (by omega))).trans q0
          have e1 := ((hbr.cell (p := ⟨gr, k * 5 + 1, none⟩) hgl).trans (hgc _ (by omega))).trans q1
          have e2 := ((hbr.cell (p := ⟨gr, k * 5 + 2, none⟩) hgl).trans (hgc _ (by omega))).trans q2
          have e3 := ((hbr.cell (p := ⟨gr, k * 5 + 3, none⟩) hgl).trans (hgc _ (by omega))).trans q3
          have e4 := ((hbr.cell (p := ⟨gr, k * 5 + 4, none⟩) hgl).trans (hgc _ (by omega))).trans q4
          clear q0 q1 q2 q3 q4 hgc
          generalize (EW[k]'hlt) = x at *
          have HE2 : Hid (EntIs wr base 21 mkW x) := EntIs.later hE hbr
          obtain ⟨l, a, b, c, m, n⟩ := x
          obtain ⟨al, cl, hl, _, _, _⟩ := own_read hE.l
          obtain ⟨aa, ca, ha, _, _, _⟩ := own_read hE.a
          obtain ⟨ab, cb, hb, _, _, _⟩ := own_read hE.b
          obtain ⟨ac, cc, hc, _, _, _⟩ := own_read hE.c
          simp only at hl ha hb hc e0 e1 e2 e3 e4
          subst hl ha hb hc
          have hnb : n ≤ 1000 := hE.n
          clear hE
          have hki : (k : Int) < (EW.length : Int) := by omega
          go_wp2_with fail
          refine (fullWeights_any base n _ m _ (World.ownsRow.alloc HE2.out.l _) (by omega)).mono ?_
          rintro e w' ⟨rfl, hw⟩
          subst hw
          go_wp2_with fail
          refine (fullWeights_any base (n + 1) _ m _ (World.ownsRow.alloc HE2.out.a _) (by omega)).mono ?_
          rintro e w' ⟨rfl, hw⟩
          subst hw
          go_wp2_with fail
          refine (fullWeights_any base (n + 2) _ m _ (World.ownsRow.alloc HE2.out.b _) (by omega)).mono ?_
          rintro e w' ⟨rfl, hw⟩
          subst hw
          go_wp2_with fail
          refine (fullWeights_any base (n + 3) _ m _ (World.ownsRow.alloc HE2.out.c _) (by omega)).mono ?_
          rintro e w' ⟨rfl, hw⟩
          subst hw
          go_wp2
          go_roundw
          case rel => exact ⟨k + 1, by omega, by go_num, hbr.alloc hbr.size _⟩
          case measure => simp [intOf]; omega
        · go_wp2
          refine wp_loop_rounds 1 ?_
          rw [rounds_succ]
          go_wp2
          refine wp_loop_rounds 1 ?_
          rw [rounds_succ]
          go_wp2
          go_ret
          exact ⟨rfl, hbr⟩

end Go.Proofs.YtfpodnleimhohaaGreatDoor
