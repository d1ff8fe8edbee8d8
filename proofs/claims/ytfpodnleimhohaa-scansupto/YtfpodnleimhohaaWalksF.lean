/-
  WALKS: keepRecords, keepGaps.
-/
import Derived.Test.YtfpodnleimhohaaWalksE
namespace Go.Proofs.Ytfpodnleimhohaa
open Go.RowKit
set_option linter.unusedVariables false

def mkR (m : Int) : List Value := [.int .i64 m, .int .i64 m, .int .u8 0, .string ⟨#[]⟩]
theorem info_recs : (Try.prog.info? 123).map (fun i => (i.zero, i.size, i.bytes)) = some (some (.agg #[.slice none 0 0, .slice none 0 0, .slice none 0 0, .slice none 0 0, .int .i64 0]), 5, 104) := by kernel_rfl
theorem below_of_drewN {w w1 : World} (h : ∃ n, w1 = w.drewN n) : Below w.heap.size w w1 ∧ w1.heap.size = w.heap.size := by
  obtain ⟨n, rfl⟩ := h
  exact ⟨below_drewN (Below.refl _ _) n, rfl⟩
theorem BookAt.below {w w' : World} {g o nI nW nR nG : Nat} {aI : Option Addr} {cI : Nat} {aW : Option Addr} {cW : Nat} {aR : Option Addr} {cR : Nat} {aG : Option Addr} {cG : Nat} (h : BookAt w g o nI nW nR nG aI cI aW cW aR cR aG cG) {B : Nat}
    (hb : Below B w w') (hg : g < B) : BookAt w' g o nI nW nR nG aI cI aW cW aR cR aG cG := h.kept (hb.block g hg)

theorem block_at {W w2 : World} {row : Option Nat} (hg : W.grownBy w2 row) (b : Nat) (hlt : b < W.heap.size) (hne : some b ≠ row) : (∀ {j}, w2.cell? ⟨b, j, none⟩ = W.cell? ⟨b, j, none⟩) ∧ (∀ {j}, w2.frozen? ⟨b, j, none⟩ = W.frozen? ⟨b, j, none⟩) :=
  ⟨fun {j} => World.cell?_of_block (w := W) (a := ⟨b, j, none⟩) (hg.block b hlt hne), fun {j} => World.frozen?_of_block (w := W) (a := ⟨b, j, none⟩) (hg.block b hlt hne)⟩

set_option maxRecDepth 100000 in
set_option maxHeartbeats 2000000 in
theorem keepRecords_any (g o nI nW nR nG : Nat) (aI : Option Addr) (cI : Nat) (aW : Option Addr) (cW : Nat) (aR : Option Addr) (cR : Nat) (aG : Option Addr) (cG : Nat) (base n : Nat) (vL : Value) (xs rc : List Value) (w : World)
    (hB : BookAt w g o nI nW nR nG aI cI aW cW aR cR aG cG) (hnum : nI ≤ 100000000 ∧ nW ≤ 100000000 ∧ nR ≤ 100000000 ∧ nG ≤ 100000000) (hgb : g < base) (hbw : base ≤ w.heap.size)
    (hL : w.ownsRow base 52 4 vL n xs) (hn : n ≤ 1000) (hRc : w.ownsRow base 123 5 (.slice aR nR cR) nR rc) :
    Calls Try.prog 44 #[.pointer (some ⟨g, o, none⟩), vL] w fun e w' => e = .returned (.tuple #[]) ∧ ∃ aR' cR' va vb vc, BookAt w' g o nI nW (nR + 1) nG aI cI aW cW aR' cR' aG cG ∧
      w'.ownsRow base 123 5 (.slice aR' (nR + 1) cR') (nR + 1) (rc ++ [vL, va, vb, vc, .int .i64 (-1000 - (nI : Int) - nW - nR - nG)]) ∧
      Full w' base 52 (mkR (-1000 - (nI : Int) - nW - nR - nG)) vL n ∧ Full w' base 52 (mkR (-1000 - (nI : Int) - nW - nR - nG)) va (n + 1) ∧ Full w' base 52 (mkR (-1000 - (nI : Int) - nW - nR - nG)) vb (n + 2) ∧ Full w' base 52 (mkR (-1000 - (nI : Int) - nW - nR - nG)) vc (n + 3) ∧
      Spared w w' (fun k => k = g ∨ some k = vL.ownBlock ∨ some k = Value.ownBlock (.slice aR nR cR)) := by
  obtain ⟨iR, hiR, hzR0, hzR1, hzR2⟩ := info_parts info_rec
  obtain ⟨iE, hiE, hzE0, hzE1, hzE2⟩ := info_parts info_recs
  have HB : Hid _ := hB
  have HL : Hid _ := hL
  have HRc : Hid _ := hRc
  obtain ⟨aL, cL, rfl, hL1, hL2, _⟩ := own_read hL
  unfold maxLen at hL2
  clear hB hL hRc
  go_enter Try.func44, Try.ntmps44
  go_wp2_with fail
  refine (number_any g o nI nW nR nG aI cI aW cW aR cR aG cG _ HB.out hnum).mono ?_
  rintro e w1 ⟨rfl, hw⟩
  obtain ⟨hb1, hs1⟩ := below_of_drewN hw
  clear hw
  have HL1 : Hid (w1.ownsRow base 52 4 (.slice aL n cL) n xs) := ownsRow_below HL.out hb1
  have HB1 : Hid (BookAt w1 g o nI nW nR nG aI cI aW cW aR cR aG cG) := BookAt.below HB.out hb1 (by omega)
  have HRc1 : Hid (w1.ownsRow base 123 5 (.slice aR nR cR) nR rc) := ownsRow_below HRc.out hb1
  have Hsp1 : Hid (Below w.heap.size w w1 ∧ w1.heap.size = w.heap.size) := ⟨hb1, hs1⟩
  clear HL HB HRc hb1 hs1
  generalize hm0 : (-1000 - (nI : Int) - nW - nR - nG) = m
  have HM : Hid (-1000 - (nI : Int) - nW - nR - nG = m) := hm0
  clear hm0
  have hbw1 : base ≤ w1.heap.size := by have := Hsp1.out.2; omega
  clear hbw
  go_wp2
  go_loopw [6] (fun i wr => ∃ k : Nat, k ≤ n ∧ i = .int .i64 k ∧ Hid (wr.ownsRow base 52 4 (.slice aL n cL) n (fills (mkR m) k ++ xs.drop (k * 4)) ∧ wr.heap[w1.heap.size]? = some (.cells (mkR m).toArray 52 (0, 0)) ∧ Spared w1 wr (fun b => some b = Value.ownBlock (.slice aL n cL)))) (fun i _ => n - (intOf i).toNat)
  case atStart => exact ⟨0, by omega, rfl, by simpa [fills] using World.ownsRow.alloc HL1.out _, heap_alloc_new w1 _, Spared.of_below ((Below.refl _ _).alloc (Nat.le_refl _) _) _⟩
  case round =>
    obtain ⟨k, hk, rfl, HS⟩ := hrel
    by_cases hlt : k < n
    · obtain ⟨ho, hr, hsp⟩ := HS.out
      obtain ⟨a', c', he, _, _, HRd⟩ := own_read ho
      simp at he
      obtain ⟨rfl, rfl⟩ := he
      obtain ⟨gL, rfl, hg1, hg2, hg3⟩ := HRd (by omega)
      have hxl := HL1.out.1
      have hll := ho.1
      have hgw : gL < w1.heap.size := (HL1.out.lt gL rfl).2
      have ex : ∀ j, j < 4 → ∃ u, wr.cell? ⟨gL, k * 4 + j, none⟩ = some u := by
        intro j hj
        rw [hg3 (k * 4 + j) (by omega)]
        exact ⟨_, List.getElem?_eq_getElem (by omega)⟩
      obtain ⟨u0, d0⟩ := ex 0 (by omega)
      obtain ⟨u1, d1⟩ := ex 1 (by omega)
      obtain ⟨u2', d2⟩ := ex 2 (by omega)
      obtain ⟨u3', d3⟩ := ex 3 (by omega)
      rw [Nat.add_zero] at d0
      have f0 := ho.frozenAt (k * 4)
      have f1 := ho.frozenAt (k * 4 + 1)
      have f2 := ho.frozenAt (k * 4 + 2)
      have f3 := ho.frozenAt (k * 4 + 3)
      have r0 : wr.cell? ⟨w1.heap.size, 0, none⟩ = some (.int .i64 m) := by simp [World.cell?, hr, mkR]
      have r1 : wr.cell? ⟨w1.heap.size, 1, none⟩ = some (.int .i64 m) := by simp [World.cell?, hr, mkR]
      have r2 : wr.cell? ⟨w1.heap.size, 2, none⟩ = some (.int .u8 0) := by simp [World.cell?, hr, mkR]
      have r3 : wr.cell? ⟨w1.heap.size, 3, none⟩ = some (.string ⟨#[]⟩) := by simp [World.cell?, hr, mkR]
      clear ex HRd hg3 ho hr hsp
      go_wp2
      go_roundw
      case rel =>
        obtain ⟨ho, hr, hsp⟩ := HS.out
        have s0 := World.ownsRow.stored ho (k * 4) (.int .i64 m)
        have s1 := World.ownsRow.stored s0.1 (k * 4 + 1) (.int .i64 m)
        have s2 := World.ownsRow.stored s1.1 (k * 4 + 2) (.int .u8 0)
        have s3 := World.ownsRow.stored s2.1 (k * 4 + 3) (.string ⟨#[]⟩)
        refine ⟨k + 1, by omega, by go_num, ?_, ?_, ?_⟩
        · have := fill_set4 (.int .i64 m) (.int .i64 m) (.int .u8 0) (.string ⟨#[]⟩) k xs (by omega)
          have h3 := s3.1
          rw [show fills (mkR m) k = fills [.int .i64 m, .int .i64 m, .int .u8 0, .string ⟨#[]⟩] k from rfl, this] at h3
          exact h3
        · rw [heap_setCell_other _ _ _ _ (by show w1.heap.size ≠ gL; omega), heap_setCell_other _ _ _ _ (by show w1.heap.size ≠ gL; omega), heap_setCell_other _ _ _ _ (by show w1.heap.size ≠ gL; omega), heap_setCell_other _ _ _ _ (by show w1.heap.size ≠ gL; omega)]
          exact hr
        · have q : ∀ W j u, Spared w1 W (fun b => some b = Value.ownBlock (.slice (some ⟨gL, 0, none⟩) n cL)) → Spared w1 (W.setCell ⟨gL, j, none⟩ u) (fun b => some b = Value.ownBlock (.slice (some ⟨gL, 0, none⟩) n cL)) := fun W j u h =>
            h.trans (Spared.of_set W gL j u) (fun i _ hi => by rw [hi]; rfl)
          exact q _ _ _ (q _ _ _ (q _ _ _ (q _ _ _ hsp)))
      case measure => simp [intOf]; omega
    · obtain rfl : k = n := by omega
      have HF : Hid (Full wr base 52 (mkR m) (.slice aL k cL) k) := by
        have := HS.out.1
        rw [List.drop_eq_nil_of_le (by rw [HL1.out.1]; exact Nat.le_refl _), List.append_nil] at this
        exact this
      have hzr : w1.heap.size < wr.heap.size := lt_of_block HS.out.2.1
      have K0 : KSt w1 (wr.alloc (.cells #[.slice aL k cL, .slice none 0 0, .slice none 0 0, .slice none 0 0, .int .i64 m] 123)) base w1.heap.size wr.heap.size (mkR m) 52 123 (.slice aL k cL) k #[.slice aL k cL, .slice none 0 0, .slice none 0 0, .slice none 0 0, .int .i64 m] :=
        ⟨(Below.heap_alloc wr _ _ hzr).trans HS.out.2.1, heap_alloc_new wr _, World.ownsRow.alloc HF.out _, HS.out.2.2.trans (Spared.of_below ((Below.refl _ _).alloc (Nat.le_refl _) _) (fun _ => False)) (fun _ _ h => h.elim), Nat.le_refl _, by omega, fun j hj => ⟨(HL1.out.lt j hj).2, Nat.lt_trans (HL1.out.lt j hj).2 hzr⟩⟩
      have HK0 : Hid _ := K0
      clear K0 HS HF
      go_upto_region 7 with fail
      generalize hr0 : w1.heap.size = r0 at *
      generalize hx0 : wr.heap.size = x0 at *
      have HR0 : Hid (w1.heap.size = r0) := hr0
      have HX0 : Hid (wr.heap.size = x0) := hx0
      clear hr0 hx0
      go_cut [] (fun wc => ∃ va, Hid (KSt w1 wc base r0 x0 (mkR m) 52 123 (.slice aL k cL) k #[.slice aL k cL, va, .slice none 0 0, .slice none 0 0, .int .i64 m] ∧ Full wc base 52 (mkR m) va (k + 1)))
      case first =>
        have rc0 := HK0.out.rc 0
        have rc1 := HK0.out.rc 1
        have rc2 := HK0.out.rc 2
        have rc3 := HK0.out.rc 3
        simp only [mkR, List.getElem?_cons_zero, List.getElem?_cons_succ] at rc0 rc1 rc2 rc3
        have hz0 := HX0.out
        go_wp2_with (at_builtin; refine wpList_append_mark _ rfl (.tmp 26) (.tmp 28) 43 rfl base 52 iR (.agg #[.int .i64 0, .int .i64 0, .int .u8 0, .string ⟨#[]⟩]) (mkR m) 40 Try.underlying43 hiR hzR0 hzR1 hzR2 rfl (Nat.succ_pos _) (oneCell_nums _ rfl) _ _ rfl (World.ownsRow.alloc HK0.out.full _) ⟨x0 + 1, 0, none⟩ 1 1 rfl (news_at _ _ (by first | rfl | (simp; omega)) _ _ _ rfl) (by unfold maxLen; omega) (by omega) (by simp; omega) ?_; intro v2 w2 hF2 hg2 hst2; obtain ⟨a2, c2, rfl, _, _, _⟩ := own_read hF2; have hx2 := KSt.after HK0.out hg2; have x1 : w2.cell? ⟨x0, 1, none⟩ = some (.slice none 0 0) := (by simp [World.cell?, hx2]); have y1 : w2.frozen? ⟨x0, 1, none⟩ = false := (by simp [World.frozen?, hx2]))
        go_meet
        case rel =>
          have st := HK0.out.step (by decide) 1 hg2 hst2 hF2
          exact ⟨_, st.1, st.2.1⟩
      case rest =>
        obtain ⟨va, HH1⟩ := hcut
        have HK1 : Hid (KSt w1 wc base r0 x0 (mkR m) 52 123 (.slice aL k cL) k #[.slice aL k cL, va, .slice none 0 0, .slice none 0 0, .int .i64 m]) := HH1.out.1
        have HFa : Hid (Full wc base 52 (mkR m) va (k + 1)) := HH1.out.2
        clear HH1 HK0
        go_upto_region 8 with fail
        go_cut [] (fun wc => ∃ vb, Hid (KSt w1 wc base r0 x0 (mkR m) 52 123 (.slice aL k cL) k #[.slice aL k cL, va, vb, .slice none 0 0, .int .i64 m] ∧ Full wc base 52 (mkR m) va (k + 1) ∧ Full wc base 52 (mkR m) vb (k + 2)))
        case first =>
          have rc0 := HK1.out.rc 0
          have rc1 := HK1.out.rc 1
          have rc2 := HK1.out.rc 2
          have rc3 := HK1.out.rc 3
          simp only [mkR, List.getElem?_cons_zero, List.getElem?_cons_succ] at rc0 rc1 rc2 rc3
          have hrz := lt_of_block HK1.out.rb
          have hbz : base ≤ wc.heap.size := by omega
          go_wp2_with (at_builtin; refine wpList_append_mark _ rfl (.tmp 31) (.tmp 34) 43 rfl base 52 iR (.agg #[.int .i64 0, .int .i64 0, .int .u8 0, .string ⟨#[]⟩]) (mkR m) 40 Try.underlying43 hiR hzR0 hzR1 hzR2 rfl (Nat.succ_pos _) (oneCell_nums _ rfl) _ _ rfl (World.ownsRow.alloc HK1.out.full _) ⟨wc.heap.size, 0, none⟩ 2 2 rfl (news_at _ _ (by first | rfl | (simp; omega)) _ _ _ rfl) (by unfold maxLen; omega) (by omega) (by simp; omega) ?_; intro v2 w2 hF2 hg2 hst2; obtain ⟨a2, c2, rfl, _, _, _⟩ := own_read hF2; have hx2 := KSt.after HK1.out hg2; have x1 : w2.cell? ⟨x0, 2, none⟩ = some (.slice none 0 0) := (by simp [World.cell?, hx2]); have y1 : w2.frozen? ⟨x0, 2, none⟩ = false := (by simp [World.frozen?, hx2]))
          go_meet
          case rel =>
            have st := HK1.out.step (by decide) 2 hg2 hst2 hF2
            exact ⟨_, st.1, st.2.2 va (k + 1) (by omega) HFa.out, st.2.1⟩
        case rest =>
          obtain ⟨vb, HH2⟩ := hcut
          have HK2 : Hid (KSt w1 wc base r0 x0 (mkR m) 52 123 (.slice aL k cL) k #[.slice aL k cL, va, vb, .slice none 0 0, .int .i64 m]) := HH2.out.1
          have HFb : Hid (Full wc base 52 (mkR m) va (k + 1) ∧ Full wc base 52 (mkR m) vb (k + 2)) := HH2.out.2
          clear HH2 HK1 HFa
          go_upto_region 9 with fail
          go_cut [] (fun wc => ∃ vc, Hid (KSt w1 wc base r0 x0 (mkR m) 52 123 (.slice aL k cL) k #[.slice aL k cL, va, vb, vc, .int .i64 m] ∧ Full wc base 52 (mkR m) va (k + 1) ∧ Full wc base 52 (mkR m) vb (k + 2) ∧ Full wc base 52 (mkR m) vc (k + 3)))
          case first =>
            have rc0 := HK2.out.rc 0
            have rc1 := HK2.out.rc 1
            have rc2 := HK2.out.rc 2
            have rc3 := HK2.out.rc 3
            simp only [mkR, List.getElem?_cons_zero, List.getElem?_cons_succ] at rc0 rc1 rc2 rc3
            have hrz := lt_of_block HK2.out.rb
            have hbz : base ≤ wc.heap.size := by omega
            go_wp2_with (at_builtin; refine wpList_append_mark _ rfl (.tmp 37) (.tmp 41) 43 rfl base 52 iR (.agg #[.int .i64 0, .int .i64 0, .int .u8 0, .string ⟨#[]⟩]) (mkR m) 40 Try.underlying43 hiR hzR0 hzR1 hzR2 rfl (Nat.succ_pos _) (oneCell_nums _ rfl) _ _ rfl (World.ownsRow.alloc HK2.out.full _) ⟨wc.heap.size, 0, none⟩ 3 3 rfl (news_at _ _ (by first | rfl | (simp; omega)) _ _ _ rfl) (by unfold maxLen; omega) (by omega) (by simp; omega) ?_; intro v2 w2 hF2 hg2 hst2; obtain ⟨a2, c2, rfl, _, _, _⟩ := own_read hF2; have hx2 := KSt.after HK2.out hg2; have x1 : w2.cell? ⟨x0, 3, none⟩ = some (.slice none 0 0) := (by simp [World.cell?, hx2]); have y1 : w2.frozen? ⟨x0, 3, none⟩ = false := (by simp [World.frozen?, hx2]))
            go_meet
            case rel =>
              have st := HK2.out.step (by decide) 3 hg2 hst2 hF2
              exact ⟨_, st.1, st.2.2 va (k + 1) (by omega) HFb.out.1, st.2.2 vb (k + 2) (by omega) HFb.out.2, st.2.1⟩
          case rest =>
            obtain ⟨vc, HH3⟩ := hcut
            have HK3 : Hid (KSt w1 wc base r0 x0 (mkR m) 52 123 (.slice aL k cL) k #[.slice aL k cL, va, vb, vc, .int .i64 m]) := HH3.out.1
            have HFc : Hid (Full wc base 52 (mkR m) va (k + 1) ∧ Full wc base 52 (mkR m) vb (k + 2) ∧ Full wc base 52 (mkR m) vc (k + 3)) := HH3.out.2
            clear HH3 HK2 HFb
            go_upto_region 10 with fail
            have hsp := HK3.out.sp
            have hvl := HL1.out.lt
            have hgne : ¬ (some g = Value.ownBlock (.slice aL k cL)) := fun h => by have := (hvl g h.symm).1; omega
            have hgw : g < w1.heap.size := by have := HR0.out; omega
            have HBc : Hid (BookAt wc g o nI nW nR nG aI cI aW cW aR cR aG cG) := BookAt.kept HB1.out (hsp.block g hgw hgne)
            have HRcc : Hid (wc.ownsRow base 123 5 (.slice aR nR cR) nR rc) := ownsRow_spared HRc1.out hsp (fun j hj hs => by
              obtain ⟨cu, hh⟩ := own_tag HRc1.out hj
              exact own_ne HL1.out hh (by decide) hs.symm)
            obtain ⟨aa, ca, rfl, _, _, _⟩ := own_read HFc.out.1
            obtain ⟨ab, cb, rfl, _, _, _⟩ := own_read HFc.out.2.1
            obtain ⟨ac, cc, rfl, _, _, _⟩ := own_read HFc.out.2.2
            have c2 := HBc.out.c2
            have f2 := HBc.out.f2
            have x0c := (HK3.out.xc 0).1
            have x1c := (HK3.out.xc 1).1
            have x2c := (HK3.out.xc 2).1
            have x3c := (HK3.out.xc 3).1
            have x4c := (HK3.out.xc 4).1
            simp at x0c x1c x2c x3c x4c
            have hxz := lt_of_block HK3.out.xb
            have hgz : g < wc.heap.size := by have := hsp.size; omega
            have hbz : base ≤ wc.heap.size := by have := HR0.out; have := hsp.size; omega
            have HrowG : Hid (∀ j, Value.ownBlock (.slice aR nR cR) = some j → base ≤ j) := fun j hj => (HRcc.out.lt j hj).1
            have HrowX : Hid (Value.ownBlock (.slice aR nR cR) ≠ some x0) := fun h => by
              have h1 := (HRc1.out.lt x0 h).2
              have := HK3.out.xw
              omega
            clear hsp hvl hgne hgw
            obtain ⟨hn1, hn2, hn3, hn4⟩ := hnum
            go_region_law (first | (refine step_append_own rfl (.tmp 48) (.tmp 50) 33 rfl base 123 iE (.agg #[.slice none 0 0, .slice none 0 0, .slice none 0 0, .slice none 0 0, .int .i64 0]) 5 104 Try.underlying33 hiE hzE0 hzE1 hzE2 rfl (by decide) _ _ _ rfl (by exact (World.ownsRow.alloc HRcc.out _).drew) ⟨wc.heap.size, 0, none⟩ 1 1 [.slice aL k cL, .slice aa (k + 1) ca, .slice ab (k + 2) cb, .slice ac (k + 3) cc, .int .i64 m] rfl rfl (by exact news_at _ _ rfl _ _ _ rfl) (oneCell_nums _ rfl) (by unfold maxLen; omega) (by omega) (by simp; omega) ?_; intro v' w3 hown' hgrow; obtain ⟨a3, c3, rfl, _, _, _⟩ := own_read hown'; have kg := block_at hgrow g (by simp; omega) (fun h => by have := HrowG.out g h.symm; omega); have kx := block_at hgrow x0 (by simp; omega) (fun h => HrowX.out h.symm); have e0 : w3.cell? ⟨g, o + 2, none⟩ = some (.slice aR nR cR) := (by rw [kg.1]; simp [go_sem, c2, hgz]); have e1 : w3.frozen? ⟨g, o + 2, none⟩ = false := (by rw [kg.2]; simp [go_sem, f2, hgz])))
            all_goals
              go_wp2
              go_end0
              refine ⟨rfl, ?_⟩
              rw [HM.out]
              refine ⟨_, _, _, _, _, ?_, ownsRow_setCell_below hown' hgb _, full_end HK3.out.full HRcc.out (by decide) hgrow hgb, full_end HFc.out.1 HRcc.out (by decide) hgrow hgb, full_end HFc.out.2.1 HRcc.out (by decide) hgrow hgb, full_end HFc.out.2.2 HRcc.out (by decide) hgrow hgb, ?_⟩
              · have hk : w3.heap[g]? = wc.heap[g]? := (hgrow.block g (by simp; omega) (fun h => by have := HrowG.out g h.symm; omega)).trans (Below.heap_alloc wc _ g hgz)
                have B := BookAt.kept HBc.out hk
                refine ⟨?_, ?_, ?_, ?_, ?_, ?_, ?_, ?_⟩
                · rw [World.cell?_setCell_other _ _ _ _ (by simp)]; exact B.c0
                · rw [World.cell?_setCell_other _ _ _ _ (by simp)]; exact B.c1
                · exact World.cell?_setCell_same _ _ _ B.c2
                · rw [World.cell?_setCell_other _ _ _ _ (by simp)]; exact B.c3
                · rw [World.frozen?_setCell]; exact B.f0
                · rw [World.frozen?_setCell]; exact B.f1
                · rw [World.frozen?_setCell]; exact B.f2
                · rw [World.frozen?_setCell]; exact B.f3
              · exact spared_end Hsp1.out.1 (HR0.out.trans Hsp1.out.2) HK3.out.sp hgrow

def mkG (m : Int) : List Value := [.int .i64 m, .int .i64 m]
theorem info_gapE : (Try.prog.info? 125).map (fun i => (i.zero, i.size, i.bytes)) = some (some (.agg #[.slice none 0 0, .slice none 0 0, .slice none 0 0, .slice none 0 0, .int .i64 0]), 5, 104) := by kernel_rfl

set_option maxRecDepth 100000 in
set_option maxHeartbeats 2000000 in
theorem keepGaps_any (g o nI nW nR nG : Nat) (aI : Option Addr) (cI : Nat) (aW : Option Addr) (cW : Nat) (aR : Option Addr) (cR : Nat) (aG : Option Addr) (cG : Nat) (base n : Nat) (vL : Value) (xs rc : List Value) (w : World)
    (hB : BookAt w g o nI nW nR nG aI cI aW cW aR cR aG cG) (hnum : nI ≤ 100000000 ∧ nW ≤ 100000000 ∧ nR ≤ 100000000 ∧ nG ≤ 100000000) (hgb : g < base) (hbw : base ≤ w.heap.size)
    (hL : w.ownsRow base 50 2 vL n xs) (hn : n ≤ 1000) (hRc : w.ownsRow base 125 5 (.slice aG nG cG) nG rc) :
    Calls Try.prog 45 #[.pointer (some ⟨g, o, none⟩), vL] w fun e w' => e = .returned (.tuple #[]) ∧ ∃ aG' cG' va vb vc, BookAt w' g o nI nW nR (nG + 1) aI cI aW cW aR cR aG' cG' ∧
      w'.ownsRow base 125 5 (.slice aG' (nG + 1) cG') (nG + 1) (rc ++ [vL, va, vb, vc, .int .i64 (-1000 - (nI : Int) - nW - nR - nG)]) ∧
      Full w' base 50 (mkG (-1000 - (nI : Int) - nW - nR - nG)) vL n ∧ Full w' base 50 (mkG (-1000 - (nI : Int) - nW - nR - nG)) va (n + 1) ∧ Full w' base 50 (mkG (-1000 - (nI : Int) - nW - nR - nG)) vb (n + 2) ∧ Full w' base 50 (mkG (-1000 - (nI : Int) - nW - nR - nG)) vc (n + 3) ∧
      Spared w w' (fun k => k = g ∨ some k = vL.ownBlock ∨ some k = Value.ownBlock (.slice aG nG cG)) := by
  obtain ⟨iR, hiR, hzR0, hzR1, hzR2⟩ := info_parts info_gap
  obtain ⟨iE, hiE, hzE0, hzE1, hzE2⟩ := info_parts info_gapE
  have HB : Hid _ := hB
  have HL : Hid _ := hL
  have HRc : Hid _ := hRc
  obtain ⟨aL, cL, rfl, hL1, hL2, _⟩ := own_read hL
  unfold maxLen at hL2
  clear hB hL hRc
  go_enter Try.func45, Try.ntmps45
  go_wp2_with fail
  refine (number_any g o nI nW nR nG aI cI aW cW aR cR aG cG _ HB.out hnum).mono ?_
  rintro e w1 ⟨rfl, hw⟩
  obtain ⟨hb1, hs1⟩ := below_of_drewN hw
  clear hw
  have HL1 : Hid (w1.ownsRow base 50 2 (.slice aL n cL) n xs) := ownsRow_below HL.out hb1
  have HB1 : Hid (BookAt w1 g o nI nW nR nG aI cI aW cW aR cR aG cG) := BookAt.below HB.out hb1 (by omega)
  have HRc1 : Hid (w1.ownsRow base 125 5 (.slice aG nG cG) nG rc) := ownsRow_below HRc.out hb1
  have Hsp1 : Hid (Below w.heap.size w w1 ∧ w1.heap.size = w.heap.size) := ⟨hb1, hs1⟩
  clear HL HB HRc hb1 hs1
  generalize hm0 : (-1000 - (nI : Int) - nW - nR - nG) = m
  have HM : Hid (-1000 - (nI : Int) - nW - nR - nG = m) := hm0
  clear hm0
  have hbw1 : base ≤ w1.heap.size := by have := Hsp1.out.2; omega
  clear hbw
  go_wp2
  go_loopw [6] (fun i wr => ∃ k : Nat, k ≤ n ∧ i = .int .i64 k ∧ Hid (wr.ownsRow base 50 2 (.slice aL n cL) n (fills (mkG m) k ++ xs.drop (k * 2)) ∧ wr.heap[w1.heap.size]? = some (.cells (mkG m).toArray 50 (0, 0)) ∧ Spared w1 wr (fun b => some b = Value.ownBlock (.slice aL n cL)))) (fun i _ => n - (intOf i).toNat)
  case atStart => exact ⟨0, by omega, rfl, by simpa [fills] using World.ownsRow.alloc HL1.out _, heap_alloc_new w1 _, Spared.of_below ((Below.refl _ _).alloc (Nat.le_refl _) _) _⟩
  case round =>
    obtain ⟨k, hk, rfl, HS⟩ := hrel
    by_cases hlt : k < n
    · obtain ⟨ho, hr, hsp⟩ := HS.out
      obtain ⟨a', c', he, _, _, HRd⟩ := own_read ho
      simp at he
      obtain ⟨rfl, rfl⟩ := he
      obtain ⟨gL, rfl, hg1, hg2, hg3⟩ := HRd (by omega)
      have hxl := HL1.out.1
      have hll := ho.1
      have hgw : gL < w1.heap.size := (HL1.out.lt gL rfl).2
      have ex : ∀ j, j < 2 → ∃ u, wr.cell? ⟨gL, k * 2 + j, none⟩ = some u := by
        intro j hj
        rw [hg3 (k * 2 + j) (by omega)]
        exact ⟨_, List.getElem?_eq_getElem (by omega)⟩
      obtain ⟨u0, d0⟩ := ex 0 (by omega)
      obtain ⟨u1, d1⟩ := ex 1 (by omega)
      rw [Nat.add_zero] at d0
      have f0 := ho.frozenAt (k * 2)
      have f1 := ho.frozenAt (k * 2 + 1)
      have r0 : wr.cell? ⟨w1.heap.size, 0, none⟩ = some (.int .i64 m) := by simp [World.cell?, hr, mkG]
      have r1 : wr.cell? ⟨w1.heap.size, 1, none⟩ = some (.int .i64 m) := by simp [World.cell?, hr, mkG]
      clear ex HRd hg3 ho hr hsp
      go_wp2
      go_roundw
      case rel =>
        obtain ⟨ho, hr, hsp⟩ := HS.out
        have s0 := World.ownsRow.stored ho (k * 2) (.int .i64 m)
        have s1 := World.ownsRow.stored s0.1 (k * 2 + 1) (.int .i64 m)
        refine ⟨k + 1, by omega, by go_num, ?_, ?_, ?_⟩
        · have := fill_set2 (.int .i64 m) (.int .i64 m) k xs (by omega)
          have h3 := s1.1
          rw [show fills (mkG m) k = fills [.int .i64 m, .int .i64 m] k from rfl, this] at h3
          exact h3
        · rw [heap_setCell_other _ _ _ _ (by show w1.heap.size ≠ gL; omega), heap_setCell_other _ _ _ _ (by show w1.heap.size ≠ gL; omega)]
          exact hr
        · have q : ∀ W j u, Spared w1 W (fun b => some b = Value.ownBlock (.slice (some ⟨gL, 0, none⟩) n cL)) → Spared w1 (W.setCell ⟨gL, j, none⟩ u) (fun b => some b = Value.ownBlock (.slice (some ⟨gL, 0, none⟩) n cL)) := fun W j u h =>
            h.trans (Spared.of_set W gL j u) (fun i _ hi => by rw [hi]; rfl)
          exact q _ _ _ (q _ _ _ hsp)
      case measure => simp [intOf]; omega
    · obtain rfl : k = n := by omega
      have HF : Hid (Full wr base 50 (mkG m) (.slice aL k cL) k) := by
        have := HS.out.1
        rw [List.drop_eq_nil_of_le (by rw [HL1.out.1]; exact Nat.le_refl _), List.append_nil] at this
        exact this
      have hzr : w1.heap.size < wr.heap.size := lt_of_block HS.out.2.1
      have K0 : KSt w1 (wr.alloc (.cells #[.slice aL k cL, .slice none 0 0, .slice none 0 0, .slice none 0 0, .int .i64 m] 125)) base w1.heap.size wr.heap.size (mkG m) 50 125 (.slice aL k cL) k #[.slice aL k cL, .slice none 0 0, .slice none 0 0, .slice none 0 0, .int .i64 m] :=
        ⟨(Below.heap_alloc wr _ _ hzr).trans HS.out.2.1, heap_alloc_new wr _, World.ownsRow.alloc HF.out _, HS.out.2.2.trans (Spared.of_below ((Below.refl _ _).alloc (Nat.le_refl _) _) (fun _ => False)) (fun _ _ h => h.elim), Nat.le_refl _, by omega, fun j hj => ⟨(HL1.out.lt j hj).2, Nat.lt_trans (HL1.out.lt j hj).2 hzr⟩⟩
      have HK0 : Hid _ := K0
      clear K0 HS HF
      go_upto_region 7 with fail
      generalize hr0 : w1.heap.size = r0 at *
      generalize hx0 : wr.heap.size = x0 at *
      have HR0 : Hid (w1.heap.size = r0) := hr0
      have HX0 : Hid (wr.heap.size = x0) := hx0
      clear hr0 hx0
      go_cut [] (fun wc => ∃ va, Hid (KSt w1 wc base r0 x0 (mkG m) 50 125 (.slice aL k cL) k #[.slice aL k cL, va, .slice none 0 0, .slice none 0 0, .int .i64 m] ∧ Full wc base 50 (mkG m) va (k + 1)))
      case first =>
        have rc0 := HK0.out.rc 0
        have rc1 := HK0.out.rc 1
        simp only [mkG, List.getElem?_cons_zero, List.getElem?_cons_succ] at rc0 rc1
        have hz0 := HX0.out
        go_wp2_with (at_builtin; refine wpList_append_mark _ rfl (.tmp 26) (.tmp 28) 44 rfl base 50 iR (.agg #[.int .i64 0, .int .i64 0]) (mkG m) 16 Try.underlying44 hiR hzR0 hzR1 hzR2 rfl (Nat.succ_pos _) (oneCell_nums _ rfl) _ _ rfl (World.ownsRow.alloc HK0.out.full _) ⟨x0 + 1, 0, none⟩ 1 1 rfl (news_at _ _ (by first | rfl | (simp; omega)) _ _ _ rfl) (by unfold maxLen; omega) (by omega) (by simp; omega) ?_; intro v2 w2 hF2 hg2 hst2; obtain ⟨a2, c2, rfl, _, _, _⟩ := own_read hF2; have hx2 := KSt.after HK0.out hg2; have x1 : w2.cell? ⟨x0, 1, none⟩ = some (.slice none 0 0) := (by simp [World.cell?, hx2]); have y1 : w2.frozen? ⟨x0, 1, none⟩ = false := (by simp [World.frozen?, hx2]))
        go_meet
        case rel =>
          have st := HK0.out.step (by decide) 1 hg2 hst2 hF2
          exact ⟨_, st.1, st.2.1⟩
      case rest =>
        obtain ⟨va, HH1⟩ := hcut
        have HK1 : Hid (KSt w1 wc base r0 x0 (mkG m) 50 125 (.slice aL k cL) k #[.slice aL k cL, va, .slice none 0 0, .slice none 0 0, .int .i64 m]) := HH1.out.1
        have HFa : Hid (Full wc base 50 (mkG m) va (k + 1)) := HH1.out.2
        clear HH1 HK0
        go_upto_region 8 with fail
        go_cut [] (fun wc => ∃ vb, Hid (KSt w1 wc base r0 x0 (mkG m) 50 125 (.slice aL k cL) k #[.slice aL k cL, va, vb, .slice none 0 0, .int .i64 m] ∧ Full wc base 50 (mkG m) va (k + 1) ∧ Full wc base 50 (mkG m) vb (k + 2)))
        case first =>
          have rc0 := HK1.out.rc 0
          have rc1 := HK1.out.rc 1
          simp only [mkG, List.getElem?_cons_zero, List.getElem?_cons_succ] at rc0 rc1
          have hrz := lt_of_block HK1.out.rb
          have hbz : base ≤ wc.heap.size := by omega
          go_wp2_with (at_builtin; refine wpList_append_mark _ rfl (.tmp 31) (.tmp 34) 44 rfl base 50 iR (.agg #[.int .i64 0, .int .i64 0]) (mkG m) 16 Try.underlying44 hiR hzR0 hzR1 hzR2 rfl (Nat.succ_pos _) (oneCell_nums _ rfl) _ _ rfl (World.ownsRow.alloc HK1.out.full _) ⟨wc.heap.size, 0, none⟩ 2 2 rfl (news_at _ _ (by first | rfl | (simp; omega)) _ _ _ rfl) (by unfold maxLen; omega) (by omega) (by simp; omega) ?_; intro v2 w2 hF2 hg2 hst2; obtain ⟨a2, c2, rfl, _, _, _⟩ := own_read hF2; have hx2 := KSt.after HK1.out hg2; have x1 : w2.cell? ⟨x0, 2, none⟩ = some (.slice none 0 0) := (by simp [World.cell?, hx2]); have y1 : w2.frozen? ⟨x0, 2, none⟩ = false := (by simp [World.frozen?, hx2]))
          go_meet
          case rel =>
            have st := HK1.out.step (by decide) 2 hg2 hst2 hF2
            exact ⟨_, st.1, st.2.2 va (k + 1) (by omega) HFa.out, st.2.1⟩
        case rest =>
          obtain ⟨vb, HH2⟩ := hcut
          have HK2 : Hid (KSt w1 wc base r0 x0 (mkG m) 50 125 (.slice aL k cL) k #[.slice aL k cL, va, vb, .slice none 0 0, .int .i64 m]) := HH2.out.1
          have HFb : Hid (Full wc base 50 (mkG m) va (k + 1) ∧ Full wc base 50 (mkG m) vb (k + 2)) := HH2.out.2
          clear HH2 HK1 HFa
          go_upto_region 9 with fail
          go_cut [] (fun wc => ∃ vc, Hid (KSt w1 wc base r0 x0 (mkG m) 50 125 (.slice aL k cL) k #[.slice aL k cL, va, vb, vc, .int .i64 m] ∧ Full wc base 50 (mkG m) va (k + 1) ∧ Full wc base 50 (mkG m) vb (k + 2) ∧ Full wc base 50 (mkG m) vc (k + 3)))
          case first =>
            have rc0 := HK2.out.rc 0
            have rc1 := HK2.out.rc 1
            simp only [mkG, List.getElem?_cons_zero, List.getElem?_cons_succ] at rc0 rc1
            have hrz := lt_of_block HK2.out.rb
            have hbz : base ≤ wc.heap.size := by omega
            go_wp2_with (at_builtin; refine wpList_append_mark _ rfl (.tmp 37) (.tmp 41) 44 rfl base 50 iR (.agg #[.int .i64 0, .int .i64 0]) (mkG m) 16 Try.underlying44 hiR hzR0 hzR1 hzR2 rfl (Nat.succ_pos _) (oneCell_nums _ rfl) _ _ rfl (World.ownsRow.alloc HK2.out.full _) ⟨wc.heap.size, 0, none⟩ 3 3 rfl (news_at _ _ (by first | rfl | (simp; omega)) _ _ _ rfl) (by unfold maxLen; omega) (by omega) (by simp; omega) ?_; intro v2 w2 hF2 hg2 hst2; obtain ⟨a2, c2, rfl, _, _, _⟩ := own_read hF2; have hx2 := KSt.after HK2.out hg2; have x1 : w2.cell? ⟨x0, 3, none⟩ = some (.slice none 0 0) := (by simp [World.cell?, hx2]); have y1 : w2.frozen? ⟨x0, 3, none⟩ = false := (by simp [World.frozen?, hx2]))
            go_meet
            case rel =>
              have st := HK2.out.step (by decide) 3 hg2 hst2 hF2
              exact ⟨_, st.1, st.2.2 va (k + 1) (by omega) HFb.out.1, st.2.2 vb (k + 2) (by omega) HFb.out.2, st.2.1⟩
          case rest =>
            obtain ⟨vc, HH3⟩ := hcut
            have HK3 : Hid (KSt w1 wc base r0 x0 (mkG m) 50 125 (.slice aL k cL) k #[.slice aL k cL, va, vb, vc, .int .i64 m]) := HH3.out.1
            have HFc : Hid (Full wc base 50 (mkG m) va (k + 1) ∧ Full wc base 50 (mkG m) vb (k + 2) ∧ Full wc base 50 (mkG m) vc (k + 3)) := HH3.out.2
            clear HH3 HK2 HFb
            go_upto_region 10 with fail
            have hsp := HK3.out.sp
            have hvl := HL1.out.lt
            have hgne : ¬ (some g = Value.ownBlock (.slice aL k cL)) := fun h => by have := (hvl g h.symm).1; omega
            have hgw : g < w1.heap.size := by have := HR0.out; omega
            have HBc : Hid (BookAt wc g o nI nW nR nG aI cI aW cW aR cR aG cG) := BookAt.kept HB1.out (hsp.block g hgw hgne)
            have HRcc : Hid (wc.ownsRow base 125 5 (.slice aG nG cG) nG rc) := ownsRow_spared HRc1.out hsp (fun j hj hs => by
              obtain ⟨cu, hh⟩ := own_tag HRc1.out hj
              exact own_ne HL1.out hh (by decide) hs.symm)
            obtain ⟨aa, ca, rfl, _, _, _⟩ := own_read HFc.out.1
            obtain ⟨ab, cb, rfl, _, _, _⟩ := own_read HFc.out.2.1
            obtain ⟨ac, cc, rfl, _, _, _⟩ := own_read HFc.out.2.2
            have c2 := HBc.out.c3
            have f2 := HBc.out.f3
            have x0c := (HK3.out.xc 0).1
            have x1c := (HK3.out.xc 1).1
            have x2c := (HK3.out.xc 2).1
            have x3c := (HK3.out.xc 3).1
            have x4c := (HK3.out.xc 4).1
            simp at x0c x1c x2c x3c x4c
            have hxz := lt_of_block HK3.out.xb
            have hgz : g < wc.heap.size := by have := hsp.size; omega
            have hbz : base ≤ wc.heap.size := by have := HR0.out; have := hsp.size; omega
            have HrowG : Hid (∀ j, Value.ownBlock (.slice aG nG cG) = some j → base ≤ j) := fun j hj => (HRcc.out.lt j hj).1
            have HrowX : Hid (Value.ownBlock (.slice aG nG cG) ≠ some x0) := fun h => by
              have h1 := (HRc1.out.lt x0 h).2
              have := HK3.out.xw
              omega
            clear hsp hvl hgne hgw
            obtain ⟨hn1, hn2, hn3, hn4⟩ := hnum
            go_region_law (first | (refine step_append_own rfl (.tmp 48) (.tmp 50) 34 rfl base 125 iE (.agg #[.slice none 0 0, .slice none 0 0, .slice none 0 0, .slice none 0 0, .int .i64 0]) 5 104 Try.underlying34 hiE hzE0 hzE1 hzE2 rfl (by decide) _ _ _ rfl (by exact (World.ownsRow.alloc HRcc.out _).drew) ⟨wc.heap.size, 0, none⟩ 1 1 [.slice aL k cL, .slice aa (k + 1) ca, .slice ab (k + 2) cb, .slice ac (k + 3) cc, .int .i64 m] rfl rfl (by exact news_at _ _ rfl _ _ _ rfl) (oneCell_nums _ rfl) (by unfold maxLen; omega) (by omega) (by simp; omega) ?_; intro v' w3 hown' hgrow; obtain ⟨a3, c3, rfl, _, _, _⟩ := own_read hown'; have kg := block_at hgrow g (by simp; omega) (fun h => by have := HrowG.out g h.symm; omega); have kx := block_at hgrow x0 (by simp; omega) (fun h => HrowX.out h.symm); have e0 : w3.cell? ⟨g, o + 3, none⟩ = some (.slice aG nG cG) := (by rw [kg.1]; simp [go_sem, c2, hgz]); have e1 : w3.frozen? ⟨g, o + 3, none⟩ = false := (by rw [kg.2]; simp [go_sem, f2, hgz])))
            all_goals
              go_wp2
              go_end0
              refine ⟨rfl, ?_⟩
              rw [HM.out]
              refine ⟨_, _, _, _, _, ?_, ownsRow_setCell_below hown' hgb _, full_end HK3.out.full HRcc.out (by decide) hgrow hgb, full_end HFc.out.1 HRcc.out (by decide) hgrow hgb, full_end HFc.out.2.1 HRcc.out (by decide) hgrow hgb, full_end HFc.out.2.2 HRcc.out (by decide) hgrow hgb, ?_⟩
              · have hk : w3.heap[g]? = wc.heap[g]? := (hgrow.block g (by simp; omega) (fun h => by have := HrowG.out g h.symm; omega)).trans (Below.heap_alloc wc _ g hgz)
                have B := BookAt.kept HBc.out hk
                refine ⟨?_, ?_, ?_, ?_, ?_, ?_, ?_, ?_⟩
                · rw [World.cell?_setCell_other _ _ _ _ (by simp)]; exact B.c0
                · rw [World.cell?_setCell_other _ _ _ _ (by simp)]; exact B.c1
                · rw [World.cell?_setCell_other _ _ _ _ (by simp)]; exact B.c2
                · exact World.cell?_setCell_same _ _ _ B.c3
                · rw [World.frozen?_setCell]; exact B.f0
                · rw [World.frozen?_setCell]; exact B.f1
                · rw [World.frozen?_setCell]; exact B.f2
                · rw [World.frozen?_setCell]; exact B.f3
              · exact spared_end Hsp1.out.1 (HR0.out.trans Hsp1.out.2) HK3.out.sp hgrow
end Go.Proofs.Ytfpodnleimhohaa
