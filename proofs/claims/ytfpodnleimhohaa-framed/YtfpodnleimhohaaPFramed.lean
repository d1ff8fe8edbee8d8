/-
  THE STATEMENT 'Framed': the walk of the law, and its row.
-/
import Derived.Test.YtfpodnleimhohaaLay
import Derived.Test.YtfpodnleimhohaaOpen
namespace Go.Proofs.Ytfpodnleimhohaa
open Go.ChangeShapes Go.WideShapes Go.ChangeAt Go.RowKit
open Go.ChangeMaps (open_string shut_string)
set_option linter.unusedVariables false

set_option maxRecDepth 100000 in
set_option maxHeartbeats 2000000 in
theorem framed_walk (a0 : Option Addr) (len0 cap0 : Nat) (L0 : Nat → Int) (T0 : Nat → ByteArray) (a1 : Option Addr) (len1 cap1 : Nat) (T1 : Nat → ByteArray) (w : World)
    (h0 : IsExs w a0 len0 cap0 L0 T0) (hm0 : len0 ≤ maxLen) (h1 : IsStrs w a1 len1 cap1 T1) (hm1 : len1 ≤ maxLen) :
    Calls Try.prog 5 #[.slice a0 len0 cap0, .slice a1 len1 cap1] w fun e w' => e = .returned (.bool true) ∧ Below w.heap.size w w' := by
  go_enter Try.func5, Try.ntmps5
  go_wp2_with fail
  refine (first_any _).mono ?_
  rintro e w1 ⟨rfl, hb1⟩
  have h0' : IsExs w1 a0 len0 cap0 L0 T0 := by
    rcases h0 with h | ⟨b, off, e1, e2, e3, e4, e5⟩
    · exact .inl h
    · exact .inr ⟨b, off, e1, e2, e3, Nat.lt_of_lt_of_le e4 hb1.size, fun i hi => ⟨(hb1.cell (p := ⟨b, off + i * 2, none⟩) e4).trans (e5 i hi).1, (hb1.cell (p := ⟨b, off + i * 2 + 1, none⟩) e4).trans (e5 i hi).2.1, (e5 i hi).2.2⟩⟩
  have H0 : Hid (IsExs w1 a0 len0 cap0 L0 T0) := h0'
  have H1 : Hid (IsStrs w1 a1 len1 cap1 T1) := h1.later hb1
  clear h0 h0' h1
  go_wp2_with fail
  refine (examples_any a0 len0 cap0 L0 T0 _ H0.out hm0).mono ?_
  rintro e w2 ⟨vX, rfl, hX, hb2⟩
  have hX8 := exs_len len0 L0 T0
  have HXok : Hid _ := exs_ok len0 L0 T0
  generalize exs len0 L0 T0 = X at *
  clear H0
  have HoX : Hid _ := hX
  clear hX
  go_wp2_with fail
  refine (frames_any _ vX X _ HoX.out HXok.out hX8.2).mono ?_
  rintro e w3 ⟨vF, rfl, hF, hb3⟩
  have HoF : Hid _ := hF
  have HoX3 : Hid _ := ownsRow_below HoX.out hb3
  clear hF HoX
  have HT3 : Hid (IsStrs w3 a1 len1 cap1 T1) := IsStrs.later (IsStrs.later H1.out hb2) hb3
  clear H1
  go_wp2_with fail
  refine (laid_any _ vF (framesL X) _ (by rw [show (framesL X).length = X.length by simp [framesL]]; exact HoF.out) (framesL_le HXok.out) (by simpa [framesL] using hX8.2) a1 len1 cap1 T1 hm1 HT3.out).mono ?_
  rintro e w3' ⟨rfl, hw⟩
  subst hw
  obtain ⟨s, HS, hs⟩ : ∃ s : ByteArray, Hid (bs (layFrom (noiseL T1 len1) 0 (framesL X)) = s) ∧ s.size ≤ 600 :=
    ⟨_, (rfl : _ = _), by rw [bs_size]; have := layFrom_len (noiseL T1 len1) (noiseL_le T1 len1) (framesL X) 0 (framesL_le HXok.out); have e : (framesL X).length = X.length := by simp [framesL]
                          omega⟩
  rw [HS.out]
  go_wp2_with fail
  refine (drillScan_any s hs _).mono ?_
  rintro e w4 ⟨vR, vG, rfl, hR, hG, hb4⟩
  have hst : FSt (ls s) (noiseL T1 len1) (bodies X) (recs (ls s)) (gaps (ls s)) 0 0 0 :=
    FSt.start _ _ _ (by rw [← HS.out, ls_bs, frames_bodies]) (noiseL_213 T1 len1) (bodies_ok HXok.out)
  have hRl := hst.rlen
  generalize recs (ls s) = R at *
  generalize gaps (ls s) = G at *
  obtain ⟨aR, cR, rfl, hcR1, hcR2, HR⟩ := own_read hR
  obtain ⟨aG, cG, rfl, hcG1, hcG2, HG⟩ := own_read hG
  obtain ⟨aX, cX, rfl, hcX1, hcX2, HX⟩ := own_read (ownsRow_below HoX3.out hb4)
  obtain ⟨aF, cF, rfl, hcF1, hcF2, HF⟩ := own_read (ownsRow_below HoF.out hb4)
  have hbel := ((hb1.trans (hb2.mono hb1.size)).trans (hb3.mono (Nat.le_trans hb1.size hb2.size))).trans (hb4.mono (Nat.le_trans hb1.size (Nat.le_trans hb2.size hb3.size)))
  have HT4 : Hid (IsStrs w4 a1 len1 cap1 T1) := IsStrs.later HT3.out hb4
  have HR' : Hid _ := HR
  have HG' : Hid _ := HG
  have HX' : Hid _ := HX
  have HF' : Hid _ := HF
  have HP : Hid _ := hst
  rw [show (bodies X).length = X.length by simp [bodies]] at hRl
  unfold maxLen at hcR2 hcG2 hcX2 hcF2
  clear HR HG HX HF hst hb1 hb2 hb3 hb4 hR hG HoX3 HoF HT3 HS
  have HRl : Hid (R.length = X.length) := hRl
  have hXb : X.length ≤ 8 := hX8.2
  have hRb : (R.length : Int) = (X.length : Int) := by omega
  clear hX8
  go_wp2
  go_loopw [12, 13, 14] (fun p k i wr => ∃ (P K I : Nat), p = .int .i64 P ∧ k = .int .i64 K ∧ i = .int .i64 I ∧ P ≤ 600 ∧ K ≤ G.length ∧ I ≤ X.length + 1 ∧ Hid ((I ≤ X.length ∧ FSt (ls s) (noiseL T1 len1) (bodies X) R G P K I) ∨ (I = X.length + 1 ∧ K = G.length)) ∧ Below w4.heap.size w4 wr) (fun _ _ i _ => X.length + 1 - (intOf i).toNat)
  case atStart => exact ⟨0, 0, 0, rfl, rfl, rfl, by omega, by omega, by omega, .inl ⟨by omega, HP⟩, Below.refl _ _⟩
  case round =>
    obtain ⟨P, K, I, rfl, rfl, rfl, hPb, hKG, hIX, HST, hbr⟩ := hrel
    clear HP
    by_cases hI : I ≤ X.length
    · obtain ⟨_, hF⟩ : I ≤ X.length ∧ FSt (ls s) (noiseL T1 len1) (bodies X) R G P K I := by
        rcases HST.out with h | ⟨h, _⟩
        · exact h
        · omega
      obtain ⟨K', g1, g2, g3, g4, g5, g6⟩ := hF.step
      rw [ls_length] at g4
      have HTr : Hid (IsStrs wr a1 len1 cap1 T1) := IsStrs.later HT4.out hbr
      have HG6 : Hid (∀ hlt : I < X.length, I < R.length ∧ R[I]? = some ⟨P + (noiseL T1 len1 I).length, P + (noiseL T1 len1 I).length + (frameB (body (X[I]'hlt).1 (X[I]'hlt).2)).length, body (X[I]'hlt).1 (X[I]'hlt).2⟩ ∧ FSt (ls s) (noiseL T1 len1) (bodies X) R G (P + (noiseL T1 len1 I).length + (frameB (body (X[I]'hlt).1 (X[I]'hlt).2)).length) K' (I + 1)) :=
        fun hlt => g5 _ (by simp [bodies, List.getElem?_eq_getElem hlt])
      have HG7 : Hid (I = X.length → K' = G.length) := fun h => g6 (by simpa [bodies] using h)
      clear g5 g6 hF HST
      have hnz : (bs (noiseL T1 len1 I)).size = (noiseL T1 len1 I).length := bs_size _
      go_wp2_with fail
      refine (noise_any a1 len1 cap1 T1 I (by omega) hm1 _ HTr.out).mono ?_
      rintro e w5 ⟨rfl, hw⟩
      have hw' := hw.symm
      clear hw
      subst hw'
      generalize bs (noiseL T1 len1 I) = Nb at *
      generalize (noiseL T1 len1 I).length = n at *
      have hn12 : n ≤ 600 := by omega
      by_cases hn : 0 < n
      · obtain ⟨k1, k2, hK'⟩ := g1 hn
        have HK' : Hid (K' = K + 1) := hK'
        clear hK'
        obtain ⟨gG, rfl, hgG1, hgG2, hgG3⟩ := HG'.out (by omega)
        obtain ⟨q0, q1⟩ := gap_get k2
        have e0 := ((hbr.cell (p := ⟨gG, K * 2, none⟩) hgG2).trans (hgG3 _ (by omega))).trans q0
        have e1 := ((hbr.cell (p := ⟨gG, K * 2 + 1, none⟩) hgG2).trans (hgG3 _ (by omega))).trans q1
        rw [show ((P + n : Nat) : Int) = (P : Int) + n by omega] at e1
        clear q0 q1 hgG3 g1 g2 k2
        by_cases hlt : I < X.length
        · obtain ⟨gR, rfl, hgR1, hgR2, hgR3⟩ := HR'.out (by omega)
          obtain ⟨gX, rfl, hgX1, hgX2, hgX3⟩ := HX'.out (by omega)
          obtain ⟨gF, rfl, hgF1, hgF2, hgF3⟩ := HF'.out (by omega)
          obtain ⟨r1, r2, HN⟩ := HG6.out hlt
          obtain ⟨p0, p1, p2, p3⟩ := rec_get r2
          obtain ⟨x0, x1⟩ := ex_get (List.getElem?_eq_getElem hlt)
          have f0 : (strCells (framesL X))[I]? = some (.string (bs (frame (X[I]'hlt).1 (X[I]'hlt).2))) := by
            simp [strCells, framesL, List.getElem?_eq_getElem hlt]
          have hok := HXok.out _ (List.getElem_mem hlt)
          have c0 := ((hbr.cell (p := ⟨gR, I * 4, none⟩) hgR2).trans (hgR3 _ (by omega))).trans p0
          have c1 := ((hbr.cell (p := ⟨gR, I * 4 + 1, none⟩) hgR2).trans (hgR3 _ (by omega))).trans p1
          have c2 := ((hbr.cell (p := ⟨gR, I * 4 + 2, none⟩) hgR2).trans (hgR3 _ (by omega))).trans p2
          have c3 := ((hbr.cell (p := ⟨gR, I * 4 + 3, none⟩) hgR2).trans (hgR3 _ (by omega))).trans p3
          have c4 := ((hbr.cell (p := ⟨gX, I * 2, none⟩) hgX2).trans (hgX3 _ (by omega))).trans x0
          have c5 := ((hbr.cell (p := ⟨gX, I * 2 + 1, none⟩) hgX2).trans (hgX3 _ (by omega))).trans x1
          have c6 := ((hbr.cell (p := ⟨gF, I, none⟩) hgF2).trans (hgF3 _ (by omega))).trans f0
          have HN' : Hid _ := HN
          clear HN p0 p1 p2 p3 x0 x1 f0 hgR3 hgX3 hgF3 r1 r2
          have fl := frame_len (X[I]'hlt).1 (X[I]'hlt).2 hok.2.2
          have lb := by8_toNat (X[I]'hlt).1 hok.1 (by have := hok.2.1; omega)
          simp only [body, List.headD_cons, List.tail_cons] at c0 c1 c2 c3
          have fle : (frameB (by8 (X[I]'hlt).1 :: (X[I]'hlt).2)).length = (X[I]'hlt).2.length + 7 := fl
          have HN2 : Hid (FSt (ls s) (noiseL T1 len1) (bodies X) R G (P + n + ((X[I]'hlt).2.length + 7)) K' (I + 1)) := by
            show FSt _ _ _ _ _ _ _ _
            rw [← fle]; exact HN'.out
          have hzb : (bs (frame (X[I]'hlt).1 (X[I]'hlt).2)).size = (X[I]'hlt).2.length + 7 := (bs_size _).trans fl
          have htb := HN2.out.hP
          rw [ls_length] at htb
          rw [fle] at c1
          rw [lb] at c2
          generalize (X[I]'hlt).2.length = tl at *
          generalize bs (frame (X[I]'hlt).1 (X[I]'hlt).2) = Fr at *
          generalize bs (X[I]'hlt).2 = tx at *
          generalize (X[I]'hlt).1 = lab at *
          clear HN' fl lb fle hok
          have zr : w4.heap.size ≤ wr.heap.size := hbr.size
          have z1 : gR < wr.heap.size := by omega
          have z2 : gX < wr.heap.size := by omega
          have z3 : gF < wr.heap.size := by omega
          rw [show ((P + n + (tl + 7) : Nat) : Int) = (P : Int) + n + (tl + 7) by omega] at c1
          rw [show ((P + n : Nat) : Int) = (P : Int) + n by omega] at c0
          go_wp2
          go_quiet (fail)
          go_wp2
          go_roundw
          case rel => exact ⟨P + n + (tl + 7), K', I + 1, by go_num, by rw [HK'.out]; try go_num, by go_num, by omega, g3, by omega, .inl ⟨by omega, HN2.out⟩, below_drewN (hbr.alloc zr _) _⟩
          case measure => simp [intOf]; omega
        · have hIe : I = X.length := by omega
          have HKe : Hid (K' = G.length) := HG7.out hIe
          have hge : ¬ ((I : Int) < (X.length : Int)) := by omega
          clear hIe
          go_wp2
          go_roundw
          case rel => exact ⟨P + n, K', I + 1, by go_num, by rw [HK'.out]; try go_num, by go_num, by omega, g3, by omega, .inr ⟨by omega, HKe.out⟩, hbr⟩
          case measure => simp [intOf]; omega
      · have HK' : Hid (K' = K) := g2 hn
        clear g1 g2
        have hn0 : n = 0 := by omega
        by_cases hlt : I < X.length
        · obtain ⟨gR, rfl, hgR1, hgR2, hgR3⟩ := HR'.out (by omega)
          obtain ⟨gX, rfl, hgX1, hgX2, hgX3⟩ := HX'.out (by omega)
          obtain ⟨gF, rfl, hgF1, hgF2, hgF3⟩ := HF'.out (by omega)
          obtain ⟨r1, r2, HN⟩ := HG6.out hlt
          obtain ⟨p0, p1, p2, p3⟩ := rec_get r2
          obtain ⟨x0, x1⟩ := ex_get (List.getElem?_eq_getElem hlt)
          have f0 : (strCells (framesL X))[I]? = some (.string (bs (frame (X[I]'hlt).1 (X[I]'hlt).2))) := by
            simp [strCells, framesL, List.getElem?_eq_getElem hlt]
          have hok := HXok.out _ (List.getElem_mem hlt)
          have c0 := ((hbr.cell (p := ⟨gR, I * 4, none⟩) hgR2).trans (hgR3 _ (by omega))).trans p0
          have c1 := ((hbr.cell (p := ⟨gR, I * 4 + 1, none⟩) hgR2).trans (hgR3 _ (by omega))).trans p1
          have c2 := ((hbr.cell (p := ⟨gR, I * 4 + 2, none⟩) hgR2).trans (hgR3 _ (by omega))).trans p2
          have c3 := ((hbr.cell (p := ⟨gR, I * 4 + 3, none⟩) hgR2).trans (hgR3 _ (by omega))).trans p3
          have c4 := ((hbr.cell (p := ⟨gX, I * 2, none⟩) hgX2).trans (hgX3 _ (by omega))).trans x0
          have c5 := ((hbr.cell (p := ⟨gX, I * 2 + 1, none⟩) hgX2).trans (hgX3 _ (by omega))).trans x1
          have c6 := ((hbr.cell (p := ⟨gF, I, none⟩) hgF2).trans (hgF3 _ (by omega))).trans f0
          have HN' : Hid _ := HN
          clear HN p0 p1 p2 p3 x0 x1 f0 hgR3 hgX3 hgF3 r1 r2
          have fl := frame_len (X[I]'hlt).1 (X[I]'hlt).2 hok.2.2
          have lb := by8_toNat (X[I]'hlt).1 hok.1 (by have := hok.2.1; omega)
          simp only [body, List.headD_cons, List.tail_cons] at c0 c1 c2 c3
          have fle : (frameB (by8 (X[I]'hlt).1 :: (X[I]'hlt).2)).length = (X[I]'hlt).2.length + 7 := fl
          have HN2 : Hid (FSt (ls s) (noiseL T1 len1) (bodies X) R G (P + n + ((X[I]'hlt).2.length + 7)) K' (I + 1)) := by
            show FSt _ _ _ _ _ _ _ _
            rw [← fle]; exact HN'.out
          have hzb : (bs (frame (X[I]'hlt).1 (X[I]'hlt).2)).size = (X[I]'hlt).2.length + 7 := (bs_size _).trans fl
          have htb := HN2.out.hP
          rw [ls_length] at htb
          rw [fle] at c1
          rw [lb] at c2
          generalize (X[I]'hlt).2.length = tl at *
          generalize bs (frame (X[I]'hlt).1 (X[I]'hlt).2) = Fr at *
          generalize bs (X[I]'hlt).2 = tx at *
          generalize (X[I]'hlt).1 = lab at *
          clear HN' fl lb fle hok
          have zr : w4.heap.size ≤ wr.heap.size := hbr.size
          have z1 : gR < wr.heap.size := by omega
          have z2 : gX < wr.heap.size := by omega
          have z3 : gF < wr.heap.size := by omega
          rw [show ((P + n + (tl + 7) : Nat) : Int) = (P : Int) + n + (tl + 7) by omega] at c1
          rw [show ((P + n : Nat) : Int) = (P : Int) + n by omega] at c0
          go_wp2
          go_quiet (fail)
          go_wp2
          go_roundw
          case rel => exact ⟨P + n + (tl + 7), K', I + 1, by go_num, by rw [HK'.out]; try go_num, by go_num, by omega, g3, by omega, .inl ⟨by omega, HN2.out⟩, below_drewN (hbr.alloc zr _) _⟩
          case measure => simp [intOf]; omega
        · have hIe : I = X.length := by omega
          have HKe : Hid (K' = G.length) := HG7.out hIe
          have hge : ¬ ((I : Int) < (X.length : Int)) := by omega
          clear hIe
          go_wp2
          go_roundw
          case rel => exact ⟨P + n, K', I + 1, by go_num, by rw [HK'.out]; try go_num, by go_num, by omega, g3, by omega, .inr ⟨by omega, HKe.out⟩, hbr⟩
          case measure => simp [intOf]; omega
    · obtain ⟨hIe, hKe⟩ : I = X.length + 1 ∧ K = G.length := by
        rcases HST.out with ⟨h, _⟩ | h
        · omega
        · exact h
      subst hKe
      clear HST
      have hgt : ¬ ((I : Int) ≤ (X.length : Int)) := by omega
      clear hIe
      go_wp2
      go_ret
      exact ⟨rfl, hbel.trans (hbr.mono hbel.size)⟩

set_option maxRecDepth 100000 in
theorem framed_lifted (os : Os) (started : os.Started) (H : Type) (enc : TypeId × Value → H) :
    ReturnsInHanded {} Try.checked os 5 .any (Rows.framedSpec.pre6 enc Try.prog Try.f5 Rows.framedRow.domain false) (Rows.framedSpec.post enc Try.prog Try.f5 false true false false) := by
  refine returnsInHanded_of_change (C := Try.checked) own started (by kernel_rfl) Try.func5
    (ChangeSpec.witness6 (enc := enc) (C := Try.checked) false ⟨#[], #[.slice none 0 0, .slice none 0 0], []⟩ 8 (by kernel_rfl) (by kernel_rfl) (by kernel_rfl) (by kernel_rfl)) ?_
  intro W base args ds gs before hval0 hW hcnd _
  have hval : ∀ (j : Nat) t v, Try.f5.params[j]? = some t → args[j]? = some v → Value.okWide Try.prog W .any base t v := hval0
  have hW' := hW
  obtain ⟨p, q, hA0, hV, rfl, hfz, hnd⟩ := hW
  have hA : DataW.TrodAll enc Try.prog W 0 (fun _ => true) true Try.f5.params.toList args.toList ds p := hA0
  rw [Try.params5] at hA hval
  obtain ⟨v0, vs0, d0, ds0, p0, q0, hargs, rfl, rfl, h0, r0⟩ := trodAll_cons hA
  obtain ⟨v1, vs1, d1, ds1, p1, q1, rfl, rfl, rfl, h1, r1⟩ := trodAll_cons r0
  obtain ⟨rfl, rfl, rfl⟩ := trodAll_nil r1
  obtain rfl : args = #[v0, v1] := by cases args; simp_all
  obtain ⟨rfl, rfl⟩ := trodVars_none hV
  obtain ⟨a0, len0, cap0, rfl⟩ := okWide_slice Try.underlying22 (hval 0 22 v0 rfl rfl)
  obtain ⟨a1, len1, cap1, rfl⟩ := okWide_slice Try.underlying29 (hval 1 29 v1 rfl rfl)
  have k0 := h0
  have k1 := h1
  have lt0 : ∀ x ∈ p0, x.block < W.heap.size := by obtain ⟨m, hm⟩ := k0; exact DataW.trod_lt m _ _ _ hm
  have lt1 : ∀ x ∈ p1, x.block < W.heap.size := by obtain ⟨m, hm⟩ := k1; exact DataW.trod_lt m _ _ _ hm
  obtain ⟨L, T, hx⟩ : ∃ L T, IsExs W a0 len0 cap0 L T := by
    obtain ⟨fuel, hf⟩ := h0
    exact open_exs (by simpa [Value.cells] using hf)
  obtain ⟨T1, hy⟩ : ∃ T, IsStrs W a1 len1 cap1 T := by
    obtain ⟨fuel, hf⟩ := h1
    exact open_strs_arg (by simpa [Value.cells] using hf)
  clear hA0 hval0
  refine (framed_walk a0 len0 cap0 L T a1 len1 cap1 T1 W hx hx.len hy hy.len).mono fun e W' ⟨he, bel⟩ => ?_
  subst he
  exact ⟨_, rfl, _, _, _, [], _, [], hW', trodAll_mk1 (shut_bool Try.underlying4 _), (trodAll_cons_mk (Below.trod laidOut (by kernel_rfl) (of_decide_eq_true (by kernel_rfl)) k0 bel lt0) (trodAll_cons_mk (Below.trod laidOut (by kernel_rfl) (of_decide_eq_true (by kernel_rfl)) k1 bel lt1) trodAll_mk0)), rfl, bel.frame _, fun h => by cases h⟩

theorem framed_over : Rows.framedRow.holds Try.pinned (OpenSpec.ofChange Rows.framedSpec) :=
  OpenClaim.holds_of_wide 5 Try.f5 rfl rfl rfl rfl rfl rfl rfl ⟨rfl, rfl, rfl, rfl, rfl⟩ rfl rfl rfl rfl rfl (by kernel_rfl) Try.func5 (by kernel_rfl)
    (of_decide_eq_true (by kernel_rfl)) (by unfold Func.isWrapper; first | (rw [if_pos (by decide +kernel)]; kernel_rfl) | (rw [if_neg (by decide +kernel)]; exact ⟨rfl, rfl⟩))
    (fun os started H enc _ => framed_lifted os started H enc)

theorem framed_holds : Rows.FramedSaid := framed_over
#print axioms framed_holds
end Go.Proofs.Ytfpodnleimhohaa
