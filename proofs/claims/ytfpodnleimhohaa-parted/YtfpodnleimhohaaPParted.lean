/-
  THE STATEMENT 'Parted': the walk of the law, and its row.
-/
import Derived.Test.YtfpodnleimhohaaWalks9
import Derived.Test.YtfpodnleimhohaaOpen
namespace Go.Proofs.Ytfpodnleimhohaa
open Go.ChangeShapes Go.WideShapes Go.ChangeAt Go.RowKit
open Go.ChangeMaps (open_string shut_string)
set_option linter.unusedVariables false

/-- The frame of a record is the bytes where it stands. -/
theorem rec_frame {r : Rc} (h : bodyOk r.bd = true) : frameAns (((r.bd.headD 0).toNat : Int)) (bs r.bd.tail) = (bs (frameB r.bd), 0) := by
  obtain ⟨p, q, bd⟩ := r
  cases bd with
  | nil => simp [bodyOk] at h
  | cons c t =>
    simp [bodyOk] at h
    simp only [List.headD_cons, List.tail_cons]
    rw [frameAns_ok _ _ (by omega) (by rw [bs_size]; omega), ls_bs]
    unfold frame body
    rw [by8_nat]

set_option maxRecDepth 100000 in
set_option maxHeartbeats 2000000 in
theorem parted_walk (s0 : ByteArray) (hs0 : s0.size ≤ maxLen) (w : World) :
    Calls Try.prog 6 #[.string s0] w fun e w' => e = .returned (.bool true) ∧ Below w.heap.size w w' := by
  obtain ⟨s, HS, hs⟩ : ∃ s : ByteArray, Hid (bs ((ls s0).take 600) = s) ∧ s.size ≤ 600 := ⟨_, (rfl : _ = _), by rw [bs_size, List.length_take]; omega⟩
  go_enter Try.func6, Try.ntmps6
  go_wp2_with fail
  refine (first_any _).mono ?_
  rintro e w1 ⟨rfl, hb1⟩
  go_wp2_with fail
  refine (some_any s0 600 hs0 (by omega) _).mono ?_
  rintro e w1' ⟨rfl, hw⟩
  subst hw
  rw [HS.out]
  go_wp2_with fail
  refine (drillScan_any s hs _).mono ?_
  rintro e w2 ⟨vR, vG, rfl, hR, hG, hb2⟩
  obtain ⟨aR, cR, rfl, hcR1, hcR2, HR⟩ := own_read hR
  obtain ⟨aG, cG, rfl, hcG1, hcG2, HG⟩ := own_read hG
  clear hR hG
  have hst := PSt.start (ls s)
  generalize recs (ls s) = R at *
  generalize gaps (ls s) = G at *
  have HR' : Hid _ := HR
  have HG' : Hid _ := HG
  have HP : Hid _ := hst
  have hbel := hb1.trans (hb2.mono hb1.size)
  unfold maxLen at hcR2 hcG2
  clear HR HG hst hb1 hb2
  go_wp2
  go_loopw [7, 8, 9, 10] (fun p k h g wr => ∃ (P K H : Nat) (gp : Bool), p = .int .i64 P ∧ k = .int .i64 K ∧ h = .int .i64 H ∧ g = .bool gp ∧ P ≤ s.size ∧ K ≤ R.length ∧ H ≤ G.length ∧ Hid (PSt (ls s) R G P K H gp) ∧ Below w2.heap.size w2 wr) (fun p _ _ _ _ => s.size - (intOf p).toNat)
  case atStart => exact ⟨0, 0, 0, false, rfl, rfl, rfl, rfl, by omega, by omega, by omega, HP, Below.refl _ _⟩
  case round =>
    obtain ⟨P, K, H, gp, rfl, rfl, rfl, rfl, hPs, hKR, hHG, HPS, hbr⟩ := hrel
    clear HP
    by_cases hlt : P < s.size
    · rcases HPS.out.step (by rw [ls_length]; exact hlt) with ⟨x, hH, hGx, rfl, hPx, hx, hn⟩ | ⟨r, hK, hRk, hfr, hto, htl, hok, hfe, hng, hn⟩
      · rw [ls_length] at hx
        obtain ⟨g, rfl, hgb, hgl, hgc⟩ := HG'.out (by omega)
        obtain ⟨q0, q1⟩ := gap_get hGx
        have d0 := ((hbr.cell (p := ⟨g, H * 2, none⟩) hgl).trans (hgc (H * 2) (by omega))).trans q0
        have d1 := ((hbr.cell (p := ⟨g, H * 2 + 1, none⟩) hgl).trans (hgc (H * 2 + 1) (by omega))).trans q1
        have HN : Hid _ := hn
        clear hn hgc q0 q1 hGx HPS
        go_wp2
        go_roundw
        case rel => exact ⟨x, K, H + 1, true, rfl, rfl, by go_num, rfl, hx, hKR, by omega, HN, hbr⟩
        case measure => simp [intOf]; omega
      · rw [ls_length] at htl
        obtain ⟨g, rfl, hgb, hgl, hgc⟩ := HR'.out (by omega)
        obtain ⟨q0, q1, q2, q3⟩ := rec_get hRk
        rw [hfr] at q0
        have C : Hid (w2.cell? ⟨g, K * 4, none⟩ = some (.int .i64 P) ∧ w2.cell? ⟨g, K * 4 + 1, none⟩ = some (.int .i64 r.to) ∧ w2.cell? ⟨g, K * 4 + 2, none⟩ = some (.int .u8 ((r.bd.headD 0).toNat : Int)) ∧ w2.cell? ⟨g, K * 4 + 3, none⟩ = some (.string (bs r.bd.tail))) :=
          ⟨(hgc _ (by omega)).trans q0, (hgc _ (by omega)).trans q1, (hgc _ (by omega)).trans q2, (hgc _ (by omega)).trans q3⟩
        have HF : Hid (frameAns (((r.bd.headD 0).toNat : Int)) (bs r.bd.tail) = (bs (frameB r.bd), 0)) := rec_frame hok
        have HN : Hid _ := hn
        have HFE : Hid (s.extract P r.to = bs (frameB r.bd)) := ls_inj (by rw [ls_cut, ls_bs]; exact hfe.symm)
        have htz : (bs r.bd.tail).size ≤ maxLen := by
          have := bodyOk_len hok
          rw [bs_size, List.length_tail]; unfold maxLen; omega
        have hl0 : (0 : Int) ≤ ((r.bd.headD 0).toNat : Int) := by omega
        have hl1 : ((r.bd.headD 0).toNat : Int) ≤ 255 := by have := (r.bd.headD 0).toNat_lt; omega
        generalize r.to = Z at *
        generalize ((r.bd.headD 0).toNat : Int) = lab at *
        generalize bs r.bd.tail = tx at *
        generalize bs (frameB r.bd) = F at *
        clear hn hgc q0 q1 q2 q3 hRk HPS hok hfe hfr
        have d0 := (hbr.cell (p := ⟨g, K * 4, none⟩) hgl).trans C.out.1
        have d1 := (hbr.cell (p := ⟨g, K * 4 + 1, none⟩) hgl).trans C.out.2.1
        have d2 := (hbr.cell (p := ⟨g, K * 4 + 2, none⟩) hgl).trans C.out.2.2.1
        have d3 := (hbr.cell (p := ⟨g, K * 4 + 3, none⟩) hgl).trans C.out.2.2.2
        by_cases hHl : H < G.length
        · obtain ⟨g', rfl, hgb', hgl', hgc'⟩ := HG'.out (by omega)
          obtain ⟨q0, q1⟩ := gap_get (List.getElem?_eq_getElem hHl)
          have hne := hng _ (List.getElem?_eq_getElem hHl)
          generalize (G[H]'hHl).1 = y at *
          have c0 := ((hbr.cell (p := ⟨g', H * 2, none⟩) hgl').trans (hgc' (H * 2) (by omega))).trans q0
          have hyb : ((y : Int) == (P : Int)) = false := by simp; omega
          clear hgc' q0 q1 hng hne
          go_wp2_with fail
          refine (drillFrame_any lab tx hl0 hl1 htz _).mono ?_
          rintro e w3 ⟨rfl, hb3⟩
          rw [HF.out]
          have hbr3 := hbr.trans (hb3.mono hbr.size)
          clear d0 d1 d2 d3
          have d0 := (hbr3.cell (p := ⟨g, K * 4, none⟩) hgl).trans C.out.1
          have d1 := (hbr3.cell (p := ⟨g, K * 4 + 1, none⟩) hgl).trans C.out.2.1
          go_wp2_with (rw [HFE.out])
          go_roundw
          case rel => exact ⟨Z, K + 1, H, false, rfl, by go_num, rfl, rfl, htl, by omega, hHG, HN, hbr3⟩
          case measure => simp [intOf]; omega
        · clear hng
          go_wp2_with fail
          refine (drillFrame_any lab tx hl0 hl1 htz _).mono ?_
          rintro e w3 ⟨rfl, hb3⟩
          rw [HF.out]
          have hbr3 := hbr.trans (hb3.mono hbr.size)
          clear d0 d1 d2 d3
          have d0 := (hbr3.cell (p := ⟨g, K * 4, none⟩) hgl).trans C.out.1
          have d1 := (hbr3.cell (p := ⟨g, K * 4 + 1, none⟩) hgl).trans C.out.2.1
          go_wp2_with (rw [HFE.out])
          go_roundw
          case rel => exact ⟨Z, K + 1, H, false, rfl, by go_num, rfl, rfl, htl, by omega, hHG, HN, hbr3⟩
          case measure => simp [intOf]; omega
    · obtain ⟨e1, e2, e3⟩ := HPS.out.done (by rw [ls_length]; omega)
      rw [ls_length] at e1
      subst e1 e2 e3
      clear HPS
      go_wp2
      go_ret
      exact ⟨rfl, hbel.trans (hbr.mono hbel.size)⟩

set_option maxRecDepth 100000 in
theorem parted_lifted (os : Os) (started : os.Started) (H : Type) (enc : TypeId × Value → H) :
    ReturnsInHanded {} Try.checked os 6 .any (Rows.partedSpec.pre6 enc Try.prog Try.f6 Rows.partedRow.domain false) (Rows.partedSpec.post enc Try.prog Try.f6 false true false false) := by
  refine returnsInHanded_of_change (C := Try.checked) own started (by kernel_rfl) Try.func6
    (ChangeSpec.witness6 (enc := enc) (C := Try.checked) false ⟨#[], #[.string ⟨#[]⟩], []⟩ 8 (by kernel_rfl) (by kernel_rfl) (by kernel_rfl) (by kernel_rfl)) ?_
  intro W base args ds gs before hval0 hW hcnd _
  have hval : ∀ (j : Nat) t v, Try.f6.params[j]? = some t → args[j]? = some v → Value.okWide Try.prog W .any base t v := hval0
  have hW' := hW
  obtain ⟨p, q, hA0, hV, rfl, hfz, hnd⟩ := hW
  have hA : DataW.TrodAll enc Try.prog W 0 (fun _ => true) true Try.f6.params.toList args.toList ds p := hA0
  rw [Try.params6] at hA hval
  obtain ⟨v0, vs0, d0, ds0, p0, q0, hargs, rfl, rfl, h0, r0⟩ := trodAll_cons hA
  obtain ⟨rfl, rfl, rfl⟩ := trodAll_nil r0
  obtain rfl : args = #[v0] := by cases args; simp_all
  obtain ⟨rfl, rfl⟩ := trodVars_none hV
  obtain ⟨s, rfl, rfl, rfl, hs⟩ := open_string Try.underlying9 (hval 0 9 v0 rfl rfl) h0
  clear hA0 hval0
  refine (parted_walk s hs W).mono fun e W' ⟨he, bel⟩ => ?_
  subst he
  exact ⟨_, rfl, _, _, _, [], _, [], hW', trodAll_mk1 (shut_bool Try.underlying4 _), (trodAll_cons_mk (shut_string Try.underlying9 hs) trodAll_mk0), rfl, bel.frame _, fun h => by cases h⟩

theorem parted_over : Rows.partedRow.holds Try.pinned (OpenSpec.ofChange Rows.partedSpec) :=
  OpenClaim.holds_of_wide 6 Try.f6 rfl rfl rfl rfl rfl rfl rfl ⟨rfl, rfl, rfl, rfl, rfl⟩ rfl rfl rfl rfl rfl (by kernel_rfl) Try.func6 (by kernel_rfl)
    (of_decide_eq_true (by kernel_rfl)) (by unfold Func.isWrapper; first | (rw [if_pos (by decide +kernel)]; kernel_rfl) | (rw [if_neg (by decide +kernel)]; exact ⟨rfl, rfl⟩))
    (fun os started H enc _ => parted_lifted os started H enc)

theorem parted_holds : Rows.PartedSaid := parted_over
#print axioms parted_holds
end Go.Proofs.Ytfpodnleimhohaa
