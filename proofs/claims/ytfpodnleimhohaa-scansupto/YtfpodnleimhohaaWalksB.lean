/-
  WALKS: the document's Scan.
-/
import Derived.Test.YtfpodnleimhohaaWalksA
import Derived.Test.YtfpodnleimhohaaWalks9
namespace Go.Proofs.Ytfpodnleimhohaa
open Go.RowKit
set_option linter.unusedVariables false

/-- The gap that is open at a place. -/
def openGap (o p : Nat) : List (Nat × Nat) := if o < p then [(o, p)] else []
theorem openGap_yes {o p : Nat} (h : o < p) : openGap o p = [(o, p)] := by simp [openGap, h]
theorem openGap_no {o p : Nat} (h : ¬ o < p) : openGap o p = [] := by simp [openGap, h]
theorem gapsF_open (o n p q : Nat) (b : List UInt8) (rs : List Rc) : gapsF o n (⟨p, q, b⟩ :: rs) = openGap o p ++ gapsF q n rs := rfl
theorem gapsF_end (o n : Nat) : gapsF o n [] = openGap o n := rfl
theorem gapsCells_set (G : List (Nat × Nat)) (o p q : Nat) : (gapsCells (G ++ [(o, p)])).set (G.length * 2 + 1) (.int .i64 q) = gapsCells (G ++ [(o, q)]) := by
  have hl : (gapsCells G).length = G.length * 2 := by
    induction G with
    | nil => rfl
    | cons g G ih => simp [gapsCells, gapCells] at ih ⊢; omega
  rw [gapsCells_snoc, gapsCells_snoc, ← hl, List.set_append_right _ _ (by omega), show (gapsCells G).length + 1 - (gapsCells G).length = 1 by omega]
  rfl

/-- The state of the document's Scan at the head of a round. -/
def ScanRel2 (s : ByteArray) (w : World) (vR vG p : Value) (wr : World) : Prop :=
  ∃ (P O : Nat) (R : List Rc) (G : List (Nat × Nat)), O ≤ P ∧ P ≤ s.size ∧ p = .int .i64 P ∧ R.length ≤ P ∧ G.length ≤ O ∧ (∀ g ∈ G, g.2 < O) ∧
    wr.ownsRow w.heap.size 52 4 vR R.length (recsCells R) ∧ wr.ownsRow w.heap.size 50 2 vG (G ++ openGap O P).length (gapsCells (G ++ openGap O P)) ∧ Below w.heap.size w wr ∧
    R ++ recsAt (ls s) P = recs (ls s) ∧ G ++ gapsF O s.size (recsAt (ls s) P) = gaps (ls s)

set_option maxRecDepth 100000 in
set_option maxHeartbeats 2000000 in
theorem refScan_any (s : ByteArray) (hs : s.size ≤ 600) (w : World) :
    Calls Try.prog 41 #[.string s] w fun e w' => ∃ vR vG, e = .returned (.tuple #[vR, vG, .int .i64 0]) ∧
      w'.ownsRow w.heap.size 52 4 vR (recs (ls s)).length (recsCells (recs (ls s))) ∧ w'.ownsRow w.heap.size 50 2 vG (gaps (ls s)).length (gapsCells (gaps (ls s))) ∧ Below w.heap.size w w' := by
  obtain ⟨iR, hiR, hzR0, hzR1, hzR2⟩ := info_parts info_rec
  obtain ⟨iG, hiG, hzG0, hzG1, hzG2⟩ := info_parts info_gap
  go_enter Try.func41, Try.ntmps41
  go_wp2
  go_loopw [5, 6, 7] (fun vR vG p wr => ScanRel2 s w vR vG p wr) (fun _ _ p _ => s.size - (intOf p).toNat)
  case atStart => exact ⟨0, 0, [], [], by omega, by omega, rfl, by simp, by simp, by simp, World.ownsRow_nil _ _ _ _, World.ownsRow_nil _ _ _ _, Below.refl _ _, rfl, by simp [gaps, recs, ls_length]⟩
  case round =>
    obtain ⟨P, O, R, G, hOP, hPs, rfl, hRl, hGl, hGO, hoR, hoG, hbel, HRe, HGe⟩ := hrel
    have HR : Hid (R ++ recsAt (ls s) P = recs (ls s)) := HRe
    have HG : Hid (G ++ gapsF O s.size (recsAt (ls s) P) = gaps (ls s)) := HGe
    have HGO : Hid (∀ g ∈ G, g.2 < O) := hGO
    clear HRe HGe hGO
    by_cases hlt : P < s.size
    · have hll : P < (ls s).length := by rw [ls_length]; exact hlt
      obtain ⟨S, HS, hSz⟩ : ∃ S : ByteArray, Hid (s.extract P s.size = S ∧ ls S = (ls s).drop P) ∧ S.size = s.size - P := ⟨_, ⟨rfl, ls_extract s P⟩, by rw [ByteArray.size_extract]; omega⟩
      have HoR : Hid _ := hoR
      have HoG : Hid _ := hoG
      clear hoR hoG
      go_wp2_with (rw [HS.out.1])
      refine (stands_any S (by omega) (by omega) _).mono ?_
      rintro e w1 ⟨rfl, hb1⟩
      rw [HS.out.2]
      have hb2 := hbel.trans (hb1.mono hbel.size)
      have hoR1 := ownsRow_below HoR.out hb1
      have hoG1 := ownsRow_below HoG.out hb1
      have hz2 := hb2.size
      clear HoR HoG
      cases hst : stand ((ls s).drop P) with
      | some b =>
        obtain ⟨hle, hat⟩ := recsAt_some hst
        rw [standAns_some hst]
        have HA : Hid (recsAt (ls s) P = ⟨P, P + (frameB b).length, b⟩ :: recsAt (ls s) (P + (frameB b).length)) := hat
        rw [ls_length] at hle
        have h6 := frameB_len b
        obtain ⟨Fb, HF, hFz⟩ : ∃ Fb : ByteArray, Hid (bs (frameB b) = Fb) ∧ Fb.size = (frameB b).length := ⟨_, (rfl : _ = _), bs_size _⟩
        rw [HF.out]
        generalize hfl : (frameB b).length = n at *
        have HL : Hid ((frameB b).length = n) := hfl
        clear hst hat hfl
        unfold exVal
        obtain ⟨lab, tx, Hlt⟩ : ∃ (lab : Int) (tx : ByteArray), Hid (((b.headD 0).toNat : Int) = lab ∧ bs b.tail = tx) := ⟨_, _, rfl, rfl⟩
        rw [Hlt.out.1, Hlt.out.2]
        have hne : Fb.toList.isEmpty = false := by
          rw [ByteArray.toList_eq]
          cases hq : Fb.data.toList with
          | nil =>
            have : Fb.data.toList.length = n := by rw [← hFz]; exact ls_length Fb
            rw [hq] at this; simp at this; omega
          | cons => rfl
        have HltR : Hid _ := hoR1.lt
        go_wp2_with (at_builtin; refine wpList_append_own _ rfl (.tmp 26) (.tmp 34) 43 rfl w.heap.size 52 iR (.agg #[.int .i64 0, .int .i64 0, .int .u8 0, .string ⟨#[]⟩]) 4 40 Try.underlying43 hiR hzR0 hzR1 hzR2 rfl (by decide) _ _ _ rfl ((hoR1.alloc _).alloc _) ⟨w1.heap.size + 1, 0, none⟩ 1 1 [.int .i64 P, .int .i64 ((P : Int) + n), .int .u8 lab, .string tx] rfl rfl (news_at _ _ (by simp) _ _ _ rfl) (oneCell_nums _ rfl) (by unfold maxLen; omega) (by omega) (by simp; omega) ?_; intro vR' w3 hoR3 hgR hxx; clear hxx)
        go_roundw
        case rel =>
          refine ⟨P + n, P + n, R ++ [⟨P, P + n, b⟩], G ++ openGap O P, by omega, by omega, by go_num, by simp; omega, ?_, ?_, ?_, ?_, ?_, ?_, ?_⟩
          · rw [List.length_append]; unfold openGap; split <;> simp <;> omega
          · intro g hg
            rcases List.mem_append.1 hg with hg | hg
            · have := HGO.out g hg; omega
            · unfold openGap at hg
              split at hg
              · simp at hg; subst hg; show P < P + n; omega
              · simp at hg
          · rw [recsCells_snoc, recCells_of Hlt.out, List.length_append]; exact hoR3
          · rw [openGap_no (show ¬ (P + n < P + n) by omega), List.append_nil]
            exact ownsRow_other ((hoG1.alloc _).alloc _) ((hoR1.alloc _).alloc _) (by decide) hgR
          · exact ((hb2.alloc hz2 _).alloc (by simp; omega) _).grown hgR (by simp; omega) (fun k hk => (HltR.out k hk).1)
          · rw [← HR.out, HA.out]; simp
          · rw [← HG.out, HA.out, gapsF_open]; simp
        case measure => simp [intOf]; omega
      | none =>
        rw [standAns_none hst]
        have HN : Hid (recsAt (ls s) P = recsAt (ls s) (P + 1)) := recsAt_none hll hst
        clear hst
        unfold exZero
        by_cases hop : O < P
        · rw [openGap_yes hop] at hoG1
          have hoG2 : w1.ownsRow w.heap.size 50 2 u6 (G.length + 1) (gapsCells (G ++ [(O, P)])) := by
            have := hoG1; rw [List.length_append] at this; exact this
          clear hoG1
          obtain ⟨ao, cp, hv, hc1, hc2, HRd⟩ := own_read hoG2
          obtain ⟨g, rfl, hg1, hg2, hg3⟩ := HRd (by omega)
          subst hv
          obtain ⟨q0, q1⟩ := gap_get (gs := G ++ [(O, P)]) (k := G.length) (g := (O, P)) (by simp)
          have d1 := (hg3 (G.length * 2 + 1) (by omega)).trans q1
          have f1 := hoG2.frozenAt (G.length * 2 + 1)
          have HoG : Hid _ := hoG2
          have HoR : Hid _ := hoR1
          unfold maxLen at hc2
          have hm0 : (0 : Int) < (G.length : Int) + 1 := by omega
          have hee : ((P : Int) == (P : Int)) = true := by simp
          clear hoG2 hoR1 HRd hg3 q0 q1
          simp only at d1
          go_wp2
          go_roundw
          case rel =>
            have st := World.ownsRow.stored HoG.out (G.length * 2 + 1) (.int .i64 ((P : Int) + 1))
            refine ⟨P + 1, O, R, G, by omega, by omega, by go_num, by omega, hGl, HGO.out, ?_, ?_, ?_, ?_, ?_⟩
            · exact (ownsRow_other HoR.out HoG.out (by decide) st.2).alloc _
            · rw [openGap_yes (by omega), List.length_append, ← gapsCells_set G O P (P + 1), show (((P + 1 : Nat) : Int)) = (P : Int) + 1 by omega]; exact st.1.alloc _
            · exact (hb2.setCell (p := ⟨g, G.length * 2 + 1, none⟩) hg1 _).alloc (by simpa using hz2) _
            · rw [← HN.out]; exact HR.out
            · rw [← HN.out]; exact HG.out
          case measure => simp [intOf]; omega
        · obtain rfl : O = P := by omega
          rw [openGap_no hop, List.append_nil] at hoG1
          obtain ⟨N, hN⟩ : ∃ N, G.length = N := ⟨_, rfl⟩
          rw [hN] at hoG1 hGl
          have HltG : Hid _ := hoG1.lt
          have rel : ∀ (vG' : Value) (w3 : World) (W : World), W = w1.alloc (.cells #[.int .u8 0, .string ⟨#[]⟩] 27) → w3.ownsRow w.heap.size 50 2 vG' (N + 1) (gapsCells G ++ [.int .i64 O, .int .i64 ((O : Int) + 1)]) → (W.alloc (.cells #[.int .i64 O, .int .i64 ((O : Int) + 1)] 50)).grownBy w3 (Value.ownBlock u6) → ScanRel2 s w u5 vG' (.int .i64 ((O : Int) + 1)) w3 := by
            intro vG' w3 W hW h1 h2
            subst hW
            refine ⟨O + 1, O, R, G, by omega, by omega, by go_num, by omega, by omega, HGO.out, ?_, ?_, ?_, ?_, ?_⟩
            · exact ownsRow_other ((hoR1.alloc _).alloc _) ((hoG1.alloc _).alloc _) (by decide) h2
            · rw [openGap_yes (by omega), List.length_append, hN, gapsCells_snoc]
              rw [show gapCells (O, O + 1) = [.int .i64 O, .int .i64 ((O : Int) + 1)] by simp [gapCells]]
              exact h1
            · exact ((hb2.alloc hz2 _).alloc (by simp; omega) _).grown h2 (by simp; omega) (fun k hk => (HltG.out k hk).1)
            · rw [← HN.out]; exact HR.out
            · rw [← HN.out]; exact HG.out
          have HRel : Hid _ := rel
          have HNe : Hid (G.length = N) := hN
          obtain ⟨ao, cp, hv, hc1, hc2, HRd⟩ := own_read hoG1
          subst hv
          unfold maxLen at hc2
          have HRd' : Hid _ := HRd
          clear rel hN HRd hoR1
          cases N with
          | zero =>
            go_wp2_with (at_builtin; refine wpList_append_own _ rfl (.tmp 62) (.tmp 67) 44 rfl w.heap.size 50 iG (.agg #[.int .i64 0, .int .i64 0]) 2 16 Try.underlying44 hiG hzG0 hzG1 hzG2 rfl (by decide) _ _ _ rfl ((hoG1.alloc _).alloc _) ⟨w1.heap.size + 1, 0, none⟩ 1 1 [.int .i64 O, .int .i64 ((O : Int) + 1)] rfl rfl (news_at _ _ (by simp) _ _ _ rfl) (oneCell_nums _ rfl) (by unfold maxLen; omega) (by omega) (by simp; omega) ?_; intro vG' w3 hoG3 hgG hxx; clear hxx)
            go_roundw
            case rel => exact HRel.out _ _ _ rfl hoG3 hgG
            case measure => simp [intOf]; omega
          | succ m =>
            obtain ⟨g, rfl, hg1, hg2, hg3⟩ := HRd'.out (by omega)
            have hmG : m < G.length := by rw [HNe.out]; omega
            obtain ⟨q0, q1⟩ := gap_get (List.getElem?_eq_getElem hmG)
            have d1 := (hg3 (m * 2 + 1) (by omega)).trans q1
            have hy := HGO.out _ (List.getElem_mem hmG)
            generalize (G[m]'hmG).2 = y at *
            have hyb : ((y : Int) == (O : Int)) = false := by simp; omega
            have hm0 : (0 : Int) < (m : Int) + 1 := by omega
            clear HRd' hg3 q0 q1 hy hmG
            go_wp2_with (at_builtin; refine wpList_append_own _ rfl (.tmp 62) (.tmp 67) 44 rfl w.heap.size 50 iG (.agg #[.int .i64 0, .int .i64 0]) 2 16 Try.underlying44 hiG hzG0 hzG1 hzG2 rfl (by decide) _ _ _ rfl ((hoG1.alloc _).alloc _) ⟨w1.heap.size + 1, 0, none⟩ 1 1 [.int .i64 O, .int .i64 ((O : Int) + 1)] rfl rfl (news_at _ _ (by simp) _ _ _ rfl) (oneCell_nums _ rfl) (by unfold maxLen; omega) (by omega) (by simp; omega) ?_; intro vG' w3 hoG3 hgG hxx; clear hxx)
            go_roundw
            case rel => exact HRel.out _ _ _ rfl hoG3 hgG
            case measure => simp [intOf]; omega
    · obtain rfl : P = s.size := by omega
      have hend : recsAt (ls s) s.size = [] := by rw [← ls_length]; exact recsAt_end _
      rw [hend] at HR HG
      have HR2 : Hid (R = recs (ls s)) := by show R = recs (ls s); have := HR.out; simpa using this
      have HG2 : Hid (G ++ openGap O s.size = gaps (ls s)) := HG.out
      clear hend HR HG
      have HoR : Hid _ := hoR
      have HoG : Hid _ := hoG
      clear hoR hoG
      go_wp2
      go_ret3
      refine ⟨_, _, rfl, ?_, ?_, hbel⟩
      · rw [← HR2.out]; exact HoR.out
      · rw [← HG2.out]; exact HoG.out
end Go.Proofs.Ytfpodnleimhohaa
