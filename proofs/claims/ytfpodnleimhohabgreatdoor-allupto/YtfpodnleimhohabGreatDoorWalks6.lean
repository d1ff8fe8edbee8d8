/-
  WALKS: Scan.
-/
import Derived.Test.YtfpodnleimhohabGreatDoorWalks5
import Derived.Test.YtfpodnleimhohabGreatDoorRecs
namespace Go.Proofs.YtfpodnleimhohabGreatDoor
open Go.RowKit
set_option linter.unusedVariables false

theorem info_rec : (Tryz.prog.info? 99).map (fun i => (i.zero, i.size, i.bytes)) = some (some (.agg #[.int .i64 0, .int .i64 0, .int .u8 0, .string ⟨#[]⟩]), 4, 40) := by kernel_rfl
theorem info_gap : (Tryz.prog.info? 103).map (fun i => (i.zero, i.size, i.bytes)) = some (some (.agg #[.int .i64 0, .int .i64 0]), 2, 16) := by kernel_rfl

theorem gapsF_gap {o n : Nat} {r : Rc} {rs : List Rc} (h : o < r.fr) : gapsF o n (r :: rs) = (o, r.fr) :: gapsF r.to n rs := by simp [gapsF, h]
theorem gapsF_none {o n : Nat} {r : Rc} {rs : List Rc} (h : ¬ o < r.fr) : gapsF o n (r :: rs) = gapsF r.to n rs := by simp [gapsF, h]

theorem recCells_of {p n : Nat} {b : List UInt8} {lab : Int} {tx : ByteArray} (h : ((b.headD 0).toNat : Int) = lab ∧ bs b.tail = tx) :
    recCells ⟨p, p + n, b⟩ = [.int .i64 p, .int .i64 ((p : Int) + n), .int .u8 lab, .string tx] := by
  simp only [recCells, h.1, h.2]
  rw [show ((p + n : Nat) : Int) = (p : Int) + n by omega]
/-- The state of Scan at the head of a round. -/
def ScanRel (s : ByteArray) (w : World) (vR vG o p : Value) (wr : World) : Prop :=
  ∃ (P O : Nat) (R : List Rc) (G : List (Nat × Nat)), O ≤ P ∧ P ≤ s.size ∧ o = .int .i64 O ∧ p = .int .i64 P ∧ R.length ≤ P ∧ G.length ≤ P ∧
    wr.ownsRow w.heap.size 99 4 vR R.length (recsCells R) ∧ wr.ownsRow w.heap.size 103 2 vG G.length (gapsCells G) ∧ Below w.heap.size w wr ∧
    R ++ recsAt (ls s) P = recs (ls s) ∧ G ++ gapsF O s.size (recsAt (ls s) P) = gaps (ls s)

set_option maxRecDepth 100000 in
set_option maxHeartbeats 1000000 in
theorem recScan_any (s : ByteArray) (hs : s.size ≤ 600) (w : World) :
    Calls Tryz.prog 12 #[.string s] w fun e w' => ∃ vR vG, e = .returned (.tuple #[vR, vG, .int .i64 0]) ∧
      w'.ownsRow w.heap.size 99 4 vR (recs (ls s)).length (recsCells (recs (ls s))) ∧ w'.ownsRow w.heap.size 103 2 vG (gaps (ls s)).length (gapsCells (gaps (ls s))) ∧ Below w.heap.size w w' := by
  obtain ⟨iR, hiR, hzR0, hzR1, hzR2⟩ := info_parts info_rec
  obtain ⟨iG, hiG, hzG0, hzG1, hzG2⟩ := info_parts info_gap
  go_enter Tryz.func12, Tryz.ntmps12
  go_wp2
  go_loopw [5, 6, 7, 8] (fun vR vG o p wr => ScanRel s w vR vG o p wr) (fun _ _ _ p _ => s.size - (intOf p).toNat)
  case atStart => exact ⟨0, 0, [], [], by omega, by omega, rfl, rfl, by simp, by simp, World.ownsRow_nil _ _ _ _, World.ownsRow_nil _ _ _ _, Below.refl _ _, rfl, by simp [gaps, recs, ls_length]⟩
  case round =>
    obtain ⟨P, O, R, G, hOP, hPs, rfl, rfl, hRl, hGl, hoR, hoG, hbel, HRe, HGe⟩ := hrel
    have HR : Hid (R ++ recsAt (ls s) P = recs (ls s)) := HRe
    have HG : Hid (G ++ gapsF O s.size (recsAt (ls s) P) = gaps (ls s)) := HGe
    clear HRe HGe
    by_cases hlt : P < s.size
    · have hll : P < (ls s).length := by rw [ls_length]; exact hlt
      go_wp2_with fail
      refine (recordAt_any s P hs hlt _).mono ?_
      rintro e w1 ⟨rfl, hb1⟩
      cases hst : stand ((ls s).drop P) with
      | none =>
        rw [recAns_none P hst]
        have HN : Hid (recsAt (ls s) P = recsAt (ls s) (P + 1)) := recsAt_none hll hst
        clear hst
        unfold recZero
        go_wp2
        go_roundw
        case rel =>
          have hb2 := hbel.trans (hb1.mono hbel.size)
          refine ⟨P + 1, O, R, G, by omega, by omega, rfl, by go_num, by omega, by omega, ?_, ?_, ?_, ?_, ?_⟩
          · exact (ownsRow_below hoR hb1).alloc _
          · exact (ownsRow_below hoG hb1).alloc _
          · exact hb2.alloc hb2.size _
          · rw [← HN.out]; exact HR.out
          · rw [← HN.out]; exact HG.out
        case measure => simp [intOf]; omega
      | some b =>
        obtain ⟨hle, hat⟩ := recsAt_some hst
        rw [recAns_some P hst]
        have HA : Hid (recsAt (ls s) P = ⟨P, P + (frameB b).length, b⟩ :: recsAt (ls s) (P + (frameB b).length)) := hat
        rw [ls_length] at hle
        have h6 := frameB_len b
        generalize hfl : (frameB b).length = n at *
        have HL : Hid ((frameB b).length = n) := hfl
        clear hst hat hfl
        unfold recVal
        rw [HL.out]
        obtain ⟨lab, tx, Hlt⟩ : ∃ (lab : Int) (tx : ByteArray), Hid (((b.headD 0).toNat : Int) = lab ∧ bs b.tail = tx) := ⟨_, _, rfl, rfl⟩
        rw [Hlt.out.1, Hlt.out.2]
        have hb2 := hbel.trans (hb1.mono hbel.size)
        have hoR1 := ownsRow_below hoR hb1
        have hoG1 := ownsRow_below hoG hb1
        have hz2 := hb2.size
        have hltG := hoG1.lt
        have hltR := hoR1.lt
        have HltG : Hid _ := hltG
        have HltR : Hid _ := hltR
        clear hoR hoG hltG hltR
        by_cases hop : O < P
        · go_wp2_with (first
            | (at_builtin; refine wpList_append_own _ rfl (.tmp 31) (.tmp 35) 53 rfl w.heap.size 103 iG (.agg #[.int .i64 0, .int .i64 0]) 2 16 Tryz.underlying53 hiG hzG0 hzG1 hzG2 rfl (by decide) _ _ _ rfl ((hoG1.alloc _).alloc _) ⟨w1.heap.size + 1, 0, none⟩ 1 1 [.int .i64 O, .int .i64 P] rfl rfl (news_at _ _ (by simp) _ _ _ rfl) (oneCell_nums _ rfl) (by unfold maxLen; omega) (by omega) (by simp; omega) ?_; intro vG' w2 hoG2 hgG hxx; clear hxx; have hz3 : w1.heap.size < w2.heap.size := (by have := hgG.size; simp at this; omega); have hoR2 := ownsRow_other ((hoR1.alloc _).alloc _) ((hoG1.alloc _).alloc _) (by decide) hgG; have kc := block_kept hgG w1.heap.size (by simp; omega) (fun k hk => (HltG.out k hk).2))
            | (at_builtin; refine wpList_append_own _ rfl (.tmp 37) (.tmp 39) 52 rfl w.heap.size 99 iR (.agg #[.int .i64 0, .int .i64 0, .int .u8 0, .string ⟨#[]⟩]) 4 40 Tryz.underlying52 hiR hzR0 hzR1 hzR2 rfl (by decide) _ _ _ rfl (hoR2.alloc _) ⟨w2.heap.size, 0, none⟩ 1 1 [.int .i64 P, .int .i64 ((P : Int) + n), .int .u8 lab, .string tx] rfl rfl (news_at _ _ rfl _ _ _ rfl) (oneCell_nums _ rfl) (by unfold maxLen; omega) (by omega) (by have := hgG.size; simp at this; simp; omega) ?_; intro vR' w3 hoR3 hgR hxx; clear hxx; have kc3 := block_kept hgR w1.heap.size (by have := hgG.size; simp at this; simp; omega) (fun k hk => (HltR.out k hk).2)))
          go_roundw
          case rel =>
            have zz := hgG.size
            simp at zz
            have bb := ((hb2.alloc hz2 _).alloc (by simp; omega) _).grown hgG (by simp; omega) (fun k hk => (HltG.out k hk).1)
            refine ⟨P + n, P + n, R ++ [⟨P, P + n, b⟩], G ++ [(O, P)], by omega, by omega, by go_num, by go_num, by simp; omega, by simp; omega, ?_, ?_, ?_, ?_, ?_⟩
            · rw [recsCells_snoc, recCells_of Hlt.out, List.length_append]; exact hoR3
            · rw [gapsCells_snoc, List.length_append]; exact ownsRow_other (hoG2.alloc _) (hoR2.alloc _) (by decide) hgR
            · exact (bb.alloc bb.size _).grown hgR (by have := bb.size; simp; omega) (fun k hk => (HltR.out k hk).1)
            · rw [← HR.out, HA.out]; simp
            · rw [← HG.out, HA.out, gapsF_gap hop]; simp
          case measure => simp [intOf]; omega
        · obtain rfl : O = P := by omega
          go_wp2_with ((at_builtin; refine wpList_append_own _ rfl (.tmp 37) (.tmp 39) 52 rfl w.heap.size 99 iR (.agg #[.int .i64 0, .int .i64 0, .int .u8 0, .string ⟨#[]⟩]) 4 40 Tryz.underlying52 hiR hzR0 hzR1 hzR2 rfl (by decide) _ _ _ rfl ((hoR1.alloc _).alloc _) ⟨w1.heap.size + 1, 0, none⟩ 1 1 [.int .i64 O, .int .i64 ((O : Int) + n), .int .u8 lab, .string tx] rfl rfl (news_at _ _ (by simp) _ _ _ rfl) (oneCell_nums _ rfl) (by unfold maxLen; omega) (by omega) (by simp; omega) ?_; intro vR' w3 hoR3 hgR hxx; clear hxx; have kc3 := block_kept hgR w1.heap.size (by simp; omega) (fun k hk => (HltR.out k hk).2)))
          go_roundw
          case rel =>
            refine ⟨O + n, O + n, R ++ [⟨O, O + n, b⟩], G, by omega, by omega, by go_num, by go_num, by simp; omega, by omega, ?_, ?_, ?_, ?_, ?_⟩
            · rw [recsCells_snoc, recCells_of Hlt.out, List.length_append]; exact hoR3
            · exact ownsRow_other ((hoG1.alloc _).alloc _) ((hoR1.alloc _).alloc _) (by decide) hgR
            · exact ((hb2.alloc hz2 _).alloc (by simp; omega) _).grown hgR (by simp; omega) (fun k hk => (HltR.out k hk).1)
            · rw [← HR.out, HA.out]; simp
            · rw [← HG.out, HA.out, gapsF_none (by simp)]
          case measure => simp [intOf]; omega
    · obtain rfl : P = s.size := by omega
      have hend : recsAt (ls s) s.size = [] := by rw [← ls_length]; exact recsAt_end _
      rw [hend] at HR HG
      clear hend
      have HR2 : Hid (R = recs (ls s)) := by show R = recs (ls s); have := HR.out; simpa using this
      clear HR
      by_cases hop : O < s.size
      · have HG2 : Hid (G ++ [(O, s.size)] = gaps (ls s)) := by rw [← HG.out]; show _ = G ++ gapsF O s.size []; simp [gapsF, hop]
        clear HG
        go_wp2_with (at_builtin; refine wpList_append_own _ rfl (.tmp 47) (.tmp 51) 53 rfl w.heap.size 103 iG (.agg #[.int .i64 0, .int .i64 0]) 2 16 Tryz.underlying53 hiG hzG0 hzG1 hzG2 rfl (by decide) _ _ _ rfl (hoG.alloc _) ⟨wr.heap.size, 0, none⟩ 1 1 [.int .i64 O, .int .i64 s.size] rfl rfl (news_at _ _ rfl _ _ _ rfl) (oneCell_nums _ rfl) (by unfold maxLen; omega) (by omega) (by have := hbel.size; simp; omega) ?_; intro vG' w2 hoG2 hgG hxx; clear hxx)
        go_ret3
        refine ⟨_, _, rfl, ?_, ?_, ?_⟩
        · rw [← HR2.out]; exact ownsRow_other (hoR.alloc _) (hoG.alloc _) (by decide) hgG
        · rw [← HG2.out, gapsCells_snoc, List.length_append]; exact hoG2
        · exact (hbel.alloc hbel.size _).grown hgG (by have := hbel.size; simp; omega) (fun k hk => (hoG.lt k hk).1)
      · have HG2 : Hid (G = gaps (ls s)) := by rw [← HG.out]; show G = G ++ gapsF O s.size []; simp [gapsF, hop]
        clear HG
        go_wp2
        go_ret3
        refine ⟨_, _, rfl, ?_, ?_, hbel⟩
        · rw [← HR2.out]; exact hoR
        · rw [← HG2.out]; exact hoG

end Go.Proofs.YtfpodnleimhohabGreatDoor
