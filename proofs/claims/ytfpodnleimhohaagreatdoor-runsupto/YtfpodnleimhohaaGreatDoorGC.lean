import Derived.Test.YtfpodnleimhohaaGreatDoorWalks6
import Derived.Test.YtfpodnleimhohaaGreatDoorMath3
import Derived.Test.YtfpodnleimhohaaGreatDoorWalks9
/-
  WALKS: the document's answer: which frame stands at a text's head.
-/
namespace Go.Proofs.YtfpodnleimhohaaGreatDoor
open Go.RowKit
set_option linter.unusedVariables false

/-- No frame of a body of at most k bytes stands at the head. -/
def NoneTo (l : List UInt8) (k : Nat) : Prop := ∀ b, bodyOk b = true → frameB b <+: l → k < b.length
theorem NoneTo.start (l : List UInt8) : NoneTo l 0 := fun b ok _ => (bodyOk_len ok).1
theorem NoneTo.none {l : List UInt8} (h : NoneTo l 201) : stand l = none :=
  stand_none _ fun b ok hp => by have := h b ok hp; have := (bodyOk_len ok).2; omega
theorem NoneTo.next {l : List UInt8} {k : Nat} (h : NoneTo l k) (h2 : ∀ b, bodyOk b = true → frameB b <+: l → b.length = k + 1 → False) : NoneTo l (k + 1) := by
  intro b ok hp
  have := h b ok hp
  rcases Nat.lt_or_ge (k + 1) b.length with h' | h'
  · exact h'
  · exact absurd (h2 b ok hp (by omega)) (by simp)
/-- What a frame of a body of n bytes is made of. -/
theorem frame_shape {b l : List UInt8} {n : Nat} (hp : frameB b <+: l) (hn : b.length = n) :
    ((213 : UInt8) :: var (n : Int)).length + n + 4 ≤ l.length ∧ l.take ((213 : UInt8) :: var (n : Int)).length = (213 : UInt8) :: var (n : Int) ∧ (l.drop ((213 : UInt8) :: var (n : Int)).length).take n = b ∧ (frameB b).length = ((213 : UInt8) :: var (n : Int)).length + n + 4 ∧ l.take (frameB b).length = frameB b := by
  obtain ⟨r, rfl⟩ := hp
  subst hn
  have hl : (frameB b).length = ((213 : UInt8) :: var (b.length : Int)).length + b.length + 4 := by
    unfold frameB; simp [le_length]; omega
  have e : frameB b ++ r = ((213 : UInt8) :: var (b.length : Int)) ++ (b ++ (le (crc b) 4 ++ r)) := by unfold frameB; simp
  refine ⟨by rw [List.length_append, hl]; omega, ?_, ?_, hl, ?_⟩
  · rw [e, List.take_left]
  · rw [e, List.drop_left, List.take_left]
  · rw [List.take_left]

theorem frameB_len_eq {b : List UInt8} {n : Nat} (hn : b.length = n) : (frameB b).length = ((213 : UInt8) :: var (n : Int)).length + n + 4 := by
  subst hn
  unfold frameB; simp [le_length]; omega
def exZero : Value := .agg #[.int .u8 0, .string ⟨#[]⟩]
def exVal (b : List UInt8) : Value := .agg #[.int .u8 ((b.headD 0).toNat : Int), .string (bs b.tail)]
def standAns (l : List UInt8) : ByteArray × Value :=
  match stand l with
  | some b => (bs (frameB b), exVal b)
  | none => (⟨#[]⟩, exZero)
theorem standAns_none {l : List UInt8} (h : stand l = none) : standAns l = (⟨#[]⟩, exZero) := by simp [standAns, h]
theorem standAns_some {l b : List UInt8} (h : stand l = some b) : standAns l = (bs (frameB b), exVal b) := by simp [standAns, h]
theorem ret_stand {l : List UInt8} {x : ByteArray} {v : Value} (h : standAns l = (x, v)) :
    Ending.returned (.tuple #[.string x, v]) = .returned (.tuple #[.string (standAns l).1, (standAns l).2]) := by rw [h]
/-- The empty example, just laid, read in a later world. -/
theorem zeroEx_cells {w w1 : World} (hb : Below (w.alloc (.cells #[.int .u8 0, .string ⟨#[]⟩] 97)).heap.size (w.alloc (.cells #[.int .u8 0, .string ⟨#[]⟩] 97)) w1) :
    w1.cell? ⟨w.heap.size, 0, none⟩ = some (.int .u8 0) ∧ w1.cell? ⟨w.heap.size, 1, none⟩ = some (.string ⟨#[]⟩) ∧
    w1.frozen? ⟨w.heap.size, 0, none⟩ = false ∧ w1.frozen? ⟨w.heap.size, 1, none⟩ = false ∧ w.heap.size < w1.heap.size := by
  have hz := hb.size
  obtain ⟨hc, hf⟩ := bcell hb
  simp at hz hc hf
  refine ⟨?_, ?_, ?_, ?_, by omega⟩
  all_goals first | (rw [hc _ _ (by omega)]; simp [go_sem]) | (rw [hf _ _ (by omega)]; simp [go_sem])

set_option maxRecDepth 100000 in
set_option maxHeartbeats 2000000 in
theorem stands_any (S : ByteArray) (hS : S.size ≤ 600) (hS0 : 0 < S.size) (w : World) :
    Calls Tryz.prog 34 #[.string S] w fun e w' => e = .returned (.tuple #[.string (standAns (ls S)).1, (standAns (ls S)).2]) ∧ Below w.heap.size w w' := by
  obtain ⟨c0, hc0, HC0⟩ : ∃ c0, S[0] = c0 ∧ Hid (ls S = c0 :: (ls S).tail) := ⟨S[0], rfl, ls_zero S hS0⟩
  by_cases h213 : c0 = 213
  · subst h213
    go_enter Tryz.func34, Tryz.ntmps34
    go_wp2
    go_loopw [4] (fun n wr => ∃ k : Nat, k ≤ 201 ∧ n = .int .i64 k ∧ Hid (NoneTo (ls S) k) ∧ Below (w.alloc (.cells #[.int .u8 0, .string ⟨#[]⟩] 97)).heap.size (w.alloc (.cells #[.int .u8 0, .string ⟨#[]⟩] 97)) wr) (fun n _ => 201 - (intOf n).toNat)
    case atStart => exact ⟨0, by omega, rfl, NoneTo.start _, Below.refl _ _⟩
    case round =>
      obtain ⟨k, hk, rfl, HN, hbr⟩ := hrel
      by_cases hlt : k ≤ 200
      · have e1 : Hid (bs (le 213 1) = bs [213]) := rfl
        obtain ⟨V, HV, hVz⟩ : ∃ V : ByteArray, Hid (bs (var ((k + 1 : Nat) : Int)) = V) ∧ 1 ≤ V.size ∧ V.size ≤ 10 := ⟨_, (rfl : _ = _), by rw [bs_size]; exact (var_length _).1, by rw [bs_size]; exact (var_length _).2⟩
        have kz : (bs [213]).size = 1 := rfl
        obtain ⟨H, A, HH, hHz, hA1, hA2⟩ : ∃ (H : ByteArray) (A : Nat), Hid (bs [213] ++ V = H ∧ ls H = (213 : UInt8) :: var ((k + 1 : Nat) : Int)) ∧ H.size = A ∧ 2 ≤ A ∧ A ≤ 11 :=
          ⟨_, _, ⟨rfl, by rw [ls_append, ls_bs, ← HV.out, ls_bs]; rfl⟩, rfl, by rw [ByteArray.size_append, kz]; omega, by rw [ByteArray.size_append, kz]; omega⟩
        go_wp2_with fail
        refine (little_any _ 1 (by omega) (by omega) (by omega) _).mono ?_
        rintro e w1 ⟨rfl, hb1⟩
        rw [e1.out]
        go_wp2_with fail
        refine (varint_any _ (by omega) (by omega) _).mono ?_
        rintro e w2 ⟨rfl, hb2⟩
        rw [show bs (var ((k : Int) + 1)) = V from HV.out]
        have hbr2 := (hbr.trans (hb1.mono hbr.size)).trans (hb2.mono (Nat.le_trans hbr.size hb1.size))
        have HA : Hid (((213 : UInt8) :: var ((k + 1 : Nat) : Int)).length = A) := by
          show _ = _
          rw [← HH.out.2, ls_length, hHz]
        by_cases hl : S.size < A + 1 + k + 4
        · have hlb : decide ((S.size : Int) < (A : Int) + 1 + (k : Int) + 4) = true := by simp; omega
          have HN2 : Hid (NoneTo (ls S) (k + 1)) := HN.out.next fun b ok hp hb => by
            have := (frame_shape hp hb).1
            rw [HA.out, ls_length] at this
            omega
          go_wp2_with (rw [HH.out.1])
          go_roundw
          case rel => exact ⟨k + 1, by omega, by go_num, HN2, hbr2⟩
          case measure => simp [intOf]; omega
        · have hlb : decide ((S.size : Int) < (A : Int) + 1 + (k : Int) + 4) = false := by simp; omega
          obtain ⟨E, HE⟩ : ∃ E : ByteArray, Hid (S.extract 0 (A) = E ∧ ls E = (ls S).take (A)) := ⟨_, rfl, by rw [ls_cut]; simp⟩
          by_cases hEH : E = H
          · subst hEH
            have heq : (!E.toList == E.toList) = false := by simp
            have hAS : A < S.size := by omega
            obtain ⟨c1, hc1, HC1⟩ : ∃ c1, S[A] = c1 ∧ Hid ((ls S).drop (A) = c1 :: (ls S).drop (A + 1)) := ⟨_, rfl, drop_getElem S (A) hAS⟩
            obtain ⟨T, HT, hTz⟩ : ∃ T : ByteArray, Hid (S.extract (A + 1) (A + 1 + k) = T ∧ ls T = ((ls S).drop (A + 1)).take k) ∧ T.size = k := ⟨_, ⟨rfl, by rw [ls_cut, show A + 1 + k - (A + 1) = k by omega]⟩, by rw [ByteArray.size_extract]; omega⟩
            go_wp2_with (first | rw [HH.out.1] | rw [HE.out.1])
            have i1 : (A : Int) < (S.size : Int) := by omega
            have HB : Hid (((ls S).drop A).take (k + 1) = c1 :: ls T) := by
              show _ = _
              rw [HC1.out, HT.out.2]; rfl
            have hTl : (ls T).length = k := by rw [ls_length]; exact hTz
            have HL : Hid ((c1 :: ls T).length = k + 1) := by show _ = _; simp [hTl]
            have HFL : Hid ((frameB (c1 :: ls T)).length = A + (k + 1) + 4) := by show _ = _; rw [frameB_len_eq HL.out, HA.out]
            have hc1b := c1.toNat_lt
            have HFA : Hid (frame (c1.toNat : Int) (ls T) = frameB (c1 :: ls T)) := by show _ = _; unfold frame body; rw [by8_nat]
            go_region
            rw [HT.out.1]
            go_wp2_with fail
            refine (refFrame_any _ T (by omega) (by omega) (by unfold maxLen; omega) _).mono ?_
            rintro e w3 ⟨rfl, hb3⟩
            have hbr3 := ((hbr2.alloc hbr2.size _).drew).trans (hb3.mono (by have := hbr2.size; simp at this; simp; omega))
            by_cases h4 : (4 : Int) ≤ (c1.toNat : Int)
            · rw [frameAns_label _ _ h4]
              have HN2 : Hid (NoneTo (ls S) (k + 1)) := HN.out.next fun b ok hp hb => by
                have := (frame_shape hp hb).2.2.1
                rw [HA.out, HB.out] at this
                rw [← this] at ok
                simp [bodyOk] at ok
                omega
              go_wp2
              go_roundw
              case rel => exact ⟨k + 1, by omega, by go_num, HN2, hbr3⟩
              case measure => simp [intOf]; omega
            · rw [frameAns_ok _ _ h4 (by omega), HFA.out]
              obtain ⟨Fb, HF, hFz⟩ : ∃ Fb : ByteArray, Hid (bs (frameB (c1 :: ls T)) = Fb) ∧ Fb.size = A + (k + 1) + 4 := ⟨_, (rfl : _ = _), by rw [bs_size]; exact HFL.out⟩
              rw [HF.out]
              obtain ⟨X, HX⟩ : ∃ X : ByteArray, Hid (S.extract 0 (A + (k + 1) + 4) = X ∧ ls X = (ls S).take (A + (k + 1) + 4)) := ⟨_, rfl, by rw [ls_cut]; simp⟩
              have hZS : A + (k + 1) + 4 ≤ S.size := by omega
              obtain ⟨q0, q1, g0, g1, hz3⟩ := zeroEx_cells hbr3
              have hz2 : w.heap.size < w2.heap.size := by have := hbr2.size; simp at this; omega
              have hz23 := hb3.size
              simp at hz23
              have k0 := (hb3.cell (p := ⟨w2.heap.size, 0, none⟩) (by simp)).trans (show _ = some (.int .u8 (c1.toNat : Int)) by simp [go_sem])
              have k1 := (hb3.cell (p := ⟨w2.heap.size, 1, none⟩) (by simp)).trans (show _ = some (.string T) by simp [go_sem])
              by_cases hXF : X = Fb
              · subst hXF
                have HAns : Hid (standAns (ls S) = (X, .agg #[.int .u8 (c1.toNat : Int), .string T])) := by
                  have hst : stand (ls S) = some (c1 :: ls T) := (stand_iff _ _).2 ⟨by simp [bodyOk]; omega, by
                    rw [List.prefix_iff_eq_take, HFL.out, ← HX.out.2, ← HF.out, ls_bs]⟩
                  show _ = _
                  rw [standAns_some hst, HF.out]
                  simp [exVal, bs_ls]
                go_wp2_with (rw [HX.out.1])
                go_region
                go_wp2
                refine bodyPost_ret (v := .tuple #[.string X, .agg #[.int .u8 (c1.toNat : Int), .string T]]) (by simp [results, Tryz.results34, go_sem, q0, q1]) rfl ?_
                refine ⟨ret_stand HAns.out, ?_⟩
                exact ((((Below.refl _ _).alloc (Nat.le_refl _) _).trans (hbr3.mono (by simp))).setCell (by simp) _ |>.setCell (by simp) _).drew
              · have hne : (X.toList == Fb.toList) = false := by
                  simp
                  intro h
                  exact hXF (ls_inj (by rw [ByteArray.toList_eq, ByteArray.toList_eq] at h; exact h))
                have HN2 : Hid (NoneTo (ls S) (k + 1)) := HN.out.next fun b ok hp hb => by
                  obtain ⟨_, _, f3, f4, f5⟩ := frame_shape hp hb
                  rw [HA.out, HB.out] at f3
                  rw [← f3, HFL.out, ← HX.out.2] at f5
                  exact hXF (ls_inj (by rw [f5, ← HF.out, ls_bs]))
                go_wp2_with (rw [HX.out.1])
                go_roundw
                case rel => exact ⟨k + 1, by omega, by go_num, HN2, hbr3⟩
                case measure => simp [intOf]; omega
          · have hne : (!E.toList == H.toList) = true := by
              simp
              intro h
              exact hEH (ls_inj (by rw [ByteArray.toList_eq, ByteArray.toList_eq] at h; exact h))
            have HN2 : Hid (NoneTo (ls S) (k + 1)) := HN.out.next fun b ok hp hb => by
              have := (frame_shape hp hb).2.1
              rw [HA.out, ← HE.out.2, ← HH.out.2] at this
              exact hEH (ls_inj this)
            go_wp2_with (first | rw [HH.out.1] | rw [HE.out.1])
            go_roundw
            case rel => exact ⟨k + 1, by omega, by go_num, HN2, hbr2⟩
            case measure => simp [intOf]; omega
      · obtain rfl : k = 201 := by omega
        have HAns : Hid (standAns (ls S) = (⟨#[]⟩, exZero)) := standAns_none HN.out.none
        obtain ⟨q0, q1, g0, g1, hz3⟩ := zeroEx_cells hbr
        go_wp2
        refine bodyPost_ret (v := .tuple #[.string ⟨#[]⟩, .agg #[.int .u8 0, .string ⟨#[]⟩]]) (by simp [results, Tryz.results34, go_sem, q0, q1]) rfl ?_
        refine ⟨ret_stand HAns.out, ?_⟩
        exact ((((Below.refl _ _).alloc (Nat.le_refl _) _).trans (hbr.mono (by simp))).setCell (by simp) _ |>.setCell (by simp) _)
  · have HAns : Hid (standAns (ls S) = (⟨#[]⟩, exZero)) := standAns_none (by rw [HC0.out]; exact stand_213 h213)
    have hcb : ((c0.toNat : Int) == 213) = false := by
      simp
      intro h
      exact h213 (by rw [← by8_nat c0, h]; rfl)
    go_enter Tryz.func34, Tryz.ntmps34
    go_wp2
    refine wp_loop_rounds 1 ?_
    rw [rounds_succ]
    go_wp2
    refine bodyPost_ret (v := .tuple #[.string ⟨#[]⟩, .agg #[.int .u8 0, .string ⟨#[]⟩]]) (by simp [results, Tryz.results34, go_sem]) rfl ?_
    exact ⟨ret_stand HAns.out, by go_grown⟩
end Go.Proofs.YtfpodnleimhohaaGreatDoor

/-
  WALKS: the document's Scan.
-/
namespace Go.Proofs.YtfpodnleimhohaaGreatDoor
open Go.RowKit
set_option linter.unusedVariables false

/-- The gap that is open at a place. -/
def openGap (o p : Nat) : List (Nat × Nat) := if o < p then [(o, p)] else []
theorem openGap_yes {o p : Nat} (h : o < p) : openGap o p = [(o, p)] := by simp [openGap, h]
theorem openGap_no {o p : Nat} (h : ¬ o < p) : openGap o p = [] := by simp [openGap, h]
theorem gapsF_open (o n p q : Nat) (b : List UInt8) (rs : List Rc) : gapsF o n (⟨p, q, b⟩ :: rs) = openGap o p ++ gapsF q n rs := rfl
theorem gapsF_end (o n : Nat) : gapsF o n [] = openGap o n := rfl
theorem gapsCells_set (G : List (Nat × Nat)) (o p q : Nat) : (gapsCells (G ++ [(o, p)])).set (G.length * 2 + 1) (.int .i64 q) = gapsCells (G ++ [(o, q)]) := by
  have hl : (gapsCells G).length = G.length * 2 := by
    induction G with
    | nil => rfl
    | cons g G ih => simp [gapsCells, gapCells] at ih ⊢; omega
  rw [gapsCells_snoc, gapsCells_snoc, ← hl, List.set_append_right _ _ (by omega), show (gapsCells G).length + 1 - (gapsCells G).length = 1 by omega]
  rfl

/-- The state of the document's Scan at the head of a round. -/
def ScanRel2 (s : ByteArray) (w : World) (vR vG p : Value) (wr : World) : Prop :=
  ∃ (P O : Nat) (R : List Rc) (G : List (Nat × Nat)), O ≤ P ∧ P ≤ s.size ∧ p = .int .i64 P ∧ R.length ≤ P ∧ G.length ≤ O ∧ (∀ g ∈ G, g.2 < O) ∧
    wr.ownsRow w.heap.size 99 4 vR R.length (recsCells R) ∧ wr.ownsRow w.heap.size 103 2 vG (G ++ openGap O P).length (gapsCells (G ++ openGap O P)) ∧ Below w.heap.size w wr ∧
    R ++ recsAt (ls s) P = recs (ls s) ∧ G ++ gapsF O s.size (recsAt (ls s) P) = gaps (ls s)

set_option maxRecDepth 100000 in
set_option maxHeartbeats 2000000 in
theorem refScan_any (s : ByteArray) (hs : s.size ≤ 600) (w : World) :
    Calls Tryz.prog 17 #[.string s] w fun e w' => ∃ vR vG, e = .returned (.tuple #[vR, vG, .int .i64 0]) ∧
      w'.ownsRow w.heap.size 99 4 vR (recs (ls s)).length (recsCells (recs (ls s))) ∧ w'.ownsRow w.heap.size 103 2 vG (gaps (ls s)).length (gapsCells (gaps (ls s))) ∧ Below w.heap.size w w' := by
  obtain ⟨iR, hiR, hzR0, hzR1, hzR2⟩ := info_parts info_rec
  obtain ⟨iG, hiG, hzG0, hzG1, hzG2⟩ := info_parts info_gap
  go_enter Tryz.func17, Tryz.ntmps17
  go_wp2
  go_loopw [5, 6, 7] (fun vR vG p wr => ScanRel2 s w vR vG p wr) (fun _ _ p _ => s.size - (intOf p).toNat)
  case atStart => exact ⟨0, 0, [], [], by omega, by omega, rfl, by simp, by simp, by simp, World.ownsRow_nil _ _ _ _, World.ownsRow_nil _ _ _ _, Below.refl _ _, rfl, by simp [gaps, recs, ls_length]⟩
  case round =>
    obtain ⟨P, O, R, G, hOP, hPs, rfl, hRl, hGl, hGO, hoR, hoG, hbel, HRe, HGe⟩ := hrel
    have HR : Hid (R ++ recsAt (ls s) P = recs (ls s)) := HRe
    have HG : Hid (G ++ gapsF O s.size (recsAt (ls s) P) = gaps (ls s)) := HGe
    have HGO : Hid (∀ g ∈ G, g.2 < O) := hGO
    clear HRe HGe hGO
    by_cases hlt : P < s.size
    · have hll : P < (ls s).length := by rw [ls_length]; exact hlt
      obtain ⟨S, HS, hSz⟩ : ∃ S : ByteArray, Hid (s.extract P s.size = S ∧ ls S = (ls s).drop P) ∧ S.size = s.size - P := ⟨_, ⟨rfl, ls_extract s P⟩, by rw [ByteArray.size_extract]; omega⟩
      have HoR : Hid _ := hoR
      have HoG : Hid _ := hoG
      clear hoR hoG
      go_wp2_with (rw [HS.out.1])
      refine (stands_any S (by omega) (by omega) _).mono ?_
      rintro e w1 ⟨rfl, hb1⟩
      rw [HS.out.2]
      have hb2 := hbel.trans (hb1.mono hbel.size)
      have hoR1 := ownsRow_below HoR.out hb1
      have hoG1 := ownsRow_below HoG.out hb1
      have hz2 := hb2.size
      clear HoR HoG
      cases hst : stand ((ls s).drop P) with
      | some b =>
        obtain ⟨hle, hat⟩ := recsAt_some hst
        rw [standAns_some hst]
        have HA : Hid (recsAt (ls s) P = ⟨P, P + (frameB b).length, b⟩ :: recsAt (ls s) (P + (frameB b).length)) := hat
        rw [ls_length] at hle
        have h6 := frameB_len b
        obtain ⟨Fb, HF, hFz⟩ : ∃ Fb : ByteArray, Hid (bs (frameB b) = Fb) ∧ Fb.size = (frameB b).length := ⟨_, (rfl : _ = _), bs_size _⟩
        rw [HF.out]
        generalize hfl : (frameB b).length = n at *
        have HL : Hid ((frameB b).length = n) := hfl
        clear hst hat hfl
        unfold exVal
        obtain ⟨lab, tx, Hlt⟩ : ∃ (lab : Int) (tx : ByteArray), Hid (((b.headD 0).toNat : Int) = lab ∧ bs b.tail = tx) := ⟨_, _, rfl, rfl⟩
        rw [Hlt.out.1, Hlt.out.2]
        have hne : Fb.toList.isEmpty = false := by
          rw [ByteArray.toList_eq]
          cases hq : Fb.data.toList with
          | nil =>
            have : Fb.data.toList.length = n := by rw [← hFz]; exact ls_length Fb
            rw [hq] at this; simp at this; omega
          | cons => rfl
        have HltR : Hid _ := hoR1.lt
        go_wp2_with (at_builtin; refine wpList_append_own _ rfl (.tmp 26) (.tmp 34) 52 rfl w.heap.size 99 iR (.agg #[.int .i64 0, .int .i64 0, .int .u8 0, .string ⟨#[]⟩]) 4 40 Tryz.underlying52 hiR hzR0 hzR1 hzR2 rfl (by decide) _ _ _ rfl ((hoR1.alloc _).alloc _) ⟨w1.heap.size + 1, 0, none⟩ 1 1 [.int .i64 P, .int .i64 ((P : Int) + n), .int .u8 lab, .string tx] rfl rfl (news_at _ _ (by simp) _ _ _ rfl) (oneCell_nums _ rfl) (by unfold maxLen; omega) (by omega) (by simp; omega) ?_; intro vR' w3 hoR3 hgR hxx; clear hxx)
        go_roundw
        case rel =>
          refine ⟨P + n, P + n, R ++ [⟨P, P + n, b⟩], G ++ openGap O P, by omega, by omega, by go_num, by simp; omega, ?_, ?_, ?_, ?_, ?_, ?_, ?_⟩
          · rw [List.length_append]; unfold openGap; split <;> simp <;> omega
          · intro g hg
            rcases List.mem_append.1 hg with hg | hg
            · have := HGO.out g hg; omega
            · unfold openGap at hg
              split at hg
              · simp at hg; subst hg; show P < P + n; omega
              · simp at hg
          · rw [recsCells_snoc, recCells_of Hlt.out, List.length_append]; exact hoR3
          · rw [openGap_no (show ¬ (P + n < P + n) by omega), List.append_nil]
            exact ownsRow_other ((hoG1.alloc _).alloc _) ((hoR1.alloc _).alloc _) (by decide) hgR
          · exact ((hb2.alloc hz2 _).alloc (by simp; omega) _).grown hgR (by simp; omega) (fun k hk => (HltR.out k hk).1)
          · rw [← HR.out, HA.out]; simp
          · rw [← HG.out, HA.out, gapsF_open]; simp
        case measure => simp [intOf]; omega
      | none =>
        rw [standAns_none hst]
        have HN : Hid (recsAt (ls s) P = recsAt (ls s) (P + 1)) := recsAt_none hll hst
        clear hst
        unfold exZero
        by_cases hop : O < P
        · rw [openGap_yes hop] at hoG1
          have hoG2 : w1.ownsRow w.heap.size 103 2 u6 (G.length + 1) (gapsCells (G ++ [(O, P)])) := by
            have := hoG1; rw [List.length_append] at this; exact this
          clear hoG1
          obtain ⟨ao, cp, hv, hc1, hc2, HRd⟩ := own_read hoG2
          obtain ⟨g, rfl, hg1, hg2, hg3⟩ := HRd (by omega)
          subst hv
          obtain ⟨q0, q1⟩ := gap_get (gs := G ++ [(O, P)]) (k := G.length) (g := (O, P)) (by simp)
          have d1 := (hg3 (G.length * 2 + 1) (by omega)).trans q1
          have f1 := hoG2.frozenAt (G.length * 2 + 1)
          have HoG : Hid _ := hoG2
          have HoR : Hid _ := hoR1
          unfold maxLen at hc2
          have hm0 : (0 : Int) < (G.length : Int) + 1 := by omega
          have hee : ((P : Int) == (P : Int)) = true := by simp
          clear hoG2 hoR1 HRd hg3 q0 q1
          simp only at d1
          go_wp2
          go_roundw
          case rel =>
            have st := World.ownsRow.stored HoG.out (G.length * 2 + 1) (.int .i64 ((P : Int) + 1))
            refine ⟨P + 1, O, R, G, by omega, by omega, by go_num, by omega, hGl, HGO.out, ?_, ?_, ?_, ?_, ?_⟩
            · exact (ownsRow_other HoR.out HoG.out (by decide) st.2).alloc _
            · rw [openGap_yes (by omega), List.length_append, ← gapsCells_set G O P (P + 1), show (((P + 1 : Nat) : Int)) = (P : Int) + 1 by omega]; exact st.1.alloc _
            · exact (hb2.setCell (p := ⟨g, G.length * 2 + 1, none⟩) hg1 _).alloc (by simpa using hz2) _
            · rw [← HN.out]; exact HR.out
            · rw [← HN.out]; exact HG.out
          case measure => simp [intOf]; omega
        · obtain rfl : O = P := by omega
          rw [openGap_no hop, List.append_nil] at hoG1
          obtain ⟨N, hN⟩ : ∃ N, G.length = N := ⟨_, rfl⟩
          rw [hN] at hoG1 hGl
          have HltG : Hid _ := hoG1.lt
          have rel : ∀ (vG' : Value) (w3 : World) (W : World), W = w1.alloc (.cells #[.int .u8 0, .string ⟨#[]⟩] 97) → w3.ownsRow w.heap.size 103 2 vG' (N + 1) (gapsCells G ++ [.int .i64 O, .int .i64 ((O : Int) + 1)]) → (W.alloc (.cells #[.int .i64 O, .int .i64 ((O : Int) + 1)] 103)).grownBy w3 (Value.ownBlock u6) → ScanRel2 s w u5 vG' (.int .i64 ((O : Int) + 1)) w3 := by
            intro vG' w3 W hW h1 h2
            subst hW
            refine ⟨O + 1, O, R, G, by omega, by omega, by go_num, by omega, by omega, HGO.out, ?_, ?_, ?_, ?_, ?_⟩
            · exact ownsRow_other ((hoR1.alloc _).alloc _) ((hoG1.alloc _).alloc _) (by decide) h2
            · rw [openGap_yes (by omega), List.length_append, hN, gapsCells_snoc]
              rw [show gapCells (O, O + 1) = [.int .i64 O, .int .i64 ((O : Int) + 1)] by simp [gapCells]]
              exact h1
            · exact ((hb2.alloc hz2 _).alloc (by simp; omega) _).grown h2 (by simp; omega) (fun k hk => (HltG.out k hk).1)
            · rw [← HN.out]; exact HR.out
            · rw [← HN.out]; exact HG.out
          have HRel : Hid _ := rel
          have HNe : Hid (G.length = N) := hN
          obtain ⟨ao, cp, hv, hc1, hc2, HRd⟩ := own_read hoG1
          subst hv
          unfold maxLen at hc2
          have HRd' : Hid _ := HRd
          clear rel hN HRd hoR1
          cases N with
          | zero =>
            go_wp2_with (at_builtin; refine wpList_append_own _ rfl (.tmp 62) (.tmp 67) 53 rfl w.heap.size 103 iG (.agg #[.int .i64 0, .int .i64 0]) 2 16 Tryz.underlying53 hiG hzG0 hzG1 hzG2 rfl (by decide) _ _ _ rfl ((hoG1.alloc _).alloc _) ⟨w1.heap.size + 1, 0, none⟩ 1 1 [.int .i64 O, .int .i64 ((O : Int) + 1)] rfl rfl (news_at _ _ (by simp) _ _ _ rfl) (oneCell_nums _ rfl) (by unfold maxLen; omega) (by omega) (by simp; omega) ?_; intro vG' w3 hoG3 hgG hxx; clear hxx)
            go_roundw
            case rel => exact HRel.out _ _ _ rfl hoG3 hgG
            case measure => simp [intOf]; omega
          | succ m =>
            obtain ⟨g, rfl, hg1, hg2, hg3⟩ := HRd'.out (by omega)
            have hmG : m < G.length := by rw [HNe.out]; omega
            obtain ⟨q0, q1⟩ := gap_get (List.getElem?_eq_getElem hmG)
            have d1 := (hg3 (m * 2 + 1) (by omega)).trans q1
            have hy := HGO.out _ (List.getElem_mem hmG)
            generalize (G[m]'hmG).2 = y at *
            have hyb : ((y : Int) == (O : Int)) = false := by simp; omega
            have hm0 : (0 : Int) < (m : Int) + 1 := by omega
            clear HRd' hg3 q0 q1 hy hmG
            go_wp2_with (at_builtin; refine wpList_append_own _ rfl (.tmp 62) (.tmp 67) 53 rfl w.heap.size 103 iG (.agg #[.int .i64 0, .int .i64 0]) 2 16 Tryz.underlying53 hiG hzG0 hzG1 hzG2 rfl (by decide) _ _ _ rfl ((hoG1.alloc _).alloc _) ⟨w1.heap.size + 1, 0, none⟩ 1 1 [.int .i64 O, .int .i64 ((O : Int) + 1)] rfl rfl (news_at _ _ (by simp) _ _ _ rfl) (oneCell_nums _ rfl) (by unfold maxLen; omega) (by omega) (by simp; omega) ?_; intro vG' w3 hoG3 hgG hxx; clear hxx)
            go_roundw
            case rel => exact HRel.out _ _ _ rfl hoG3 hgG
            case measure => simp [intOf]; omega
    · obtain rfl : P = s.size := by omega
      have hend : recsAt (ls s) s.size = [] := by rw [← ls_length]; exact recsAt_end _
      rw [hend] at HR HG
      have HR2 : Hid (R = recs (ls s)) := by show R = recs (ls s); have := HR.out; simpa using this
      have HG2 : Hid (G ++ openGap O s.size = gaps (ls s)) := HG.out
      clear hend HR HG
      have HoR : Hid _ := hoR
      have HoG : Hid _ := hoG
      clear hoR hoG
      go_wp2
      go_ret3
      refine ⟨_, _, rfl, ?_, ?_, hbel⟩
      · rw [← HR2.out]; exact HoR.out
      · rw [← HG2.out]; exact HoG.out
end Go.Proofs.YtfpodnleimhohaaGreatDoor

/-
  WALKS: two lists held against each other.
-/
namespace Go.Proofs.YtfpodnleimhohaaGreatDoor
open Go.RowKit
set_option linter.unusedVariables false

end Go.Proofs.YtfpodnleimhohaaGreatDoor
