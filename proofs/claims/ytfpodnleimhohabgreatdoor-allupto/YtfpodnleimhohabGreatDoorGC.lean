import Derived.Test.YtfpodnleimhohabGreatDoorWalks6
import Derived.Test.YtfpodnleimhohabGreatDoorMath3
import Derived.Test.YtfpodnleimhohabGreatDoorWalks9
import Derived.Test.YtfpodnleimhohabGreatDoorSpare
/-
  WALKS: the document's answer: which frame stands at a text's head.
-/
namespace Go.Proofs.YtfpodnleimhohabGreatDoor
open Go.RowKit
set_option linter.unusedVariables false

/-- No frame of a body of at most k bytes stands at the head. -/
def NoneTo (l : List UInt8) (k : Nat) : Prop := ∀ b, bodyOk b = true → frameB b <+: l → k < b.length
theorem NoneTo.start (l : List UInt8) : NoneTo l 0 := fun b ok _ => (bodyOk_len ok).1
theorem NoneTo.none {l : List UInt8} (h : NoneTo l 201) : stand l = none :=
  stand_none _ fun b ok hp => by have := h b ok hp; have := (bodyOk_len ok).2; omega
theorem NoneTo.next {l : List UInt8} {k : Nat} (h : NoneTo l k) (h2 : ∀ b, bodyOk b = true → frameB b <+: l → b.length = k + 1 → False) : NoneTo l (k + 1) := by
  intro b ok hp
  have := h b ok hp
  rcases Nat.lt_or_ge (k + 1) b.length with h' | h'
  · exact h'
  · exact absurd (h2 b ok hp (by omega)) (by simp)
/-- What a frame of a body of n bytes is made of. -/
theorem frame_shape {b l : List UInt8} {n : Nat} (hp : frameB b <+: l) (hn : b.length = n) :
    ((213 : UInt8) :: var (n : Int)).length + n + 4 ≤ l.length ∧ l.take ((213 : UInt8) :: var (n : Int)).length = (213 : UInt8) :: var (n : Int) ∧ (l.drop ((213 : UInt8) :: var (n : Int)).length).take n = b ∧ (frameB b).length = ((213 : UInt8) :: var (n : Int)).length + n + 4 ∧ l.take (frameB b).length = frameB b := by
  obtain ⟨r, rfl⟩ := hp
  subst hn
  have hl : (frameB b).length = ((213 : UInt8) :: var (b.length : Int)).length + b.length + 4 := by
    unfold frameB; simp [le_length]; omega
  have e : frameB b ++ r = ((213 : UInt8) :: var (b.length : Int)) ++ (b ++ (le (crc b) 4 ++ r)) := by unfold frameB; simp
  refine ⟨by rw [List.length_append, hl]; omega, ?_, ?_, hl, ?_⟩
  · rw [e, List.take_left]
  · rw [e, List.drop_left, List.take_left]
  · rw [List.take_left]

theorem frameB_len_eq {b : List UInt8} {n : Nat} (hn : b.length = n) : (frameB b).length = ((213 : UInt8) :: var (n : Int)).length + n + 4 := by
  subst hn
  unfold frameB; simp [le_length]; omega
def exZero : Value := .agg #[.int .u8 0, .string ⟨#[]⟩]
def exVal (b : List UInt8) : Value := .agg #[.int .u8 ((b.headD 0).toNat : Int), .string (bs b.tail)]
def standAns (l : List UInt8) : ByteArray × Value :=
  match stand l with
  | some b => (bs (frameB b), exVal b)
  | none => (⟨#[]⟩, exZero)
theorem standAns_none {l : List UInt8} (h : stand l = none) : standAns l = (⟨#[]⟩, exZero) := by simp [standAns, h]
theorem standAns_some {l b : List UInt8} (h : stand l = some b) : standAns l = (bs (frameB b), exVal b) := by simp [standAns, h]
theorem ret_stand {l : List UInt8} {x : ByteArray} {v : Value} (h : standAns l = (x, v)) :
    Ending.returned (.tuple #[.string x, v]) = .returned (.tuple #[.string (standAns l).1, (standAns l).2]) := by rw [h]
/-- The empty example, just laid, read in a later world. -/
theorem zeroEx_cells {w w1 : World} (hb : Below (w.alloc (.cells #[.int .u8 0, .string ⟨#[]⟩] 97)).heap.size (w.alloc (.cells #[.int .u8 0, .string ⟨#[]⟩] 97)) w1) :
    w1.cell? ⟨w.heap.size, 0, none⟩ = some (.int .u8 0) ∧ w1.cell? ⟨w.heap.size, 1, none⟩ = some (.string ⟨#[]⟩) ∧
    w1.frozen? ⟨w.heap.size, 0, none⟩ = false ∧ w1.frozen? ⟨w.heap.size, 1, none⟩ = false ∧ w.heap.size < w1.heap.size := by
  have hz := hb.size
  obtain ⟨hc, hf⟩ := bcell hb
  simp at hz hc hf
  refine ⟨?_, ?_, ?_, ?_, by omega⟩
  all_goals first | (rw [hc _ _ (by omega)]; simp [go_sem]) | (rw [hf _ _ (by omega)]; simp [go_sem])

set_option maxRecDepth 100000 in
set_option maxHeartbeats 2000000 in
theorem stands_any (S : ByteArray) (hS : S.size ≤ 600) (hS0 : 0 < S.size) (w : World) :
    Calls Tryz.prog 33 #[.string S] w fun e w' => e = .returned (.tuple #[.string (standAns (ls S)).1, (standAns (ls S)).2]) ∧ Below w.heap.size w w' := by
  obtain ⟨c0, hc0, HC0⟩ : ∃ c0, S[0] = c0 ∧ Hid (ls S = c0 :: (ls S).tail) := ⟨S[0], rfl, ls_zero S hS0⟩
  by_cases h213 : c0 = 213
  · subst h213
    go_enter Tryz.func33, Tryz.ntmps33
    go_wp2
    go_loopw [4] (fun n wr => ∃ k : Nat, k ≤ 201 ∧ n = .int .i64 k ∧ Hid (NoneTo (ls S) k) ∧ Below (w.alloc (.cells #[.int .u8 0, .string ⟨#[]⟩] 97)).heap.size (w.alloc (.cells #[.int .u8 0, .string ⟨#[]⟩] 97)) wr) (fun n _ => 201 - (intOf n).toNat)
    case atStart => exact ⟨0, by omega, rfl, NoneTo.start _, Below.refl _ _⟩
    case round =>
      obtain ⟨k, hk, rfl, HN, hbr⟩ := hrel
      by_cases hlt : k ≤ 200
      · have e1 : Hid (bs (le 213 1) = bs [213]) := rfl
        obtain ⟨V, HV, hVz⟩ : ∃ V : ByteArray, Hid (bs (var ((k + 1 : Nat) : Int)) = V) ∧ 1 ≤ V.size ∧ V.size ≤ 10 := ⟨_, (rfl : _ = _), by rw [bs_size]; exact (var_length _).1, by rw [bs_size]; exact (var_length _).2⟩
        have kz : (bs [213]).size = 1 := rfl
        obtain ⟨H, A, HH, hHz, hA1, hA2⟩ : ∃ (H : ByteArray) (A : Nat), Hid (bs [213] ++ V = H ∧ ls H = (213 : UInt8) :: var ((k + 1 : Nat) : Int)) ∧ H.size = A ∧ 2 ≤ A ∧ A ≤ 11 :=
          ⟨_, _, ⟨rfl, by rw [ls_append, ls_bs, ← HV.out, ls_bs]; rfl⟩, rfl, by rw [ByteArray.size_append, kz]; omega, by rw [ByteArray.size_append, kz]; omega⟩
        go_wp2_with fail
        refine (little_any _ 1 (by omega) (by omega) (by omega) _).mono ?_
        rintro e w1 ⟨rfl, hb1⟩
        rw [e1.out]
        go_wp2_with fail
        refine (varint_any _ (by omega) (by omega) _).mono ?_
        rintro e w2 ⟨rfl, hb2⟩
        rw [show bs (var ((k : Int) + 1)) = V from HV.out]
        have hbr2 := (hbr.trans (hb1.mono hbr.size)).trans (hb2.mono (Nat.le_trans hbr.size hb1.size))
        have HA : Hid (((213 : UInt8) :: var ((k + 1 : Nat) : Int)).length = A) := by
          show _ = _
          rw [← HH.out.2, ls_length, hHz]
        by_cases hl : S.size < A + 1 + k + 4
        · have hlb : decide ((S.size : Int) < (A : Int) + 1 + (k : Int) + 4) = true := by simp; omega
          have HN2 : Hid (NoneTo (ls S) (k + 1)) := HN.out.next fun b ok hp hb => by
            have := (frame_shape hp hb).1
            rw [HA.out, ls_length] at this
            omega
          go_wp2_with (rw [HH.out.1])
          go_roundw
          case rel => exact ⟨k + 1, by omega, by go_num, HN2, hbr2⟩
          case measure => simp [intOf]; omega
        · have hlb : decide ((S.size : Int) < (A : Int) + 1 + (k : Int) + 4) = false := by simp; omega
          obtain ⟨E, HE⟩ : ∃ E : ByteArray, Hid (S.extract 0 (A) = E ∧ ls E = (ls S).take (A)) := ⟨_, rfl, by rw [ls_cut]; simp⟩
          by_cases hEH : E = H
          · subst hEH
            have heq : (!E.toList == E.toList) = false := by simp
            have hAS : A < S.size := by omega
            obtain ⟨c1, hc1, HC1⟩ : ∃ c1, S[A] = c1 ∧ Hid ((ls S).drop (A) = c1 :: (ls S).drop (A + 1)) := ⟨_, rfl, drop_getElem S (A) hAS⟩
            obtain ⟨T, HT, hTz⟩ : ∃ T : ByteArray, Hid (S.extract (A + 1) (A + 1 + k) = T ∧ ls T = ((ls S).drop (A + 1)).take k) ∧ T.size = k := ⟨_, ⟨rfl, by rw [ls_cut, show A + 1 + k - (A + 1) = k by omega]⟩, by rw [ByteArray.size_extract]; omega⟩
            go_wp2_with (first | rw [HH.out.1] | rw [HE.out.1])
            have i1 : (A : Int) < (S.size : Int) := by omega
            have HB : Hid (((ls S).drop A).take (k + 1) = c1 :: ls T) := by
              show _ = _
              rw [HC1.out, HT.out.2]; rfl
            have hTl : (ls T).length = k := by rw [ls_length]; exact hTz
            have HL : Hid ((c1 :: ls T).length = k + 1) := by show _ = _; simp [hTl]
            have HFL : Hid ((frameB (c1 :: ls T)).length = A + (k + 1) + 4) := by show _ = _; rw [frameB_len_eq HL.out, HA.out]
            have hc1b := c1.toNat_lt
            have HFA : Hid (frame (c1.toNat : Int) (ls T) = frameB (c1 :: ls T)) := by show _ = _; unfold frame body; rw [by8_nat]
            go_region
            rw [HT.out.1]
            go_wp2_with fail
            refine (refFrame_any _ T (by omega) (by omega) (by unfold maxLen; omega) _).mono ?_
            rintro e w3 ⟨rfl, hb3⟩
            have hbr3 := ((hbr2.alloc hbr2.size _).drew).trans (hb3.mono (by have := hbr2.size; simp at this; simp; omega))
            by_cases h4 : (4 : Int) ≤ (c1.toNat : Int)
            · rw [frameAns_label _ _ h4]
              have HN2 : Hid (NoneTo (ls S) (k + 1)) := HN.out.next fun b ok hp hb => by
                have := (frame_shape hp hb).2.2.1
                rw [HA.out, HB.out] at this
                rw [← this] at ok
                simp [bodyOk] at ok
                omega
              go_wp2
              go_roundw
              case rel => exact ⟨k + 1, by omega, by go_num, HN2, hbr3⟩
              case measure => simp [intOf]; omega
            · rw [frameAns_ok _ _ h4 (by omega), HFA.out]
              obtain ⟨Fb, HF, hFz⟩ : ∃ Fb : ByteArray, Hid (bs (frameB (c1 :: ls T)) = Fb) ∧ Fb.size = A + (k + 1) + 4 := ⟨_, (rfl : _ = _), by rw [bs_size]; exact HFL.out⟩
              rw [HF.out]
              obtain ⟨X, HX⟩ : ∃ X : ByteArray, Hid (S.extract 0 (A + (k + 1) + 4) = X ∧ ls X = (ls S).take (A + (k + 1) + 4)) := ⟨_, rfl, by rw [ls_cut]; simp⟩
              have hZS : A + (k + 1) + 4 ≤ S.size := by omega
              obtain ⟨q0, q1, g0, g1, hz3⟩ := zeroEx_cells hbr3
              have hz2 : w.heap.size < w2.heap.size := by have := hbr2.size; simp at this; omega
              have hz23 := hb3.size
              simp at hz23
              have k0 := (hb3.cell (p := ⟨w2.heap.size, 0, none⟩) (by simp)).trans (show _ = some (.int .u8 (c1.toNat : Int)) by simp [go_sem])
              have k1 := (hb3.cell (p := ⟨w2.heap.size, 1, none⟩) (by simp)).trans (show _ = some (.string T) by simp [go_sem])
              by_cases hXF : X = Fb
              · subst hXF
                have HAns : Hid (standAns (ls S) = (X, .agg #[.int .u8 (c1.toNat : Int), .string T])) := by
                  have hst : stand (ls S) = some (c1 :: ls T) := (stand_iff _ _).2 ⟨by simp [bodyOk]; omega, by
                    rw [List.prefix_iff_eq_take, HFL.out, ← HX.out.2, ← HF.out, ls_bs]⟩
                  show _ = _
                  rw [standAns_some hst, HF.out]
                  simp [exVal, bs_ls]
                go_wp2_with (rw [HX.out.1])
                go_region
                go_wp2
                refine bodyPost_ret (v := .tuple #[.string X, .agg #[.int .u8 (c1.toNat : Int), .string T]]) (by simp [results, Tryz.results33, go_sem, q0, q1]) rfl ?_
                refine ⟨ret_stand HAns.out, ?_⟩
                exact ((((Below.refl _ _).alloc (Nat.le_refl _) _).trans (hbr3.mono (by simp))).setCell (by simp) _ |>.setCell (by simp) _).drew
              · have hne : (X.toList == Fb.toList) = false := by
                  simp
                  intro h
                  exact hXF (ls_inj (by rw [ByteArray.toList_eq, ByteArray.toList_eq] at h; exact h))
                have HN2 : Hid (NoneTo (ls S) (k + 1)) := HN.out.next fun b ok hp hb => by
                  obtain ⟨_, _, f3, f4, f5⟩ := frame_shape hp hb
                  rw [HA.out, HB.out] at f3
                  rw [← f3, HFL.out, ← HX.out.2] at f5
                  exact hXF (ls_inj (by rw [f5, ← HF.out, ls_bs]))
                go_wp2_with (rw [HX.out.1])
                go_roundw
                case rel => exact ⟨k + 1, by omega, by go_num, HN2, hbr3⟩
                case measure => simp [intOf]; omega
          · have hne : (!E.toList == H.toList) = true := by
              simp
              intro h
              exact hEH (ls_inj (by rw [ByteArray.toList_eq, ByteArray.toList_eq] at h; exact h))
            have HN2 : Hid (NoneTo (ls S) (k + 1)) := HN.out.next fun b ok hp hb => by
              have := (frame_shape hp hb).2.1
              rw [HA.out, ← HE.out.2, ← HH.out.2] at this
              exact hEH (ls_inj this)
            go_wp2_with (first | rw [HH.out.1] | rw [HE.out.1])
            go_roundw
            case rel => exact ⟨k + 1, by omega, by go_num, HN2, hbr2⟩
            case measure => simp [intOf]; omega
      · obtain rfl : k = 201 := by omega
        have HAns : Hid (standAns (ls S) = (⟨#[]⟩, exZero)) := standAns_none HN.out.none
        obtain ⟨q0, q1, g0, g1, hz3⟩ := zeroEx_cells hbr
        go_wp2
        refine bodyPost_ret (v := .tuple #[.string ⟨#[]⟩, .agg #[.int .u8 0, .string ⟨#[]⟩]]) (by simp [results, Tryz.results33, go_sem, q0, q1]) rfl ?_
        refine ⟨ret_stand HAns.out, ?_⟩
        exact ((((Below.refl _ _).alloc (Nat.le_refl _) _).trans (hbr.mono (by simp))).setCell (by simp) _ |>.setCell (by simp) _)
  · have HAns : Hid (standAns (ls S) = (⟨#[]⟩, exZero)) := standAns_none (by rw [HC0.out]; exact stand_213 h213)
    have hcb : ((c0.toNat : Int) == 213) = false := by
      simp
      intro h
      exact h213 (by rw [← by8_nat c0, h]; rfl)
    go_enter Tryz.func33, Tryz.ntmps33
    go_wp2
    refine wp_loop_rounds 1 ?_
    rw [rounds_succ]
    go_wp2
    refine bodyPost_ret (v := .tuple #[.string ⟨#[]⟩, .agg #[.int .u8 0, .string ⟨#[]⟩]]) (by simp [results, Tryz.results33, go_sem]) rfl ?_
    exact ⟨ret_stand HAns.out, by go_grown⟩
end Go.Proofs.YtfpodnleimhohabGreatDoor

/-
  WALKS: the document's Scan.
-/
namespace Go.Proofs.YtfpodnleimhohabGreatDoor
open Go.RowKit
set_option linter.unusedVariables false

/-- The gap that is open at a place. -/
def openGap (o p : Nat) : List (Nat × Nat) := if o < p then [(o, p)] else []
theorem openGap_yes {o p : Nat} (h : o < p) : openGap o p = [(o, p)] := by simp [openGap, h]
theorem openGap_no {o p : Nat} (h : ¬ o < p) : openGap o p = [] := by simp [openGap, h]
theorem gapsF_open (o n p q : Nat) (b : List UInt8) (rs : List Rc) : gapsF o n (⟨p, q, b⟩ :: rs) = openGap o p ++ gapsF q n rs := rfl
theorem gapsF_end (o n : Nat) : gapsF o n [] = openGap o n := rfl
theorem gapsCells_set (G : List (Nat × Nat)) (o p q : Nat) : (gapsCells (G ++ [(o, p)])).set (G.length * 2 + 1) (.int .i64 q) = gapsCells (G ++ [(o, q)]) := by
  have hl : (gapsCells G).length = G.length * 2 := by
    induction G with
    | nil => rfl
    | cons g G ih => simp [gapsCells, gapCells] at ih ⊢; omega
  rw [gapsCells_snoc, gapsCells_snoc, ← hl, List.set_append_right _ _ (by omega), show (gapsCells G).length + 1 - (gapsCells G).length = 1 by omega]
  rfl

/-- The state of the document's Scan at the head of a round. -/
def ScanRel2 (s : ByteArray) (w : World) (vR vG p : Value) (wr : World) : Prop :=
  ∃ (P O : Nat) (R : List Rc) (G : List (Nat × Nat)), O ≤ P ∧ P ≤ s.size ∧ p = .int .i64 P ∧ R.length ≤ P ∧ G.length ≤ O ∧ (∀ g ∈ G, g.2 < O) ∧
    wr.ownsRow w.heap.size 99 4 vR R.length (recsCells R) ∧ wr.ownsRow w.heap.size 103 2 vG (G ++ openGap O P).length (gapsCells (G ++ openGap O P)) ∧ Below w.heap.size w wr ∧
    R ++ recsAt (ls s) P = recs (ls s) ∧ G ++ gapsF O s.size (recsAt (ls s) P) = gaps (ls s)

set_option maxRecDepth 100000 in
set_option maxHeartbeats 2000000 in
theorem refScan_any (s : ByteArray) (hs : s.size ≤ 600) (w : World) :
    Calls Tryz.prog 16 #[.string s] w fun e w' => ∃ vR vG, e = .returned (.tuple #[vR, vG, .int .i64 0]) ∧
      w'.ownsRow w.heap.size 99 4 vR (recs (ls s)).length (recsCells (recs (ls s))) ∧ w'.ownsRow w.heap.size 103 2 vG (gaps (ls s)).length (gapsCells (gaps (ls s))) ∧ Below w.heap.size w w' := by
  obtain ⟨iR, hiR, hzR0, hzR1, hzR2⟩ := info_parts info_rec
  obtain ⟨iG, hiG, hzG0, hzG1, hzG2⟩ := info_parts info_gap
  go_enter Tryz.func16, Tryz.ntmps16
  go_wp2
  go_loopw [5, 6, 7] (fun vR vG p wr => ScanRel2 s w vR vG p wr) (fun _ _ p _ => s.size - (intOf p).toNat)
  case atStart => exact ⟨0, 0, [], [], by omega, by omega, rfl, by simp, by simp, by simp, World.ownsRow_nil _ _ _ _, World.ownsRow_nil _ _ _ _, Below.refl _ _, rfl, by simp [gaps, recs, ls_length]⟩
  case round =>
    obtain ⟨P, O, R, G, hOP, hPs, rfl, hRl, hGl, hGO, hoR, hoG, hbel, HRe, HGe⟩ := hrel
    have HR : Hid (R ++ recsAt (ls s) P = recs (ls s)) := HRe
    have HG : Hid (G ++ gapsF O s.size (recsAt (ls s) P) = gaps (ls s)) := HGe
    have HGO : Hid (∀ g ∈ G, g.2 < O) := hGO
    clear HRe HGe hGO
    by_cases hlt : P < s.size
    · have hll : P < (ls s).length := by rw [ls_length]; exact hlt
      obtain ⟨S, HS, hSz⟩ : ∃ S : ByteArray, Hid (s.extract P s.size = S ∧ ls S = (ls s).drop P) ∧ S.size = s.size - P := ⟨_, ⟨rfl, ls_extract s P⟩, by rw [ByteArray.size_extract]; omega⟩
      have HoR : Hid _ := hoR
      have HoG : Hid _ := hoG
      clear hoR hoG
      go_wp2_with (rw [HS.out.1])
      refine (stands_any S (by omega) (by omega) _).mono ?_
      rintro e w1 ⟨rfl, hb1⟩
      rw [HS.out.2]
      have hb2 := hbel.trans (hb1.mono hbel.size)
      have hoR1 := ownsRow_below HoR.out hb1
      have hoG1 := ownsRow_below HoG.out hb1
      have hz2 := hb2.size
      clear HoR HoG
      cases hst : stand ((ls s).drop P) with
      | some b =>
        obtain ⟨hle, hat⟩ := recsAt_some hst
        rw [standAns_some hst]
        have HA : Hid (recsAt (ls s) P = ⟨P, P + (frameB b).length, b⟩ :: recsAt (ls s) (P + (frameB b).length)) := hat
        rw [ls_length] at hle
        have h6 := frameB_len b
        obtain ⟨Fb, HF, hFz⟩ : ∃ Fb : ByteArray, Hid (bs (frameB b) = Fb) ∧ Fb.size = (frameB b).length := ⟨_, (rfl : _ = _), bs_size _⟩
        rw [HF.out]
        generalize hfl : (frameB b).length = n at *
        have HL : Hid ((frameB b).length = n) := hfl
        clear hst hat hfl
        unfold exVal
        obtain ⟨lab, tx, Hlt⟩ : ∃ (lab : Int) (tx : ByteArray), Hid (((b.headD 0).toNat : Int) = lab ∧ bs b.tail = tx) := ⟨_, _, rfl, rfl⟩
        rw [Hlt.out.1, Hlt.out.2]
        have hne : Fb.toList.isEmpty = false := by
          rw [ByteArray.toList_eq]
          cases hq : Fb.data.toList with
          | nil =>
            have : Fb.data.toList.length = n := by rw [← hFz]; exact ls_length Fb
            rw [hq] at this; simp at this; omega
          | cons => rfl
        have HltR : Hid _ := hoR1.lt
        go_wp2_with (at_builtin; refine wpList_append_own _ rfl (.tmp 26) (.tmp 34) 52 rfl w.heap.size 99 iR (.agg #[.int .i64 0, .int .i64 0, .int .u8 0, .string ⟨#[]⟩]) 4 40 Tryz.underlying52 hiR hzR0 hzR1 hzR2 rfl (by decide) _ _ _ rfl ((hoR1.alloc _).alloc _) ⟨w1.heap.size + 1, 0, none⟩ 1 1 [.int .i64 P, .int .i64 ((P : Int) + n), .int .u8 lab, .string tx] rfl rfl (news_at _ _ (by simp) _ _ _ rfl) (oneCell_nums _ rfl) (by unfold maxLen; omega) (by omega) (by simp; omega) ?_; intro vR' w3 hoR3 hgR hxx; clear hxx)
        go_roundw
        case rel =>
          refine ⟨P + n, P + n, R ++ [⟨P, P + n, b⟩], G ++ openGap O P, by omega, by omega, by go_num, by simp; omega, ?_, ?_, ?_, ?_, ?_, ?_, ?_⟩
          · rw [List.length_append]; unfold openGap; split <;> simp <;> omega
          · intro g hg
            rcases List.mem_append.1 hg with hg | hg
            · have := HGO.out g hg; omega
            · unfold openGap at hg
              split at hg
              · simp at hg; subst hg; show P < P + n; omega
              · simp at hg
          · rw [recsCells_snoc, recCells_of Hlt.out, List.length_append]; exact hoR3
          · rw [openGap_no (show ¬ (P + n < P + n) by omega), List.append_nil]
            exact ownsRow_other ((hoG1.alloc _).alloc _) ((hoR1.alloc _).alloc _) (by decide) hgR
          · exact ((hb2.alloc hz2 _).alloc (by simp; omega) _).grown hgR (by simp; omega) (fun k hk => (HltR.out k hk).1)
          · rw [← HR.out, HA.out]; simp
          · rw [← HG.out, HA.out, gapsF_open]; simp
        case measure => simp [intOf]; omega
      | none =>
        rw [standAns_none hst]
        have HN : Hid (recsAt (ls s) P = recsAt (ls s) (P + 1)) := recsAt_none hll hst
        clear hst
        unfold exZero
        by_cases hop : O < P
        · rw [openGap_yes hop] at hoG1
          have hoG2 : w1.ownsRow w.heap.size 103 2 u6 (G.length + 1) (gapsCells (G ++ [(O, P)])) := by
            have := hoG1; rw [List.length_append] at this; exact this
          clear hoG1
          obtain ⟨ao, cp, hv, hc1, hc2, HRd⟩ := own_read hoG2
          obtain ⟨g, rfl, hg1, hg2, hg3⟩ := HRd (by omega)
          subst hv
          obtain ⟨q0, q1⟩ := gap_get (gs := G ++ [(O, P)]) (k := G.length) (g := (O, P)) (by simp)
          have d1 := (hg3 (G.length * 2 + 1) (by omega)).trans q1
          have f1 := hoG2.frozenAt (G.length * 2 + 1)
          have HoG : Hid _ := hoG2
          have HoR : Hid _ := hoR1
          unfold maxLen at hc2
          have hm0 : (0 : Int) < (G.length : Int) + 1 := by omega
          have hee : ((P : Int) == (P : Int)) = true := by simp
          clear hoG2 hoR1 HRd hg3 q0 q1
          simp only at d1
          go_wp2
          go_roundw
          case rel =>
            have st := World.ownsRow.stored HoG.out (G.length * 2 + 1) (.int .i64 ((P : Int) + 1))
            refine ⟨P + 1, O, R, G, by omega, by omega, by go_num, by omega, hGl, HGO.out, ?_, ?_, ?_, ?_, ?_⟩
            · exact (ownsRow_other HoR.out HoG.out (by decide) st.2).alloc _
            · rw [openGap_yes (by omega), List.length_append, ← gapsCells_set G O P (P + 1), show (((P + 1 : Nat) : Int)) = (P : Int) + 1 by omega]; exact st.1.alloc _
            · exact (hb2.setCell (p := ⟨g, G.length * 2 + 1, none⟩) hg1 _).alloc (by simpa using hz2) _
            · rw [← HN.out]; exact HR.out
            · rw [← HN.out]; exact HG.out
          case measure => simp [intOf]; omega
        · obtain rfl : O = P := by omega
          rw [openGap_no hop, List.append_nil] at hoG1
          obtain ⟨N, hN⟩ : ∃ N, G.length = N := ⟨_, rfl⟩
          rw [hN] at hoG1 hGl
          have HltG : Hid _ := hoG1.lt
          have rel : ∀ (vG' : Value) (w3 : World) (W : World), W = w1.alloc (.cells #[.int .u8 0, .string ⟨#[]⟩] 97) → w3.ownsRow w.heap.size 103 2 vG' (N + 1) (gapsCells G ++ [.int .i64 O, .int .i64 ((O : Int) + 1)]) → (W.alloc (.cells #[.int .i64 O, .int .i64 ((O : Int) + 1)] 103)).grownBy w3 (Value.ownBlock u6) → ScanRel2 s w u5 vG' (.int .i64 ((O : Int) + 1)) w3 := by
            intro vG' w3 W hW h1 h2
            subst hW
            refine ⟨O + 1, O, R, G, by omega, by omega, by go_num, by omega, by omega, HGO.out, ?_, ?_, ?_, ?_, ?_⟩
            · exact ownsRow_other ((hoR1.alloc _).alloc _) ((hoG1.alloc _).alloc _) (by decide) h2
            · rw [openGap_yes (by omega), List.length_append, hN, gapsCells_snoc]
              rw [show gapCells (O, O + 1) = [.int .i64 O, .int .i64 ((O : Int) + 1)] by simp [gapCells]]
              exact h1
            · exact ((hb2.alloc hz2 _).alloc (by simp; omega) _).grown h2 (by simp; omega) (fun k hk => (HltG.out k hk).1)
            · rw [← HN.out]; exact HR.out
            · rw [← HN.out]; exact HG.out
          have HRel : Hid _ := rel
          have HNe : Hid (G.length = N) := hN
          obtain ⟨ao, cp, hv, hc1, hc2, HRd⟩ := own_read hoG1
          subst hv
          unfold maxLen at hc2
          have HRd' : Hid _ := HRd
          clear rel hN HRd hoR1
          cases N with
          | zero =>
            go_wp2_with (at_builtin; refine wpList_append_own _ rfl (.tmp 62) (.tmp 67) 53 rfl w.heap.size 103 iG (.agg #[.int .i64 0, .int .i64 0]) 2 16 Tryz.underlying53 hiG hzG0 hzG1 hzG2 rfl (by decide) _ _ _ rfl ((hoG1.alloc _).alloc _) ⟨w1.heap.size + 1, 0, none⟩ 1 1 [.int .i64 O, .int .i64 ((O : Int) + 1)] rfl rfl (news_at _ _ (by simp) _ _ _ rfl) (oneCell_nums _ rfl) (by unfold maxLen; omega) (by omega) (by simp; omega) ?_; intro vG' w3 hoG3 hgG hxx; clear hxx)
            go_roundw
            case rel => exact HRel.out _ _ _ rfl hoG3 hgG
            case measure => simp [intOf]; omega
          | succ m =>
            obtain ⟨g, rfl, hg1, hg2, hg3⟩ := HRd'.out (by omega)
            have hmG : m < G.length := by rw [HNe.out]; omega
            obtain ⟨q0, q1⟩ := gap_get (List.getElem?_eq_getElem hmG)
            have d1 := (hg3 (m * 2 + 1) (by omega)).trans q1
            have hy := HGO.out _ (List.getElem_mem hmG)
            generalize (G[m]'hmG).2 = y at *
            have hyb : ((y : Int) == (O : Int)) = false := by simp; omega
            have hm0 : (0 : Int) < (m : Int) + 1 := by omega
            clear HRd' hg3 q0 q1 hy hmG
            go_wp2_with (at_builtin; refine wpList_append_own _ rfl (.tmp 62) (.tmp 67) 53 rfl w.heap.size 103 iG (.agg #[.int .i64 0, .int .i64 0]) 2 16 Tryz.underlying53 hiG hzG0 hzG1 hzG2 rfl (by decide) _ _ _ rfl ((hoG1.alloc _).alloc _) ⟨w1.heap.size + 1, 0, none⟩ 1 1 [.int .i64 O, .int .i64 ((O : Int) + 1)] rfl rfl (news_at _ _ (by simp) _ _ _ rfl) (oneCell_nums _ rfl) (by unfold maxLen; omega) (by omega) (by simp; omega) ?_; intro vG' w3 hoG3 hgG hxx; clear hxx)
            go_roundw
            case rel => exact HRel.out _ _ _ rfl hoG3 hgG
            case measure => simp [intOf]; omega
    · obtain rfl : P = s.size := by omega
      have hend : recsAt (ls s) s.size = [] := by rw [← ls_length]; exact recsAt_end _
      rw [hend] at HR HG
      have HR2 : Hid (R = recs (ls s)) := by show R = recs (ls s); have := HR.out; simpa using this
      have HG2 : Hid (G ++ openGap O s.size = gaps (ls s)) := HG.out
      clear hend HR HG
      have HoR : Hid _ := hoR
      have HoG : Hid _ := hoG
      clear hoR hoG
      go_wp2
      go_ret3
      refine ⟨_, _, rfl, ?_, ?_, hbel⟩
      · rw [← HR2.out]; exact HoR.out
      · rw [← HG2.out]; exact HoG.out
end Go.Proofs.YtfpodnleimhohabGreatDoor

/-
  WALKS: two lists held against each other.
-/
namespace Go.Proofs.YtfpodnleimhohabGreatDoor
open Go.RowKit
set_option linter.unusedVariables false

end Go.Proofs.YtfpodnleimhohabGreatDoor

/-
  WALKS: a list that is written full with a mark, and made longer by marks: the law of append for it; the number of the next list.
-/
namespace Go.Proofs.YtfpodnleimhohabGreatDoor
open Go.RowKit
set_option linter.unusedVariables false

/-- So many marks, one behind the other. -/
def fills (mk : List Value) : Nat → List Value
  | 0 => []
  | n + 1 => mk ++ fills mk n
theorem fills_length (mk : List Value) (n : Nat) : (fills mk n).length = n * mk.length := by
  induction n with
  | zero => simp [fills]
  | succ n ih => simp [fills, ih, Nat.succ_mul]; omega
theorem fills_add (mk : List Value) (n m : Nat) : fills mk (n + m) = fills mk n ++ fills mk m := by
  induction n with
  | zero => simp [fills]
  | succ n ih => rw [show n + 1 + m = (n + m) + 1 by omega]; simp [fills, ih]
theorem fills_take (mk : List Value) (p q : Nat) (h : p ≤ q) : (fills mk q).take (p * mk.length) = fills mk p := by
  obtain ⟨r, rfl⟩ := Nat.le.dest h
  rw [fills_add, ← fills_length mk p, List.take_left]
theorem fills_one {mk : List Value} (h : ∀ u ∈ mk, u.oneCell' = true) (n : Nat) : ∀ u ∈ fills mk n, u.oneCell' = true := by
  induction n with
  | zero => simp [fills]
  | succ n ih =>
    intro u hu
    rcases List.mem_append.1 hu with hu | hu
    · exact h u hu
    · exact ih u hu
theorem fills_get (mk : List Value) (n k j : Nat) (hk : k < n) (hj : j < mk.length) : (fills mk n)[k * mk.length + j]? = mk[j]? := by
  obtain ⟨r, rfl⟩ := Nat.le.dest hk
  rw [show k.succ + r = k + (1 + r) by omega, fills_add, List.getElem?_append_right (by rw [fills_length]; omega), fills_length, show k * mk.length + j - k * mk.length = j by omega, show 1 + r = r + 1 by omega]
  simp only [fills]
  rw [List.getElem?_append_left hj]

/-- A slice that is full of marks. -/
def Full (w : World) (base e : Nat) (mk : List Value) (v : Value) (p : Nat) : Prop := w.ownsRow base e mk.length v p (fills mk p)
/-- The block of a row is what the row says. -/
theorem own_block {w : World} {base e size g n cap : Nat} {xs : List Value} (h : w.ownsRow base e size (.slice (some ⟨g, 0, none⟩) n cap) n xs) :
    ∃ cur, base ≤ g ∧ w.heap[g]? = some (.cells cur e (0, 0)) ∧ n ≤ cap ∧ cap ≤ maxLen ∧ cur.size = cap * size ∧ cur.toList.take (n * size) = xs := by
  rcases h.2 with ⟨h', _⟩ | ⟨g', cap', cur, h', hb, hg, hnc, hcm, hcs, htake⟩
  · simp at h'
  · simp only [Value.slice.injEq, Option.some.injEq, Addr.mk.injEq, and_true, true_and] at h'
    obtain ⟨rfl, rfl⟩ := h'
    exact ⟨cur, hb, hg, hnc, hcm, hcs, htake⟩

section
variable {P : Program} (w : World)
theorem run_append_mark (base : Nat) (t ty e : TypeId) (i : TypeInfo) (z : Value) (mk : List Value) (bytes : Nat) (ht : P.underlying t = some (.slice e)) (hi : P.info? e = some i) (hz : i.zero = some z)
    (hsize : i.size = mk.length) (hby : i.bytes = bytes) (hzs : z.cells.size = mk.length) (hsz : 0 < mk.length) (hmk : ∀ u ∈ mk, u.oneCell' = true)
    (v : Value) (n : Nat) (hown : Full w base e mk v n)
    (a : Addr) (m c : Nat) (hnews : ∀ j u, (fills mk m)[j]? = some u → w.cell? (a.add j) = some u)
    (h63 : n + m ≤ maxLen) (hbytes : (n + m) * bytes ≤ 140737488355328) (hbase : base ≤ w.heap.size) :
    ∃ v' w', (Builtin.append_ #[t, t] ty #[v, .slice (some a) m c]).run P w = .ok v' w' ∧ Full w' base e mk v' (n + m) ∧ w.grownBy w' v.ownBlock ∧
      (∀ o p, p ≤ n + m → Full w base e mk o p → Full w' base e mk o p) := by
  have e1 : fills mk n ++ fills mk m = fills mk (n + m) := (fills_add mk n m).symm
  have hl : (fills mk m).length = m * mk.length := fills_length mk m
  have still : ∀ w', w.grownBy w' none → ∀ o p, Full w base e mk o p → Full w' base e mk o p := fun w' hg o p h =>
    World.ownsRow.kept h hg (by cases hv : Value.ownBlock o <;> simp)
  rcases hown.2 with ⟨rfl, rfl⟩ | ⟨g, cap, cur, rfl, hb, hh, hnc, hcm, hcs, ht'⟩
  · obtain ⟨v', w', hr, h2, h3, _⟩ := run_append_own (P := P) w base t ty e i z mk.length bytes ht hi hz hsize hby hzs hsz (.slice none 0 0) 0 (fills mk 0) hown a m c (fills mk m) hl hnews (fills_one hmk m) h63 hbytes hbase
    rw [e1] at h2
    exact ⟨v', w', hr, h2, h3, fun o p _ h => still w' h3 o p h⟩
  · by_cases hroom : n + m ≤ cap
    · obtain ⟨w', hr, h2, h3⟩ := run_append_fits (P := P) w base t ty e i mk.length ht hi hsize g n cap (fills mk n) hown a m c (fills mk m) hl hnews (fills_one hmk m) hroom
      rw [e1] at h2
      refine ⟨_, w', hr, h2, h3, fun o p hp ho => ?_⟩
      obtain ⟨cur', _, hh', _, _, hcs', htk⟩ := own_block h2
      refine ⟨ho.1, ?_⟩
      rcases ho.2 with hn | ⟨go, co, cu, rfl, hbo, hho, hpo, hco, hso, hto⟩
      · exact .inl hn
      · by_cases hg : go = g
        · subst hg
          rw [hh] at hho
          simp at hho
          subst hho
          refine .inr ⟨go, co, cur', rfl, hbo, hh', hpo, hco, ?_, ?_⟩
          · rw [hcs', ← hcs, hso]
          · have := fills_take mk p (n + m) hp
            rw [← htk, List.take_take] at this
            rw [← this]
            congr 1
            have : p * mk.length ≤ (n + m) * mk.length := Nat.mul_le_mul_right _ hp
            omega
        · refine .inr ⟨go, co, cu, rfl, hbo, ?_, hpo, hco, hso, hto⟩
          rw [h3.block go (lt_of_block hho) (by simp; exact hg)]
          exact hho
    · obtain ⟨v', w', hr, h2, h3⟩ := run_append_arg_grows (P := P) w t ty e i z mk.length bytes ht hi hz hsize hby hzs hsz ⟨g, 0, none⟩ n cap (fills mk n) (fills_length mk n) (fun j u hj => World.ownsRow.cells hown rfl j u hj) a m c (fills mk m) hl hnews (by omega) h63 hbytes
      rw [e1] at h2
      refine ⟨v', w', hr, ?_, ?_, fun o p _ h => still w' h3 o p h⟩
      · refine ⟨h2.1, ?_⟩
        rcases h2.2 with hn | ⟨g2, c2, u2, e2, hb2, r2⟩
        · exact .inl hn
        · exact .inr ⟨g2, c2, u2, e2, Nat.le_trans hbase hb2, r2⟩
      · exact ⟨h3.os, h3.tape, h3.output, h3.size, fun k hk _ => h3.block k hk (by simp)⟩

theorem wpList_append_mark {ops : Array Oper} {rest : List Oper} {o : Oper} {a : Act} {Q : Exit → Act → World → Prop} (hgd : o.guard = none) (s x : Operand) (t : TypeId)
    (ho : o.op = .call { callee := .builtin .append, args := #[s, x], argTypes := #[t, t] })
    (base : Nat) (e : TypeId) (i : TypeInfo) (z : Value) (mk : List Value) (bytes : Nat) (ht : P.underlying t = some (.slice e)) (hi : P.info? e = some i) (hz : i.zero = some z)
    (hsize : i.size = mk.length) (hby : i.bytes = bytes) (hzs : z.cells.size = mk.length) (hsz : 0 < mk.length) (hmk : ∀ u ∈ mk, u.oneCell' = true)
    (v : Value) (n : Nat) (hs : a.eval s = v) (hown : Full w base e mk v n)
    (ad : Addr) (m c : Nat) (hx : a.eval x = .slice (some ad) m c) (hnews : ∀ j u, (fills mk m)[j]? = some u → w.cell? (ad.add j) = some u)
    (h63 : n + m ≤ maxLen) (hbytes : (n + m) * bytes ≤ 140737488355328) (hbase : base ≤ w.heap.size)
    (h : ∀ v' w', Full w' base e mk v' (n + m) → w.grownBy w' v.ownBlock → (∀ o p, p ≤ n + m → Full w base e mk o p → Full w' base e mk o p) → wpList P ops Q rest (a.put o.dst v') w') : wpList P ops Q (o :: rest) a w :=
  wpList_plain hgd fun _ hK => by
    obtain ⟨v', w', hr, h2, h3, h4⟩ := run_append_mark (P := P) w base t o.type e i z mk bytes ht hi hz hsize hby hzs hsz hmk v n hown ad m c hnews h63 hbytes hbase
    unfold Oper.wp execOp
    simp only [ho, resolve, invoke, builtin, Sem.run_bind, Sem.run_pure, Result.andThen_ok, List.map_toArray, List.map_cons, List.map_nil, hs, hx, hr]
    exact hK _ _ (h v' w' h2 h3 h4)
end

/-- A Book at an address: its four lists. -/
structure BookAt (w : World) (g o : Nat) (nI nW nR nG : Nat) (aI : Option Addr) (cI : Nat) (aW : Option Addr) (cW : Nat) (aR : Option Addr) (cR : Nat) (aG : Option Addr) (cG : Nat) : Prop where
  c0 : w.cell? ⟨g, o, none⟩ = some (.slice aI nI cI)
  c1 : w.cell? ⟨g, o + 1, none⟩ = some (.slice aW nW cW)
  c2 : w.cell? ⟨g, o + 2, none⟩ = some (.slice aR nR cR)
  c3 : w.cell? ⟨g, o + 3, none⟩ = some (.slice aG nG cG)
  f0 : w.frozen? ⟨g, o, none⟩ = false
  f1 : w.frozen? ⟨g, o + 1, none⟩ = false
  f2 : w.frozen? ⟨g, o + 2, none⟩ = false
  f3 : w.frozen? ⟨g, o + 3, none⟩ = false
theorem BookAt.kept {w w' : World} {g o nI nW nR nG : Nat} {aI : Option Addr} {cI : Nat} {aW : Option Addr} {cW : Nat} {aR : Option Addr} {cR : Nat} {aG : Option Addr} {cG : Nat} (h : BookAt w g o nI nW nR nG aI cI aW cW aR cR aG cG)
    (hb : w'.heap[g]? = w.heap[g]?) : BookAt w' g o nI nW nR nG aI cI aW cW aR cR aG cG :=
  ⟨(World.cell?_of_block (w := w) (a := ⟨g, o, none⟩) hb).trans h.c0, (World.cell?_of_block (w := w) (a := ⟨g, o + 1, none⟩) hb).trans h.c1, (World.cell?_of_block (w := w) (a := ⟨g, o + 2, none⟩) hb).trans h.c2, (World.cell?_of_block (w := w) (a := ⟨g, o + 3, none⟩) hb).trans h.c3,
   (World.frozen?_of_block (w := w) (a := ⟨g, o, none⟩) hb).trans h.f0, (World.frozen?_of_block (w := w) (a := ⟨g, o + 1, none⟩) hb).trans h.f1, (World.frozen?_of_block (w := w) (a := ⟨g, o + 2, none⟩) hb).trans h.f2, (World.frozen?_of_block (w := w) (a := ⟨g, o + 3, none⟩) hb).trans h.f3⟩

set_option maxHeartbeats 400000 in
theorem number_any (g o nI nW nR nG : Nat) (aI : Option Addr) (cI : Nat) (aW : Option Addr) (cW : Nat) (aR : Option Addr) (cR : Nat) (aG : Option Addr) (cG : Nat) (w : World) (hB : BookAt w g o nI nW nR nG aI cI aW cW aR cR aG cG)
    (h : nI ≤ 100000000 ∧ nW ≤ 100000000 ∧ nR ≤ 100000000 ∧ nG ≤ 100000000) :
    Calls Tryz.prog 42 #[.pointer (some ⟨g, o, none⟩)] w fun e w' => e = .returned (.int .i64 (-1000 - (nI : Int) - nW - nR - nG)) ∧ ∃ n, w' = w.drewN n := by
  obtain ⟨c0, c1, c2, c3, _, _, _, _⟩ := hB
  obtain ⟨h1, h2, h3, h4⟩ := h
  go_enter Tryz.func42, Tryz.ntmps42
  go_wp2
  go_quiet (fail)
  go_wp2
  go_ret
  exact ⟨rfl, _, rfl⟩
end Go.Proofs.YtfpodnleimhohabGreatDoor

/-
  WALKS: a list is kept.
-/
namespace Go.Proofs.YtfpodnleimhohabGreatDoor
open Go.RowKit
set_option linter.unusedVariables false

/-- On the way: the mark's block, the new entry's block, the list full. -/
structure KSt (w W : World) (base r0 x0 : Nat) (mk : List Value) (e te : Nat) (vL : Value) (n : Nat) (xs : Array Value) : Prop where
  rb : W.heap[r0]? = some (.cells mk.toArray e (0, 0))
  xb : W.heap[x0]? = some (.cells xs te (0, 0))
  full : Full W base e mk vL n
  sp : Spared w W (fun b => some b = vL.ownBlock)
  rw' : w.heap.size ≤ r0
  xw : w.heap.size ≤ x0
  vl : ∀ k, vL.ownBlock = some k → k < r0 ∧ k < x0
theorem KSt.step {w W w2 : World} {base r0 x0 : Nat} {mk : List Value} {e te : Nat} {vL : Value} {n : Nat} {xs : Array Value} {T : Obj} {k : Nat} {v : Value} (s : KSt w W base r0 x0 mk e te vL n xs) (hne : e ≠ te) (i : Nat)
    (hg : (W.alloc T).grownBy w2 vL.ownBlock) (hst : ∀ o p, p ≤ n + k → Full (W.alloc T) base e mk o p → Full w2 base e mk o p) (hv : Full w2 base e mk v (n + k)) :
    KSt w (w2.setCell ⟨x0, i, none⟩ v) base r0 x0 mk e te vL n (xs.setIfInBounds i v) ∧ Full (w2.setCell ⟨x0, i, none⟩ v) base e mk v (n + k) ∧ (∀ o p, p ≤ n + k → Full W base e mk o p → Full (w2.setCell ⟨x0, i, none⟩ v) base e mk o p) := by
  have lx := lt_of_block s.xb
  have lr := lt_of_block s.rb
  have ax : (W.alloc T).heap[x0]? = some (.cells xs te (0, 0)) := (Below.heap_alloc W T x0 lx).trans s.xb
  have ar : (W.alloc T).heap[r0]? = some (.cells mk.toArray e (0, 0)) := (Below.heap_alloc W T r0 lr).trans s.rb
  have x2 : w2.heap[x0]? = some (.cells xs te (0, 0)) := (hg.block x0 (by simp; omega) (fun h => by have := (s.vl x0 h.symm).2; omega)).trans ax
  have r2 : w2.heap[r0]? = some (.cells mk.toArray e (0, 0)) := (hg.block r0 (by simp; omega) (fun h => by have := (s.vl r0 h.symm).1; omega)).trans ar
  have hrx : r0 ≠ x0 := by
    intro h; rw [h, x2] at r2; simp at r2; exact hne r2.2.symm
  have keep : ∀ o p, Full w2 base e mk o p → Full (w2.setCell ⟨x0, i, none⟩ v) base e mk o p := fun o p h =>
    ownsRow_setCell_other h (own_ne h x2 hne) v
  have all : ∀ o p, p ≤ n + k → Full W base e mk o p → Full (w2.setCell ⟨x0, i, none⟩ v) base e mk o p := fun o p hp h => keep o p (hst o p hp (World.ownsRow.alloc h T))
  refine ⟨⟨?_, heap_setCell_same w2 x0 i xs te v x2, all vL n (by omega) s.full, ?_, s.rw', s.xw, s.vl⟩, keep v _ hv, all⟩
  · rw [heap_setCell_other w2 _ r0 v hrx]; exact r2
  · refine ((s.sp.trans (Spared.of_grown (World.grownBy_alloc W T vL.ownBlock)) (fun _ _ h => h)).trans (Spared.of_grown hg) (fun _ _ h => h)).trans (Spared.of_set w2 x0 i v) ?_
    intro j hj h
    have := s.xw
    omega
theorem KSt.after {w W w2 : World} {base r0 x0 : Nat} {mk : List Value} {e te : Nat} {vL : Value} {n : Nat} {xs : Array Value} {T : Obj} (s : KSt w W base r0 x0 mk e te vL n xs) (hg : (W.alloc T).grownBy w2 vL.ownBlock) :
    w2.heap[x0]? = some (.cells xs te (0, 0)) := by
  have lx := lt_of_block s.xb
  exact (hg.block x0 (by simp; omega) (fun h => by have := (s.vl x0 h.symm).2; omega)).trans ((Below.heap_alloc W T x0 lx).trans s.xb)
theorem KSt.rc {w W : World} {base r0 x0 : Nat} {mk : List Value} {e te : Nat} {vL : Value} {n : Nat} {xs : Array Value} (s : KSt w W base r0 x0 mk e te vL n xs) (j : Nat) : W.cell? ⟨r0, j, none⟩ = mk[j]? := by
  simp [World.cell?, s.rb]
theorem KSt.xc {w W : World} {base r0 x0 : Nat} {mk : List Value} {e te : Nat} {vL : Value} {n : Nat} {xs : Array Value} (s : KSt w W base r0 x0 mk e te vL n xs) (j : Nat) : W.cell? ⟨x0, j, none⟩ = xs[j]? ∧ W.frozen? ⟨x0, j, none⟩ = false := by
  constructor
  · simp [World.cell?, s.xb]
  · simp [World.frozen?, s.xb]

/-- A full slice behind an append to a row of another type and a store below the base. -/
theorem full_end {wc w3 : World} {base e te size n : Nat} {mk : List Value} {v row u : Value} {p : Nat} {rc : List Value} {T : Obj} {g j : Nat} (h : Full wc base e mk v p) (hr : wc.ownsRow base te size row n rc) (hne : e ≠ te)
    (hg : (wc.alloc T).drew.grownBy w3 row.ownBlock) (hgb : g < base) : Full (w3.setCell ⟨g, j, none⟩ u) base e mk v p := by
  refine ownsRow_setCell_below ?_ hgb u
  refine World.ownsRow.kept (World.ownsRow.drew (World.ownsRow.alloc h T)) hg ?_
  cases hv : v.ownBlock with
  | none => exact .inl rfl
  | some b =>
    right
    intro hb
    obtain ⟨cs, hh⟩ := own_tag hr hb.symm
    exact own_ne h hh hne hv
/-- What was spared, to the end of it. -/
theorem spared_end {w w1 wc w3 : World} {vL row u : Value} {T : Obj} {g j : Nat} (hb : Below w.heap.size w w1) (hs : w1.heap.size = w.heap.size) (h : Spared w1 wc (fun b => some b = vL.ownBlock)) (hg : (wc.alloc T).drew.grownBy w3 row.ownBlock) :
    Spared w (w3.setCell ⟨g, j, none⟩ u) (fun k => k = g ∨ some k = vL.ownBlock ∨ some k = row.ownBlock) := by
  have a : Spared w wc (fun k => k = g ∨ some k = vL.ownBlock ∨ some k = row.ownBlock) :=
    (Spared.of_below hb _).trans h (fun i _ hi => .inr (.inl hi))
  have b : Spared wc (wc.alloc T).drew (fun _ => False) := Spared.of_below (((Below.refl _ _).alloc (Nat.le_refl _) T).drew) _
  exact ((a.trans b (fun _ _ hi => hi.elim)).trans (Spared.of_grown hg) (fun i _ hi => .inr (.inr hi))).trans (Spared.of_set w3 g j u) (fun i _ hi => .inl hi)

/-- One more mark is written into the list. -/
theorem fill_set4 (a b c d : Value) (k : Nat) (xs : List Value) (h : k * 4 + 4 ≤ xs.length) :
    ((((fills [a, b, c, d] k ++ xs.drop (k * 4)).set (k * 4) a).set (k * 4 + 1) b).set (k * 4 + 2) c).set (k * 4 + 3) d = fills [a, b, c, d] (k + 1) ++ xs.drop ((k + 1) * 4) := by
  have hl : (fills [a, b, c, d] k).length = k * 4 := by rw [fills_length]; rfl
  obtain ⟨y0, y1, y2, y3, ys, hy⟩ : ∃ y0 y1 y2 y3 ys, xs.drop (k * 4) = y0 :: y1 :: y2 :: y3 :: ys := by
    have hd : 4 ≤ (xs.drop (k * 4)).length := by rw [List.length_drop]; omega
    match hq : xs.drop (k * 4), hd with
    | y0 :: y1 :: y2 :: y3 :: ys, _ => exact ⟨y0, y1, y2, y3, ys, rfl⟩
  have hy2 : xs.drop ((k + 1) * 4) = ys := by
    rw [show (k + 1) * 4 = k * 4 + 4 by omega, ← List.drop_drop, hy]; rfl
  rw [hy2, fills_add, hy, ← hl]
  simp [List.set_append_right, fills]
theorem fill_set2 (a b : Value) (k : Nat) (xs : List Value) (h : k * 2 + 2 ≤ xs.length) :
    ((fills [a, b] k ++ xs.drop (k * 2)).set (k * 2) a).set (k * 2 + 1) b = fills [a, b] (k + 1) ++ xs.drop ((k + 1) * 2) := by
  have hl : (fills [a, b] k).length = k * 2 := by rw [fills_length]; rfl
  obtain ⟨y0, y1, ys, hy⟩ : ∃ y0 y1 ys, xs.drop (k * 2) = y0 :: y1 :: ys := by
    have hd : 2 ≤ (xs.drop (k * 2)).length := by rw [List.length_drop]; omega
    match hq : xs.drop (k * 2), hd with
    | y0 :: y1 :: ys, _ => exact ⟨y0, y1, ys, rfl⟩
  have hy2 : xs.drop ((k + 1) * 2) = ys := by
    rw [show (k + 1) * 2 = k * 2 + 2 by omega, ← List.drop_drop, hy]; rfl
  rw [hy2, fills_add, hy, ← hl]
  simp [List.set_append_right, fills]
end Go.Proofs.YtfpodnleimhohabGreatDoor

/-
  WALKS: keepRecords, keepGaps.
-/
namespace Go.Proofs.YtfpodnleimhohabGreatDoor
open Go.RowKit
set_option linter.unusedVariables false

def mkR (m : Int) : List Value := [.int .i64 m, .int .i64 m, .int .u8 0, .string ⟨#[]⟩]
theorem info_recs : (Tryz.prog.info? 90).map (fun i => (i.zero, i.size, i.bytes)) = some (some (.agg #[.slice none 0 0, .slice none 0 0, .slice none 0 0, .slice none 0 0, .int .i64 0]), 5, 104) := by kernel_rfl
theorem below_of_drewN {w w1 : World} (h : ∃ n, w1 = w.drewN n) : Below w.heap.size w w1 ∧ w1.heap.size = w.heap.size := by
  obtain ⟨n, rfl⟩ := h
  exact ⟨below_drewN (Below.refl _ _) n, rfl⟩
theorem BookAt.below {w w' : World} {g o nI nW nR nG : Nat} {aI : Option Addr} {cI : Nat} {aW : Option Addr} {cW : Nat} {aR : Option Addr} {cR : Nat} {aG : Option Addr} {cG : Nat} (h : BookAt w g o nI nW nR nG aI cI aW cW aR cR aG cG) {B : Nat}
    (hb : Below B w w') (hg : g < B) : BookAt w' g o nI nW nR nG aI cI aW cW aR cR aG cG := h.kept (hb.block g hg)

theorem block_at {W w2 : World} {row : Option Nat} (hg : W.grownBy w2 row) (b : Nat) (hlt : b < W.heap.size) (hne : some b ≠ row) : (∀ {j}, w2.cell? ⟨b, j, none⟩ = W.cell? ⟨b, j, none⟩) ∧ (∀ {j}, w2.frozen? ⟨b, j, none⟩ = W.frozen? ⟨b, j, none⟩) :=
  ⟨fun {j} => World.cell?_of_block (w := W) (a := ⟨b, j, none⟩) (hg.block b hlt hne), fun {j} => World.frozen?_of_block (w := W) (a := ⟨b, j, none⟩) (hg.block b hlt hne)⟩

def mkG (m : Int) : List Value := [.int .i64 m, .int .i64 m]
theorem info_gapE : (Tryz.prog.info? 93).map (fun i => (i.zero, i.size, i.bytes)) = some (some (.agg #[.slice none 0 0, .slice none 0 0, .slice none 0 0, .slice none 0 0, .int .i64 0]), 5, 104) := by kernel_rfl

end Go.Proofs.YtfpodnleimhohabGreatDoor

/-
  WALKS: what was kept is looked at.
-/
namespace Go.Proofs.YtfpodnleimhohabGreatDoor
open Go.RowKit
set_option linter.unusedVariables false

set_option maxRecDepth 4000 in
set_option maxHeartbeats 1000000 in
theorem fullRecords_any (base p : Nat) (v : Value) (m : Int) (w : World) (h : Full w base 99 (mkR m) v p) (hp : p ≤ 10000) :
    Calls Tryz.prog 27 #[v, .int .i64 m] w fun e w' => e = .returned (.bool true) ∧ w' = w := by
  obtain ⟨a, c, rfl, h1, h2, HRd⟩ := own_read h
  unfold maxLen at h2
  have HR : Hid _ := HRd
  clear HRd h
  go_enter Tryz.func27, Tryz.ntmps27
  go_wp2
  go_loop [5] (fun i => ∃ k : Nat, k ≤ p ∧ i = .int .i64 k) (fun i => p - (intOf i).toNat)
  case atStart => exact ⟨0, by omega, rfl⟩
  case round =>
    obtain ⟨k, hk, rfl⟩ := hrel
    by_cases hlt : k < p
    · obtain ⟨g, rfl, _, _, hg⟩ := HR.out (by omega)
      have q : ∀ j, j < 4 → w.cell? ⟨g, k * 4 + j, none⟩ = (mkR m)[j]? := fun j hj => (hg (k * 4 + j) (by show k * 4 + j < p * 4; omega)).trans (fills_get (mkR m) p k j hlt hj)
      have q0 := q 0 (by omega)
      have q1 := q 1 (by omega)
      have q2 := q 2 (by omega)
      have q3 := q 3 (by omega)
      simp only [mkR, List.getElem?_cons_zero, List.getElem?_cons_succ, Nat.add_zero] at q0 q1 q2 q3
      clear q hg
      go_wp2
      go_round
      case rel => exact ⟨k + 1, by omega, by go_num⟩
      case measure => simp [intOf]; omega
    · go_wp2
      go_ret
      exact ⟨rfl, rfl⟩

set_option maxRecDepth 4000 in
set_option maxHeartbeats 1000000 in
theorem fullGaps_any (base p : Nat) (v : Value) (m : Int) (w : World) (h : Full w base 103 (mkG m) v p) (hp : p ≤ 10000) :
    Calls Tryz.prog 28 #[v, .int .i64 m] w fun e w' => e = .returned (.bool true) ∧ w' = w := by
  obtain ⟨a, c, rfl, h1, h2, HRd⟩ := own_read h
  unfold maxLen at h2
  have HR : Hid _ := HRd
  clear HRd h
  go_enter Tryz.func28, Tryz.ntmps28
  go_wp2
  go_loop [5] (fun i => ∃ k : Nat, k ≤ p ∧ i = .int .i64 k) (fun i => p - (intOf i).toNat)
  case atStart => exact ⟨0, by omega, rfl⟩
  case round =>
    obtain ⟨k, hk, rfl⟩ := hrel
    by_cases hlt : k < p
    · obtain ⟨g, rfl, _, _, hg⟩ := HR.out (by omega)
      have q : ∀ j, j < 2 → w.cell? ⟨g, k * 2 + j, none⟩ = (mkG m)[j]? := fun j hj => (hg (k * 2 + j) (by show k * 2 + j < p * 2; omega)).trans (fills_get (mkG m) p k j hlt hj)
      have q0 := q 0 (by omega)
      have q1 := q 1 (by omega)
      simp only [mkG, List.getElem?_cons_zero, List.getElem?_cons_succ, Nat.add_zero] at q0 q1
      clear q hg
      go_wp2
      go_round
      case rel => exact ⟨k + 1, by omega, by go_num⟩
      case measure => simp [intOf]; omega
    · go_wp2
      go_ret
      exact ⟨rfl, rfl⟩

/-- A list that was kept: itself, the three that are longer, its mark, its length. -/
structure Ent where
  l : Value
  a : Value
  b : Value
  c : Value
  m : Int
  n : Nat
def entCells (x : Ent) : List Value := [x.l, x.a, x.b, x.c, .int .i64 x.m]
def entsCells (l : List Ent) : List Value := l.flatMap entCells
theorem entsCells_snoc (l : List Ent) (x : Ent) : entsCells (l ++ [x]) = entsCells l ++ entCells x := by simp [entsCells]
theorem ent_get {l : List Ent} {k : Nat} {x : Ent} (h : l[k]? = some x) : (entsCells l)[k * 5]? = some x.l ∧ (entsCells l)[k * 5 + 1]? = some x.a ∧ (entsCells l)[k * 5 + 2]? = some x.b ∧ (entsCells l)[k * 5 + 3]? = some x.c ∧ (entsCells l)[k * 5 + 4]? = some (.int .i64 x.m) := by
  have f := flat_get entCells 5 (fun _ => rfl) l k x h
  exact ⟨f 0 (by omega), f 1 (by omega), f 2 (by omega), f 3 (by omega), f 4 (by omega)⟩
/-- It reads as its owner wrote it. -/
structure EntIs (w : World) (base e : Nat) (mk : Int → List Value) (x : Ent) : Prop where
  l : Full w base e (mk x.m) x.l x.n
  a : Full w base e (mk x.m) x.a (x.n + 1)
  b : Full w base e (mk x.m) x.b (x.n + 2)
  c : Full w base e (mk x.m) x.c (x.n + 3)
  n : x.n ≤ 1000
theorem EntIs.later {w w' : World} {base e : Nat} {mk : Int → List Value} {x : Ent} (h : EntIs w base e mk x) (hb : Below w.heap.size w w') : EntIs w' base e mk x :=
  ⟨ownsRow_below h.l hb, ownsRow_below h.a hb, ownsRow_below h.b hb, ownsRow_below h.c hb, h.n⟩

set_option maxRecDepth 100000 in
set_option maxHeartbeats 4000000 in
theorem looks_any (g o : Nat) (aI : Option Addr) (cI : Nat) (aW : Option Addr) (cW : Nat) (aR : Option Addr) (cR : Nat) (aG : Option Addr) (cG : Nat) (base : Nat) (ER EG : List Ent) (w : World)
    (hB : BookAt w g o 0 0 ER.length EG.length aI cI aW cW aR cR aG cG) (hR : w.ownsRow base 90 5 (.slice aR ER.length cR) ER.length (entsCells ER)) (hG : w.ownsRow base 93 5 (.slice aG EG.length cG) EG.length (entsCells EG))
    (hER : ∀ x ∈ ER, EntIs w base 99 mkR x) (hEG : ∀ x ∈ EG, EntIs w base 103 mkG x) (hg : g < w.heap.size) (h1 : ER.length ≤ 100000000) (h2 : EG.length ≤ 100000000) :
    Calls Tryz.prog 10 #[.pointer (some ⟨g, o, none⟩)] w fun e w' => e = .returned (.bool true) ∧ Below w.heap.size w w' := by
  have HB : Hid _ := hB
  have HER : Hid _ := hER
  have HEG : Hid _ := hEG
  obtain ⟨_, _, hv1, hR1, hR2, HRr⟩ := own_read hR
  simp at hv1
  obtain ⟨rfl, rfl⟩ := hv1
  obtain ⟨_, _, hv2, hG1, hG2, HGg⟩ := own_read hG
  simp at hv2
  obtain ⟨rfl, rfl⟩ := hv2
  have HR : Hid _ := HRr
  have HG : Hid _ := HGg
  unfold maxLen at hR2 hG2
  have c0 := hB.c0
  have c1 := hB.c1
  clear hER hEG HRr HGg hR hG hB
  go_enter Tryz.func10, Tryz.ntmps10
  go_wp2
  refine wp_loop_rounds 1 ?_
  rw [rounds_succ]
  go_wp2
  refine wp_loop_rounds 1 ?_
  rw [rounds_succ]
  go_wp2
  go_loopw [7] (fun i wr => ∃ k : Nat, k ≤ ER.length ∧ i = .int .i64 k ∧ Below w.heap.size w wr) (fun i _ => ER.length - (intOf i).toNat)
  case atStart => exact ⟨0, by omega, rfl, Below.refl _ _⟩
  case round =>
    obtain ⟨k, hk, rfl, hbr⟩ := hrel
    have d2 := (hbr.cell (p := ⟨g, o + 2, none⟩) hg).trans HB.out.c2
    have d3 := (hbr.cell (p := ⟨g, o + 3, none⟩) hg).trans HB.out.c3
    by_cases hlt : k < ER.length
    · obtain ⟨gr, rfl, _, hgl, hgc⟩ := HR.out (by omega)
      obtain ⟨q0, q1, q2, q3, q4⟩ := ent_get (List.getElem?_eq_getElem hlt)
      have hE := HER.out _ (List.getElem_mem hlt)
      have e0 := ((hbr.cell (p := ⟨gr, k * 5, none⟩) hgl).trans (hgc _ (by omega))).trans q0
      have e1 := ((hbr.cell (p := ⟨gr, k * 5 + 1, none⟩) hgl).trans (hgc _ (by omega))).trans q1
      have e2 := ((hbr.cell (p := ⟨gr, k * 5 + 2, none⟩) hgl).trans (hgc _ (by omega))).trans q2
      have e3 := ((hbr.cell (p := ⟨gr, k * 5 + 3, none⟩) hgl).trans (hgc _ (by omega))).trans q3
      have e4 := ((hbr.cell (p := ⟨gr, k * 5 + 4, none⟩) hgl).trans (hgc _ (by omega))).trans q4
      clear q0 q1 q2 q3 q4 hgc
      generalize (ER[k]'hlt) = x at *
      have HE2 : Hid (EntIs wr base 99 mkR x) := EntIs.later hE hbr
      obtain ⟨l, a, b, c, m, n⟩ := x
      obtain ⟨al, cl, hl, _, _, _⟩ := own_read hE.l
      obtain ⟨aa, ca, ha, _, _, _⟩ := own_read hE.a
      obtain ⟨ab, cb, hb, _, _, _⟩ := own_read hE.b
      obtain ⟨ac, cc, hc, _, _, _⟩ := own_read hE.c
      simp only at hl ha hb hc e0 e1 e2 e3 e4
      subst hl ha hb hc
      have hnb : n ≤ 1000 := hE.n
      clear hE
      have hki : (k : Int) < (ER.length : Int) := by omega
      go_wp2_with fail
      refine (fullRecords_any base n _ m _ (World.ownsRow.alloc HE2.out.l _) (by omega)).mono ?_
      rintro e w' ⟨rfl, hw⟩
      subst hw
      go_wp2_with fail
      refine (fullRecords_any base (n + 1) _ m _ (World.ownsRow.alloc HE2.out.a _) (by omega)).mono ?_
      rintro e w' ⟨rfl, hw⟩
      subst hw
      go_wp2_with fail
      refine (fullRecords_any base (n + 2) _ m _ (World.ownsRow.alloc HE2.out.b _) (by omega)).mono ?_
      rintro e w' ⟨rfl, hw⟩
      subst hw
      go_wp2_with fail
      refine (fullRecords_any base (n + 3) _ m _ (World.ownsRow.alloc HE2.out.c _) (by omega)).mono ?_
      rintro e w' ⟨rfl, hw⟩
      subst hw
      go_wp2
      go_roundw
      case rel => exact ⟨k + 1, by omega, by go_num, hbr.alloc hbr.size _⟩
      case measure => simp [intOf]; omega
    · go_wp2
      go_loopw [9] (fun i wr => ∃ k : Nat, k ≤ EG.length ∧ i = .int .i64 k ∧ Below w.heap.size w wr) (fun i _ => EG.length - (intOf i).toNat)
      case atStart => exact ⟨0, by omega, rfl, hbr⟩
      case round =>
        obtain ⟨k, hk, rfl, hbr⟩ := hrel
        have d2 := (hbr.cell (p := ⟨g, o + 2, none⟩) hg).trans HB.out.c2
        have d3 := (hbr.cell (p := ⟨g, o + 3, none⟩) hg).trans HB.out.c3
        by_cases hlt : k < EG.length
        · obtain ⟨gr, rfl, _, hgl, hgc⟩ := HG.out (by omega)
          obtain ⟨q0, q1, q2, q3, q4⟩ := ent_get (List.getElem?_eq_getElem hlt)
          have hE := HEG.out _ (List.getElem_mem hlt)
          have e0 := ((hbr.cell (p := ⟨gr, k * 5, none⟩) hgl).trans (hgc _ (by omega))).trans q0
          have e1 := ((hbr.cell (p := ⟨gr, k * 5 + 1, none⟩) hgl).trans (hgc _ (by omega))).trans q1
          have e2 := ((hbr.cell (p := ⟨gr, k * 5 + 2, none⟩) hgl).trans (hgc _ (by omega))).trans q2
          have e3 := ((hbr.cell (p := ⟨gr, k * 5 + 3, none⟩) hgl).trans (hgc _ (by omega))).trans q3
          have e4 := ((hbr.cell (p := ⟨gr, k * 5 + 4, none⟩) hgl).trans (hgc _ (by omega))).trans q4
          clear q0 q1 q2 q3 q4 hgc
          generalize (EG[k]'hlt) = x at *
          have HE2 : Hid (EntIs wr base 103 mkG x) := EntIs.later hE hbr
          obtain ⟨l, a, b, c, m, n⟩ := x
          obtain ⟨al, cl, hl, _, _, _⟩ := own_read hE.l
          obtain ⟨aa, ca, ha, _, _, _⟩ := own_read hE.a
          obtain ⟨ab, cb, hb, _, _, _⟩ := own_read hE.b
          obtain ⟨ac, cc, hc, _, _, _⟩ := own_read hE.c
          simp only at hl ha hb hc e0 e1 e2 e3 e4
          subst hl ha hb hc
          have hnb : n ≤ 1000 := hE.n
          clear hE
          have hki : (k : Int) < (EG.length : Int) := by omega
          go_wp2_with fail
          refine (fullGaps_any base n _ m _ (World.ownsRow.alloc HE2.out.l _) (by omega)).mono ?_
          rintro e w' ⟨rfl, hw⟩
          subst hw
          go_wp2_with fail
          refine (fullGaps_any base (n + 1) _ m _ (World.ownsRow.alloc HE2.out.a _) (by omega)).mono ?_
          rintro e w' ⟨rfl, hw⟩
          subst hw
          go_wp2_with fail
          refine (fullGaps_any base (n + 2) _ m _ (World.ownsRow.alloc HE2.out.b _) (by omega)).mono ?_
          rintro e w' ⟨rfl, hw⟩
          subst hw
          go_wp2_with fail
          refine (fullGaps_any base (n + 3) _ m _ (World.ownsRow.alloc HE2.out.c _) (by omega)).mono ?_
          rintro e w' ⟨rfl, hw⟩
          subst hw
          go_wp2
          go_roundw
          case rel => exact ⟨k + 1, by omega, by go_num, hbr.alloc hbr.size _⟩
          case measure => simp [intOf]; omega
        · go_wp2
          go_ret
          exact ⟨rfl, hbr⟩

end Go.Proofs.YtfpodnleimhohabGreatDoor

/-
  WALKS: a list of numbers is kept.
-/
namespace Go.Proofs.YtfpodnleimhohabGreatDoor
open Go.RowKit
set_option linter.unusedVariables false

/-- On the way: the new entry's block, the list full. -/
structure KS (w W : World) (base x0 : Nat) (mk : List Value) (e te : Nat) (vL : Value) (n : Nat) (xs : Array Value) : Prop where
  xb : W.heap[x0]? = some (.cells xs te (0, 0))
  full : Full W base e mk vL n
  sp : Spared w W (fun b => some b = vL.ownBlock)
  xw : w.heap.size ≤ x0
  vl : ∀ k, vL.ownBlock = some k → k < x0
theorem KS.step {w W w2 : World} {base x0 : Nat} {mk : List Value} {e te : Nat} {vL : Value} {n : Nat} {xs : Array Value} {T : Obj} {k : Nat} {v : Value} (s : KS w W base x0 mk e te vL n xs) (hne : e ≠ te) (i : Nat)
    (hg : (W.alloc T).grownBy w2 vL.ownBlock) (hst : ∀ o p, p ≤ n + k → Full (W.alloc T) base e mk o p → Full w2 base e mk o p) (hv : Full w2 base e mk v (n + k)) :
    KS w (w2.setCell ⟨x0, i, none⟩ v) base x0 mk e te vL n (xs.setIfInBounds i v) ∧ Full (w2.setCell ⟨x0, i, none⟩ v) base e mk v (n + k) ∧ (∀ o p, p ≤ n + k → Full W base e mk o p → Full (w2.setCell ⟨x0, i, none⟩ v) base e mk o p) := by
  have lx := lt_of_block s.xb
  have ax : (W.alloc T).heap[x0]? = some (.cells xs te (0, 0)) := (Below.heap_alloc W T x0 lx).trans s.xb
  have x2 : w2.heap[x0]? = some (.cells xs te (0, 0)) := (hg.block x0 (by simp; omega) (fun h => by have := s.vl x0 h.symm; omega)).trans ax
  have keep : ∀ o p, Full w2 base e mk o p → Full (w2.setCell ⟨x0, i, none⟩ v) base e mk o p := fun o p h =>
    ownsRow_setCell_other h (own_ne h x2 hne) v
  have all : ∀ o p, p ≤ n + k → Full W base e mk o p → Full (w2.setCell ⟨x0, i, none⟩ v) base e mk o p := fun o p hp h => keep o p (hst o p hp (World.ownsRow.alloc h T))
  refine ⟨⟨heap_setCell_same w2 x0 i xs te v x2, all vL n (by omega) s.full, ?_, s.xw, s.vl⟩, keep v _ hv, all⟩
  refine ((s.sp.trans (Spared.of_grown (World.grownBy_alloc W T vL.ownBlock)) (fun _ _ h => h)).trans (Spared.of_grown hg) (fun _ _ h => h)).trans (Spared.of_set w2 x0 i v) ?_
  intro j hj h
  have := s.xw
  omega
theorem KS.after {w W w2 : World} {base x0 : Nat} {mk : List Value} {e te : Nat} {vL : Value} {n : Nat} {xs : Array Value} {T : Obj} (s : KS w W base x0 mk e te vL n xs) (hg : (W.alloc T).grownBy w2 vL.ownBlock) :
    w2.heap[x0]? = some (.cells xs te (0, 0)) := by
  have lx := lt_of_block s.xb
  exact (hg.block x0 (by simp; omega) (fun h => by have := s.vl x0 h.symm; omega)).trans ((Below.heap_alloc W T x0 lx).trans s.xb)
theorem KS.xc {w W : World} {base x0 : Nat} {mk : List Value} {e te : Nat} {vL : Value} {n : Nat} {xs : Array Value} (s : KS w W base x0 mk e te vL n xs) (j : Nat) : W.cell? ⟨x0, j, none⟩ = xs[j]? ∧ W.frozen? ⟨x0, j, none⟩ = false := by
  constructor
  · simp [World.cell?, s.xb]
  · simp [World.frozen?, s.xb]
theorem fill_set1 (a : Value) (k : Nat) (xs : List Value) (h : k + 1 ≤ xs.length) : (fills [a] k ++ xs.drop k).set k a = fills [a] (k + 1) ++ xs.drop (k + 1) := by
  have hl : (fills [a] k).length = k := by rw [fills_length]; simp
  rw [List.set_append_right _ _ (by omega), hl, Nat.sub_self, fills_add, List.append_assoc, List.drop_eq_getElem_cons (show k < xs.length by omega)]
  rfl

def mkI (m : Int) : List Value := [.int .i64 m]
theorem info_intJ : (Tryz.prog.info? 3).map (fun i => (i.zero, i.size, i.bytes)) = some (some (.int .i64 0), 1, 8) := by kernel_rfl
theorem info_intE : (Tryz.prog.info? 83).map (fun i => (i.zero, i.size, i.bytes)) = some (some (.agg #[.slice none 0 0, .slice none 0 0, .slice none 0 0, .slice none 0 0, .int .i64 0]), 5, 104) := by kernel_rfl

set_option maxRecDepth 100000 in
set_option maxHeartbeats 2000000 in
theorem keepInts_any (g o nI nW nR nG : Nat) (aI : Option Addr) (cI : Nat) (aW : Option Addr) (cW : Nat) (aR : Option Addr) (cR : Nat) (aG : Option Addr) (cG : Nat) (base n : Nat) (vL : Value) (xs rc : List Value) (w : World)
    (hB : BookAt w g o nI nW nR nG aI cI aW cW aR cR aG cG) (hnum : nI ≤ 100000000 ∧ nW ≤ 100000000 ∧ nR ≤ 100000000 ∧ nG ≤ 100000000) (hgb : g < base) (hbw : base ≤ w.heap.size)
    (hL : w.ownsRow base 3 1 vL n xs) (hn : n ≤ 1000) (hRc : w.ownsRow base 83 5 (.slice aI nI cI) nI rc) :
    Calls Tryz.prog 21 #[.pointer (some ⟨g, o, none⟩), vL] w fun e w' => e = .returned (.tuple #[]) ∧ ∃ aI' cI' va vb vc, BookAt w' g o (nI + 1) nW nR nG aI' cI' aW cW aR cR aG cG ∧
      w'.ownsRow base 83 5 (.slice aI' (nI + 1) cI') (nI + 1) (rc ++ [vL, va, vb, vc, .int .i64 (-1000 - (nI : Int) - nW - nR - nG)]) ∧
      Full w' base 3 (mkI (-1000 - (nI : Int) - nW - nR - nG)) vL n ∧ Full w' base 3 (mkI (-1000 - (nI : Int) - nW - nR - nG)) va (n + 1) ∧ Full w' base 3 (mkI (-1000 - (nI : Int) - nW - nR - nG)) vb (n + 2) ∧ Full w' base 3 (mkI (-1000 - (nI : Int) - nW - nR - nG)) vc (n + 3) ∧
      Spared w w' (fun k => k = g ∨ some k = vL.ownBlock ∨ some k = Value.ownBlock (.slice aI nI cI)) ∧ (∃ (wz : World) (u : Value), w' = wz.setCell ⟨g, o, none⟩ u ∧ wz.heap[g]? = w.heap[g]?) := by
  obtain ⟨iR, hiR, hzR0, hzR1, hzR2⟩ := info_parts info_intJ
  obtain ⟨iE, hiE, hzE0, hzE1, hzE2⟩ := info_parts info_intE
  have HB : Hid _ := hB
  have HL : Hid _ := hL
  have HRc : Hid _ := hRc
  obtain ⟨aL, cL, rfl, hL1, hL2, _⟩ := own_read hL
  unfold maxLen at hL2
  clear hB hL hRc
  go_enter Tryz.func21, Tryz.ntmps21
  go_wp2_with fail
  refine (number_any g o nI nW nR nG aI cI aW cW aR cR aG cG _ HB.out hnum).mono ?_
  rintro e w1 ⟨rfl, hw⟩
  obtain ⟨hb1, hs1⟩ := below_of_drewN hw
  clear hw
  have HL1 : Hid (w1.ownsRow base 3 1 (.slice aL n cL) n xs) := ownsRow_below HL.out hb1
  have HB1 : Hid (BookAt w1 g o nI nW nR nG aI cI aW cW aR cR aG cG) := BookAt.below HB.out hb1 (by omega)
  have HRc1 : Hid (w1.ownsRow base 83 5 (.slice aI nI cI) nI rc) := ownsRow_below HRc.out hb1
  have Hsp1 : Hid (Below w.heap.size w w1 ∧ w1.heap.size = w.heap.size) := ⟨hb1, hs1⟩
  clear HL HB HRc hb1 hs1
  generalize hm0 : (-1000 - (nI : Int) - nW - nR - nG) = m
  have HM : Hid (-1000 - (nI : Int) - nW - nR - nG = m) := hm0
  clear hm0
  have hbw1 : base ≤ w1.heap.size := by have := Hsp1.out.2; omega
  clear hbw
  go_wp2
  go_loopw [5] (fun i wr => ∃ k : Nat, k ≤ n ∧ i = .int .i64 k ∧ Hid (wr.ownsRow base 3 1 (.slice aL n cL) n (fills (mkI m) k ++ xs.drop k) ∧ Spared w1 wr (fun b => some b = Value.ownBlock (.slice aL n cL)))) (fun i _ => n - (intOf i).toNat)
  case atStart => exact ⟨0, by omega, rfl, by simpa [fills] using HL1.out, Spared.refl _ _⟩
  case round =>
    obtain ⟨k, hk, rfl, HS⟩ := hrel
    by_cases hlt : k < n
    · obtain ⟨ho, hsp⟩ := HS.out
      obtain ⟨a', c', he, _, _, HRd⟩ := own_read ho
      simp at he
      obtain ⟨rfl, rfl⟩ := he
      obtain ⟨gL, rfl, hg1, hg2, hg3⟩ := HRd (by omega)
      have hxl := HL1.out.1
      have hll := ho.1
      have hgw : gL < w1.heap.size := (HL1.out.lt gL rfl).2
      obtain ⟨u0, d0⟩ : ∃ u, wr.cell? ⟨gL, k, none⟩ = some u := by
        rw [hg3 k (by omega)]
        exact ⟨_, List.getElem?_eq_getElem (by omega)⟩
      have f0 := ho.frozenAt k
      clear HRd hg3 ho hsp
      go_wp2
      go_roundw
      case rel =>
        obtain ⟨ho, hsp⟩ := HS.out
        have s0 := World.ownsRow.stored ho k (.int .i64 m)
        refine ⟨k + 1, by omega, by go_num, ?_, ?_⟩
        · have := fill_set1 (.int .i64 m) k xs (by omega)
          have h3 := s0.1
          rw [show fills (mkI m) k = fills [.int .i64 m] k from rfl, this] at h3
          exact h3
        · have q : ∀ W j u, Spared w1 W (fun b => some b = Value.ownBlock (.slice (some ⟨gL, 0, none⟩) n cL)) → Spared w1 (W.setCell ⟨gL, j, none⟩ u) (fun b => some b = Value.ownBlock (.slice (some ⟨gL, 0, none⟩) n cL)) := fun W j u h =>
            h.trans (Spared.of_set W gL j u) (fun i _ hi => by rw [hi]; rfl)
          exact q _ _ _ hsp
      case measure => simp [intOf]; omega
    · obtain rfl : k = n := by omega
      have HF : Hid (Full wr base 3 (mkI m) (.slice aL k cL) k) := by
        have := HS.out.1
        rw [List.drop_eq_nil_of_le (by rw [HL1.out.1]; omega), List.append_nil] at this
        exact this
      have hzr : w1.heap.size ≤ wr.heap.size := HS.out.2.size
      have K0 : KS w1 (wr.alloc (.cells #[.slice aL k cL, .slice none 0 0, .slice none 0 0, .slice none 0 0, .int .i64 m] 83)) base wr.heap.size (mkI m) 3 83 (.slice aL k cL) k #[.slice aL k cL, .slice none 0 0, .slice none 0 0, .slice none 0 0, .int .i64 m] :=
        ⟨heap_alloc_new wr _, World.ownsRow.alloc HF.out _, HS.out.2.trans (Spared.of_below ((Below.refl _ _).alloc (Nat.le_refl _) _) (fun _ => False)) (fun _ _ h => h.elim), hzr, fun j hj => Nat.lt_of_lt_of_le (HL1.out.lt j hj).2 hzr⟩
      have HK0 : Hid _ := K0
      clear K0 HS HF
      go_upto_region 6 with fail
      generalize hx0 : wr.heap.size = x0 at *
      have HX0 : Hid (wr.heap.size = x0) := hx0
      clear hx0
      go_cut [] (fun wc => ∃ va, Hid (KS w1 wc base x0 (mkI m) 3 83 (.slice aL k cL) k #[.slice aL k cL, va, .slice none 0 0, .slice none 0 0, .int .i64 m] ∧ Full wc base 3 (mkI m) va (k + 1)))
      case first =>
        have hz0 := HX0.out
        go_wp2_with (at_builtin; refine wpList_append_mark _ rfl (.tmp 22) (.tmp 24) 73 rfl base 3 iR (.int .i64 0) (mkI m) 8 Tryz.underlying73 hiR hzR0 hzR1 hzR2 rfl (Nat.succ_pos _) (oneCell_nums _ rfl) _ _ rfl (World.ownsRow.alloc HK0.out.full _) ⟨x0 + 1, 0, none⟩ 1 1 rfl (news_at _ _ (by first | rfl | (simp; omega)) _ _ _ rfl) (by unfold maxLen; omega) (by omega) (by simp; omega) ?_; intro v2 w2 hF2 hg2 hst2; obtain ⟨a2, c2, rfl, _, _, _⟩ := own_read hF2; have hx2 := KS.after HK0.out hg2; have x1 : w2.cell? ⟨x0, 1, none⟩ = some (.slice none 0 0) := (by simp [World.cell?, hx2]); have y1 : w2.frozen? ⟨x0, 1, none⟩ = false := (by simp [World.frozen?, hx2]))
        go_meet
        case rel =>
          have st := HK0.out.step (by decide) 1 hg2 hst2 hF2
          exact ⟨_, st.1, st.2.1⟩
      case rest =>
        obtain ⟨va, HH1⟩ := hcut
        have HK1 : Hid (KS w1 wc base x0 (mkI m) 3 83 (.slice aL k cL) k #[.slice aL k cL, va, .slice none 0 0, .slice none 0 0, .int .i64 m]) := HH1.out.1
        have HFa : Hid (Full wc base 3 (mkI m) va (k + 1)) := HH1.out.2
        clear HH1 HK0
        go_upto_region 7 with fail
        go_cut [] (fun wc => ∃ vb, Hid (KS w1 wc base x0 (mkI m) 3 83 (.slice aL k cL) k #[.slice aL k cL, va, vb, .slice none 0 0, .int .i64 m] ∧ Full wc base 3 (mkI m) va (k + 1) ∧ Full wc base 3 (mkI m) vb (k + 2)))
        case first =>
          have hrz := lt_of_block HK1.out.xb; have hxw := HK1.out.xw
          have hbz : base ≤ wc.heap.size := by omega
          go_wp2_with (at_builtin; refine wpList_append_mark _ rfl (.tmp 27) (.tmp 30) 73 rfl base 3 iR (.int .i64 0) (mkI m) 8 Tryz.underlying73 hiR hzR0 hzR1 hzR2 rfl (Nat.succ_pos _) (oneCell_nums _ rfl) _ _ rfl (World.ownsRow.alloc HK1.out.full _) ⟨wc.heap.size, 0, none⟩ 2 2 rfl (news_at _ _ (by first | rfl | (simp; omega)) _ _ _ rfl) (by unfold maxLen; omega) (by omega) (by simp; omega) ?_; intro v2 w2 hF2 hg2 hst2; obtain ⟨a2, c2, rfl, _, _, _⟩ := own_read hF2; have hx2 := KS.after HK1.out hg2; have x1 : w2.cell? ⟨x0, 2, none⟩ = some (.slice none 0 0) := (by simp [World.cell?, hx2]); have y1 : w2.frozen? ⟨x0, 2, none⟩ = false := (by simp [World.frozen?, hx2]))
          go_meet
          case rel =>
            have st := HK1.out.step (by decide) 2 hg2 hst2 hF2
            exact ⟨_, st.1, st.2.2 va (k + 1) (by omega) HFa.out, st.2.1⟩
        case rest =>
          obtain ⟨vb, HH2⟩ := hcut
          have HK2 : Hid (KS w1 wc base x0 (mkI m) 3 83 (.slice aL k cL) k #[.slice aL k cL, va, vb, .slice none 0 0, .int .i64 m]) := HH2.out.1
          have HFb : Hid (Full wc base 3 (mkI m) va (k + 1) ∧ Full wc base 3 (mkI m) vb (k + 2)) := HH2.out.2
          clear HH2 HK1 HFa
          go_upto_region 8 with fail
          go_cut [] (fun wc => ∃ vc, Hid (KS w1 wc base x0 (mkI m) 3 83 (.slice aL k cL) k #[.slice aL k cL, va, vb, vc, .int .i64 m] ∧ Full wc base 3 (mkI m) va (k + 1) ∧ Full wc base 3 (mkI m) vb (k + 2) ∧ Full wc base 3 (mkI m) vc (k + 3)))
          case first =>
            have hrz := lt_of_block HK2.out.xb; have hxw := HK2.out.xw
            have hbz : base ≤ wc.heap.size := by omega
            go_wp2_with (at_builtin; refine wpList_append_mark _ rfl (.tmp 33) (.tmp 37) 73 rfl base 3 iR (.int .i64 0) (mkI m) 8 Tryz.underlying73 hiR hzR0 hzR1 hzR2 rfl (Nat.succ_pos _) (oneCell_nums _ rfl) _ _ rfl (World.ownsRow.alloc HK2.out.full _) ⟨wc.heap.size, 0, none⟩ 3 3 rfl (news_at _ _ (by first | rfl | (simp; omega)) _ _ _ rfl) (by unfold maxLen; omega) (by omega) (by simp; omega) ?_; intro v2 w2 hF2 hg2 hst2; obtain ⟨a2, c2, rfl, _, _, _⟩ := own_read hF2; have hx2 := KS.after HK2.out hg2; have x1 : w2.cell? ⟨x0, 3, none⟩ = some (.slice none 0 0) := (by simp [World.cell?, hx2]); have y1 : w2.frozen? ⟨x0, 3, none⟩ = false := (by simp [World.frozen?, hx2]))
            go_meet
            case rel =>
              have st := HK2.out.step (by decide) 3 hg2 hst2 hF2
              exact ⟨_, st.1, st.2.2 va (k + 1) (by omega) HFb.out.1, st.2.2 vb (k + 2) (by omega) HFb.out.2, st.2.1⟩
          case rest =>
            obtain ⟨vc, HH3⟩ := hcut
            have HK3 : Hid (KS w1 wc base x0 (mkI m) 3 83 (.slice aL k cL) k #[.slice aL k cL, va, vb, vc, .int .i64 m]) := HH3.out.1
            have HFc : Hid (Full wc base 3 (mkI m) va (k + 1) ∧ Full wc base 3 (mkI m) vb (k + 2) ∧ Full wc base 3 (mkI m) vc (k + 3)) := HH3.out.2
            clear HH3 HK2 HFb
            go_upto_region 9 with fail
            have hsp := HK3.out.sp
            have hvl := HL1.out.lt
            have hgne : ¬ (some g = Value.ownBlock (.slice aL k cL)) := fun h => by have := (hvl g h.symm).1; omega
            have hgw : g < w1.heap.size := by omega
            have HBc : Hid (BookAt wc g o nI nW nR nG aI cI aW cW aR cR aG cG) := BookAt.kept HB1.out (hsp.block g hgw hgne)
            have HRcc : Hid (wc.ownsRow base 83 5 (.slice aI nI cI) nI rc) := ownsRow_spared HRc1.out hsp (fun j hj hs => by
              obtain ⟨cu, hh⟩ := own_tag HRc1.out hj
              exact own_ne HL1.out hh (by decide) hs.symm)
            obtain ⟨aa, ca, rfl, _, _, _⟩ := own_read HFc.out.1
            obtain ⟨ab, cb, rfl, _, _, _⟩ := own_read HFc.out.2.1
            obtain ⟨ac, cc, rfl, _, _, _⟩ := own_read HFc.out.2.2
            have c2 := HBc.out.c0
            have f2 := HBc.out.f0
            have x0c := (HK3.out.xc 0).1
            have x1c := (HK3.out.xc 1).1
            have x2c := (HK3.out.xc 2).1
            have x3c := (HK3.out.xc 3).1
            have x4c := (HK3.out.xc 4).1
            simp at x0c x1c x2c x3c x4c
            have hxz := lt_of_block HK3.out.xb
            have hgz : g < wc.heap.size := by have := hsp.size; omega
            have hbz : base ≤ wc.heap.size := by have := hsp.size; omega
            have HrowG : Hid (∀ j, Value.ownBlock (.slice aI nI cI) = some j → base ≤ j) := fun j hj => (HRcc.out.lt j hj).1
            have HrowX : Hid (Value.ownBlock (.slice aI nI cI) ≠ some x0) := fun h => by
              have h1 := (HRc1.out.lt x0 h).2
              have := HK3.out.xw
              omega
            have HgB : Hid (wc.heap[g]? = w1.heap[g]?) := hsp.block g hgw hgne
            clear hsp hvl hgne hgw
            obtain ⟨hn1, hn2, hn3, hn4⟩ := hnum
            go_region_law (first | (refine step_append_own rfl (.tmp 44) (.tmp 46) 28 rfl base 83 iE (.agg #[.slice none 0 0, .slice none 0 0, .slice none 0 0, .slice none 0 0, .int .i64 0]) 5 104 Tryz.underlying28 hiE hzE0 hzE1 hzE2 rfl (by decide) _ _ _ rfl (by exact (World.ownsRow.alloc HRcc.out _).drew) ⟨wc.heap.size, 0, none⟩ 1 1 [.slice aL k cL, .slice aa (k + 1) ca, .slice ab (k + 2) cb, .slice ac (k + 3) cc, .int .i64 m] rfl rfl (by exact news_at _ _ rfl _ _ _ rfl) (oneCell_nums _ rfl) (by unfold maxLen; omega) (by omega) (by simp; omega) ?_; intro v' w3 hown' hgrow; obtain ⟨a3, c3, rfl, _, _, _⟩ := own_read hown'; have kg := block_at hgrow g (by simp; omega) (fun h => by have := HrowG.out g h.symm; omega); have kx := block_at hgrow x0 (by simp; omega) (fun h => HrowX.out h.symm); have e0 : w3.cell? ⟨g, o, none⟩ = some (.slice aI nI cI) := (by rw [kg.1]; simp [go_sem, c2, hgz]); have e1 : w3.frozen? ⟨g, o, none⟩ = false := (by rw [kg.2]; simp [go_sem, f2, hgz])))
            all_goals
              go_wp2
              go_end0
              refine ⟨rfl, ?_⟩
              rw [HM.out]
              refine ⟨_, _, _, _, _, ?_, ownsRow_setCell_below hown' hgb _, full_end HK3.out.full HRcc.out (by decide) hgrow hgb, full_end HFc.out.1 HRcc.out (by decide) hgrow hgb, full_end HFc.out.2.1 HRcc.out (by decide) hgrow hgb, full_end HFc.out.2.2 HRcc.out (by decide) hgrow hgb, ?_, ?_⟩
              · have hk : w3.heap[g]? = wc.heap[g]? := (hgrow.block g (by simp; omega) (fun h => by have := HrowG.out g h.symm; omega)).trans (Below.heap_alloc wc _ g hgz)
                have B := BookAt.kept HBc.out hk
                refine ⟨?_, ?_, ?_, ?_, ?_, ?_, ?_, ?_⟩
                · exact World.cell?_setCell_same _ _ _ B.c0
                · rw [World.cell?_setCell_other _ _ _ _ (by simp)]; exact B.c1
                · rw [World.cell?_setCell_other _ _ _ _ (by simp)]; exact B.c2
                · rw [World.cell?_setCell_other _ _ _ _ (by simp)]; exact B.c3
                · rw [World.frozen?_setCell]; exact B.f0
                · rw [World.frozen?_setCell]; exact B.f1
                · rw [World.frozen?_setCell]; exact B.f2
                · rw [World.frozen?_setCell]; exact B.f3
              · exact spared_end Hsp1.out.1 Hsp1.out.2 HK3.out.sp hgrow
              · have hk : w3.heap[g]? = wc.heap[g]? := (hgrow.block g (by simp; omega) (fun h => by have := HrowG.out g h.symm; omega)).trans (Below.heap_alloc wc _ g hgz)
                exact ⟨w3, _, rfl, hk.trans (HgB.out.trans (Hsp1.out.1.block g (by have := Hsp1.out.2; omega)))⟩
end Go.Proofs.YtfpodnleimhohabGreatDoor

/-
  WALKS: a list of weights is kept.
-/
namespace Go.Proofs.YtfpodnleimhohabGreatDoor
open Go.RowKit
set_option linter.unusedVariables false

def mkW (m : Int) : List Value := [.int .i32 m]
theorem info_i32J : (Tryz.prog.info? 21).map (fun i => (i.zero, i.size, i.bytes)) = some (some (.int .i32 0), 1, 4) := by kernel_rfl
theorem info_weiE : (Tryz.prog.info? 87).map (fun i => (i.zero, i.size, i.bytes)) = some (some (.agg #[.slice none 0 0, .slice none 0 0, .slice none 0 0, .slice none 0 0, .int .i32 0]), 5, 104) := by kernel_rfl

set_option maxRecDepth 100000 in
set_option maxHeartbeats 2000000 in
theorem keepWeights_any (g o nI nW nR nG : Nat) (aI : Option Addr) (cI : Nat) (aW : Option Addr) (cW : Nat) (aR : Option Addr) (cR : Nat) (aG : Option Addr) (cG : Nat) (base n : Nat) (vL : Value) (xs rc : List Value) (w : World)
    (hB : BookAt w g o nI nW nR nG aI cI aW cW aR cR aG cG) (hnum : nI ≤ 100000000 ∧ nW ≤ 100000000 ∧ nR ≤ 100000000 ∧ nG ≤ 100000000) (hgb : g < base) (hbw : base ≤ w.heap.size)
    (hL : w.ownsRow base 21 1 vL n xs) (hn : n ≤ 1000) (hRc : w.ownsRow base 87 5 (.slice aW nW cW) nW rc) :
    Calls Tryz.prog 59 #[.pointer (some ⟨g, o, none⟩), vL] w fun e w' => e = .returned (.tuple #[]) ∧ ∃ aW' cW' va vb vc, BookAt w' g o nI (nW + 1) nR nG aI cI aW' cW' aR cR aG cG ∧
      w'.ownsRow base 87 5 (.slice aW' (nW + 1) cW') (nW + 1) (rc ++ [vL, va, vb, vc, .int .i32 (-1000 - (nI : Int) - nW - nR - nG)]) ∧
      Full w' base 21 (mkW (-1000 - (nI : Int) - nW - nR - nG)) vL n ∧ Full w' base 21 (mkW (-1000 - (nI : Int) - nW - nR - nG)) va (n + 1) ∧ Full w' base 21 (mkW (-1000 - (nI : Int) - nW - nR - nG)) vb (n + 2) ∧ Full w' base 21 (mkW (-1000 - (nI : Int) - nW - nR - nG)) vc (n + 3) ∧
      Spared w w' (fun k => k = g ∨ some k = vL.ownBlock ∨ some k = Value.ownBlock (.slice aW nW cW)) ∧ (∃ (wz : World) (u : Value), w' = wz.setCell ⟨g, o + 1, none⟩ u ∧ wz.heap[g]? = w.heap[g]?) := by
  obtain ⟨iR, hiR, hzR0, hzR1, hzR2⟩ := info_parts info_i32J
  obtain ⟨iE, hiE, hzE0, hzE1, hzE2⟩ := info_parts info_weiE
  have HB : Hid _ := hB
  have HL : Hid _ := hL
  have HRc : Hid _ := hRc
  obtain ⟨aL, cL, rfl, hL1, hL2, _⟩ := own_read hL
  unfold maxLen at hL2
  clear hB hL hRc
  go_enter Tryz.func59, Tryz.ntmps59
  go_wp2_with fail
  refine (number_any g o nI nW nR nG aI cI aW cW aR cR aG cG _ HB.out hnum).mono ?_
  rintro e w1 ⟨rfl, hw⟩
  obtain ⟨hb1, hs1⟩ := below_of_drewN hw
  clear hw
  have HL1 : Hid (w1.ownsRow base 21 1 (.slice aL n cL) n xs) := ownsRow_below HL.out hb1
  have HB1 : Hid (BookAt w1 g o nI nW nR nG aI cI aW cW aR cR aG cG) := BookAt.below HB.out hb1 (by omega)
  have HRc1 : Hid (w1.ownsRow base 87 5 (.slice aW nW cW) nW rc) := ownsRow_below HRc.out hb1
  have Hsp1 : Hid (Below w.heap.size w w1 ∧ w1.heap.size = w.heap.size) := ⟨hb1, hs1⟩
  clear HL HB HRc hb1 hs1
  generalize hm0 : (-1000 - (nI : Int) - nW - nR - nG) = m
  have HM : Hid (-1000 - (nI : Int) - nW - nR - nG = m) := hm0
  have hmb : -400001000 ≤ m ∧ m ≤ -1000 := by omega
  clear hm0
  have hbw1 : base ≤ w1.heap.size := by have := Hsp1.out.2; omega
  clear hbw
  go_wp2
  go_loopw [5] (fun i wr => ∃ k : Nat, k ≤ n ∧ i = .int .i64 k ∧ Hid (wr.ownsRow base 21 1 (.slice aL n cL) n (fills (mkW m) k ++ xs.drop k) ∧ Spared w1 wr (fun b => some b = Value.ownBlock (.slice aL n cL)))) (fun i _ => n - (intOf i).toNat)
  case atStart => exact ⟨0, by omega, rfl, by simpa [fills] using HL1.out, Spared.refl _ _⟩
  case round =>
    obtain ⟨k, hk, rfl, HS⟩ := hrel
    by_cases hlt : k < n
    · obtain ⟨ho, hsp⟩ := HS.out
      obtain ⟨a', c', he, _, _, HRd⟩ := own_read ho
      simp at he
      obtain ⟨rfl, rfl⟩ := he
      obtain ⟨gL, rfl, hg1, hg2, hg3⟩ := HRd (by omega)
      have hxl := HL1.out.1
      have hll := ho.1
      have hgw : gL < w1.heap.size := (HL1.out.lt gL rfl).2
      obtain ⟨u0, d0⟩ : ∃ u, wr.cell? ⟨gL, k, none⟩ = some u := by
        rw [hg3 k (by omega)]
        exact ⟨_, List.getElem?_eq_getElem (by omega)⟩
      have f0 := ho.frozenAt k
      clear HRd hg3 ho hsp
      go_wp2
      go_roundw
      case rel =>
        obtain ⟨ho, hsp⟩ := HS.out
        have s0 := World.ownsRow.stored ho k (.int .i32 m)
        refine ⟨k + 1, by omega, by go_num, ?_, ?_⟩
        · have := fill_set1 (.int .i32 m) k xs (by omega)
          have h3 := s0.1
          rw [show fills (mkW m) k = fills [.int .i32 m] k from rfl, this] at h3
          exact h3
        · have q : ∀ W j u, Spared w1 W (fun b => some b = Value.ownBlock (.slice (some ⟨gL, 0, none⟩) n cL)) → Spared w1 (W.setCell ⟨gL, j, none⟩ u) (fun b => some b = Value.ownBlock (.slice (some ⟨gL, 0, none⟩) n cL)) := fun W j u h =>
            h.trans (Spared.of_set W gL j u) (fun i _ hi => by rw [hi]; rfl)
          exact q _ _ _ hsp
      case measure => simp [intOf]; omega
    · obtain rfl : k = n := by omega
      have HF : Hid (Full wr base 21 (mkW m) (.slice aL k cL) k) := by
        have := HS.out.1
        rw [List.drop_eq_nil_of_le (by rw [HL1.out.1]; omega), List.append_nil] at this
        exact this
      have hzr : w1.heap.size ≤ wr.heap.size := HS.out.2.size
      have K0 : KS w1 (wr.alloc (.cells #[.slice aL k cL, .slice none 0 0, .slice none 0 0, .slice none 0 0, .int .i32 m] 87)) base wr.heap.size (mkW m) 21 87 (.slice aL k cL) k #[.slice aL k cL, .slice none 0 0, .slice none 0 0, .slice none 0 0, .int .i32 m] :=
        ⟨heap_alloc_new wr _, World.ownsRow.alloc HF.out _, HS.out.2.trans (Spared.of_below ((Below.refl _ _).alloc (Nat.le_refl _) _) (fun _ => False)) (fun _ _ h => h.elim), hzr, fun j hj => Nat.lt_of_lt_of_le (HL1.out.lt j hj).2 hzr⟩
      have HK0 : Hid _ := K0
      clear K0 HS HF
      go_upto_region 6 with fail
      generalize hx0 : wr.heap.size = x0 at *
      have HX0 : Hid (wr.heap.size = x0) := hx0
      clear hx0
      go_cut [] (fun wc => ∃ va, Hid (KS w1 wc base x0 (mkW m) 21 87 (.slice aL k cL) k #[.slice aL k cL, va, .slice none 0 0, .slice none 0 0, .int .i32 m] ∧ Full wc base 21 (mkW m) va (k + 1)))
      case first =>
        have hz0 := HX0.out
        go_wp2_with (at_builtin; refine wpList_append_mark _ rfl (.tmp 23) (.tmp 25) 85 rfl base 21 iR (.int .i32 0) (mkW m) 4 Tryz.underlying85 hiR hzR0 hzR1 hzR2 rfl (Nat.succ_pos _) (oneCell_nums _ rfl) _ _ rfl (World.ownsRow.alloc HK0.out.full _) ⟨x0 + 1, 0, none⟩ 1 1 rfl (news_at _ _ (by first | rfl | (simp; omega)) _ _ _ rfl) (by unfold maxLen; omega) (by omega) (by simp; omega) ?_; intro v2 w2 hF2 hg2 hst2; obtain ⟨a2, c2, rfl, _, _, _⟩ := own_read hF2; have hx2 := KS.after HK0.out hg2; have x1 : w2.cell? ⟨x0, 1, none⟩ = some (.slice none 0 0) := (by simp [World.cell?, hx2]); have y1 : w2.frozen? ⟨x0, 1, none⟩ = false := (by simp [World.frozen?, hx2]))
        go_meet
        case rel =>
          have st := HK0.out.step (by decide) 1 hg2 hst2 hF2
          exact ⟨_, st.1, st.2.1⟩
      case rest =>
        obtain ⟨va, HH1⟩ := hcut
        have HK1 : Hid (KS w1 wc base x0 (mkW m) 21 87 (.slice aL k cL) k #[.slice aL k cL, va, .slice none 0 0, .slice none 0 0, .int .i32 m]) := HH1.out.1
        have HFa : Hid (Full wc base 21 (mkW m) va (k + 1)) := HH1.out.2
        clear HH1 HK0
        go_upto_region 7 with fail
        go_cut [] (fun wc => ∃ vb, Hid (KS w1 wc base x0 (mkW m) 21 87 (.slice aL k cL) k #[.slice aL k cL, va, vb, .slice none 0 0, .int .i32 m] ∧ Full wc base 21 (mkW m) va (k + 1) ∧ Full wc base 21 (mkW m) vb (k + 2)))
        case first =>
          have hrz := lt_of_block HK1.out.xb; have hxw := HK1.out.xw
          have hbz : base ≤ wc.heap.size := by omega
          go_wp2_with (at_builtin; refine wpList_append_mark _ rfl (.tmp 28) (.tmp 31) 85 rfl base 21 iR (.int .i32 0) (mkW m) 4 Tryz.underlying85 hiR hzR0 hzR1 hzR2 rfl (Nat.succ_pos _) (oneCell_nums _ rfl) _ _ rfl (World.ownsRow.alloc HK1.out.full _) ⟨wc.heap.size, 0, none⟩ 2 2 rfl (news_at _ _ (by first | rfl | (simp; omega)) _ _ _ rfl) (by unfold maxLen; omega) (by omega) (by simp; omega) ?_; intro v2 w2 hF2 hg2 hst2; obtain ⟨a2, c2, rfl, _, _, _⟩ := own_read hF2; have hx2 := KS.after HK1.out hg2; have x1 : w2.cell? ⟨x0, 2, none⟩ = some (.slice none 0 0) := (by simp [World.cell?, hx2]); have y1 : w2.frozen? ⟨x0, 2, none⟩ = false := (by simp [World.frozen?, hx2]))
          go_meet
          case rel =>
            have st := HK1.out.step (by decide) 2 hg2 hst2 hF2
            exact ⟨_, st.1, st.2.2 va (k + 1) (by omega) HFa.out, st.2.1⟩
        case rest =>
          obtain ⟨vb, HH2⟩ := hcut
          have HK2 : Hid (KS w1 wc base x0 (mkW m) 21 87 (.slice aL k cL) k #[.slice aL k cL, va, vb, .slice none 0 0, .int .i32 m]) := HH2.out.1
          have HFb : Hid (Full wc base 21 (mkW m) va (k + 1) ∧ Full wc base 21 (mkW m) vb (k + 2)) := HH2.out.2
          clear HH2 HK1 HFa
          go_upto_region 8 with fail
          go_cut [] (fun wc => ∃ vc, Hid (KS w1 wc base x0 (mkW m) 21 87 (.slice aL k cL) k #[.slice aL k cL, va, vb, vc, .int .i32 m] ∧ Full wc base 21 (mkW m) va (k + 1) ∧ Full wc base 21 (mkW m) vb (k + 2) ∧ Full wc base 21 (mkW m) vc (k + 3)))
          case first =>
            have hrz := lt_of_block HK2.out.xb; have hxw := HK2.out.xw
            have hbz : base ≤ wc.heap.size := by omega
            go_wp2_with (at_builtin; refine wpList_append_mark _ rfl (.tmp 34) (.tmp 38) 85 rfl base 21 iR (.int .i32 0) (mkW m) 4 Tryz.underlying85 hiR hzR0 hzR1 hzR2 rfl (Nat.succ_pos _) (oneCell_nums _ rfl) _ _ rfl (World.ownsRow.alloc HK2.out.full _) ⟨wc.heap.size, 0, none⟩ 3 3 rfl (news_at _ _ (by first | rfl | (simp; omega)) _ _ _ rfl) (by unfold maxLen; omega) (by omega) (by simp; omega) ?_; intro v2 w2 hF2 hg2 hst2; obtain ⟨a2, c2, rfl, _, _, _⟩ := own_read hF2; have hx2 := KS.after HK2.out hg2; have x1 : w2.cell? ⟨x0, 3, none⟩ = some (.slice none 0 0) := (by simp [World.cell?, hx2]); have y1 : w2.frozen? ⟨x0, 3, none⟩ = false := (by simp [World.frozen?, hx2]))
            go_meet
            case rel =>
              have st := HK2.out.step (by decide) 3 hg2 hst2 hF2
              exact ⟨_, st.1, st.2.2 va (k + 1) (by omega) HFb.out.1, st.2.2 vb (k + 2) (by omega) HFb.out.2, st.2.1⟩
          case rest =>
            obtain ⟨vc, HH3⟩ := hcut
            have HK3 : Hid (KS w1 wc base x0 (mkW m) 21 87 (.slice aL k cL) k #[.slice aL k cL, va, vb, vc, .int .i32 m]) := HH3.out.1
            have HFc : Hid (Full wc base 21 (mkW m) va (k + 1) ∧ Full wc base 21 (mkW m) vb (k + 2) ∧ Full wc base 21 (mkW m) vc (k + 3)) := HH3.out.2
            clear HH3 HK2 HFb
            go_upto_region 9 with fail
            have hsp := HK3.out.sp
            have hvl := HL1.out.lt
            have hgne : ¬ (some g = Value.ownBlock (.slice aL k cL)) := fun h => by have := (hvl g h.symm).1; omega
            have hgw : g < w1.heap.size := by omega
            have HBc : Hid (BookAt wc g o nI nW nR nG aI cI aW cW aR cR aG cG) := BookAt.kept HB1.out (hsp.block g hgw hgne)
            have HRcc : Hid (wc.ownsRow base 87 5 (.slice aW nW cW) nW rc) := ownsRow_spared HRc1.out hsp (fun j hj hs => by
              obtain ⟨cu, hh⟩ := own_tag HRc1.out hj
              exact own_ne HL1.out hh (by decide) hs.symm)
            obtain ⟨aa, ca, rfl, _, _, _⟩ := own_read HFc.out.1
            obtain ⟨ab, cb, rfl, _, _, _⟩ := own_read HFc.out.2.1
            obtain ⟨ac, cc, rfl, _, _, _⟩ := own_read HFc.out.2.2
            have c2 := HBc.out.c1
            have f2 := HBc.out.f1
            have x0c := (HK3.out.xc 0).1
            have x1c := (HK3.out.xc 1).1
            have x2c := (HK3.out.xc 2).1
            have x3c := (HK3.out.xc 3).1
            have x4c := (HK3.out.xc 4).1
            simp at x0c x1c x2c x3c x4c
            have hxz := lt_of_block HK3.out.xb
            have hgz : g < wc.heap.size := by have := hsp.size; omega
            have hbz : base ≤ wc.heap.size := by have := hsp.size; omega
            have HrowG : Hid (∀ j, Value.ownBlock (.slice aW nW cW) = some j → base ≤ j) := fun j hj => (HRcc.out.lt j hj).1
            have HrowX : Hid (Value.ownBlock (.slice aW nW cW) ≠ some x0) := fun h => by
              have h1 := (HRc1.out.lt x0 h).2
              have := HK3.out.xw
              omega
            have HgB : Hid (wc.heap[g]? = w1.heap[g]?) := hsp.block g hgw hgne
            clear hsp hvl hgne hgw
            obtain ⟨hn1, hn2, hn3, hn4⟩ := hnum
            go_region_law (first | (refine step_append_own rfl (.tmp 45) (.tmp 47) 29 rfl base 87 iE (.agg #[.slice none 0 0, .slice none 0 0, .slice none 0 0, .slice none 0 0, .int .i32 0]) 5 104 Tryz.underlying29 hiE hzE0 hzE1 hzE2 rfl (by decide) _ _ _ rfl (by exact (World.ownsRow.alloc HRcc.out _).drew) ⟨wc.heap.size, 0, none⟩ 1 1 [.slice aL k cL, .slice aa (k + 1) ca, .slice ab (k + 2) cb, .slice ac (k + 3) cc, .int .i32 m] rfl rfl (by exact news_at _ _ rfl _ _ _ rfl) (oneCell_nums _ rfl) (by unfold maxLen; omega) (by omega) (by simp; omega) ?_; intro v' w3 hown' hgrow; obtain ⟨a3, c3, rfl, _, _, _⟩ := own_read hown'; have kg := block_at hgrow g (by simp; omega) (fun h => by have := HrowG.out g h.symm; omega); have kx := block_at hgrow x0 (by simp; omega) (fun h => HrowX.out h.symm); have e0 : w3.cell? ⟨g, o + 1, none⟩ = some (.slice aW nW cW) := (by rw [kg.1]; simp [go_sem, c2, hgz]); have e1 : w3.frozen? ⟨g, o + 1, none⟩ = false := (by rw [kg.2]; simp [go_sem, f2, hgz])))
            all_goals
              go_wp2
              go_end0
              refine ⟨rfl, ?_⟩
              rw [HM.out]
              refine ⟨_, _, _, _, _, ?_, ownsRow_setCell_below hown' hgb _, full_end HK3.out.full HRcc.out (by decide) hgrow hgb, full_end HFc.out.1 HRcc.out (by decide) hgrow hgb, full_end HFc.out.2.1 HRcc.out (by decide) hgrow hgb, full_end HFc.out.2.2 HRcc.out (by decide) hgrow hgb, ?_, ?_⟩
              · have hk : w3.heap[g]? = wc.heap[g]? := (hgrow.block g (by simp; omega) (fun h => by have := HrowG.out g h.symm; omega)).trans (Below.heap_alloc wc _ g hgz)
                have B := BookAt.kept HBc.out hk
                refine ⟨?_, ?_, ?_, ?_, ?_, ?_, ?_, ?_⟩
                · rw [World.cell?_setCell_other _ _ _ _ (by simp)]; exact B.c0
                · exact World.cell?_setCell_same _ _ _ B.c1
                · rw [World.cell?_setCell_other _ _ _ _ (by simp)]; exact B.c2
                · rw [World.cell?_setCell_other _ _ _ _ (by simp)]; exact B.c3
                · rw [World.frozen?_setCell]; exact B.f0
                · rw [World.frozen?_setCell]; exact B.f1
                · rw [World.frozen?_setCell]; exact B.f2
                · rw [World.frozen?_setCell]; exact B.f3
              · exact spared_end Hsp1.out.1 Hsp1.out.2 HK3.out.sp hgrow
              · have hk : w3.heap[g]? = wc.heap[g]? := (hgrow.block g (by simp; omega) (fun h => by have := HrowG.out g h.symm; omega)).trans (Below.heap_alloc wc _ g hgz)
                exact ⟨w3, _, rfl, hk.trans (HgB.out.trans (Hsp1.out.1.block g (by have := Hsp1.out.2; omega)))⟩
end Go.Proofs.YtfpodnleimhohabGreatDoor

/-
  WALKS: what was kept is looked at: lists of numbers, of weights.
-/
namespace Go.Proofs.YtfpodnleimhohabGreatDoor
open Go.RowKit
set_option linter.unusedVariables false

set_option maxRecDepth 4000 in
set_option maxHeartbeats 1000000 in
theorem fullInts_any (base p : Nat) (v : Value) (m : Int) (w : World) (h : Full w base 3 (mkI m) v p) (hp : p ≤ 10000) :
    Calls Tryz.prog 25 #[v, .int .i64 m] w fun e w' => e = .returned (.bool true) ∧ w' = w := by
  obtain ⟨a, c, rfl, h1, h2, HRd⟩ := own_read h
  unfold maxLen at h2
  have HR : Hid _ := HRd
  clear HRd h
  go_enter Tryz.func25, Tryz.ntmps25
  go_wp2
  go_loop [5] (fun i => ∃ k : Nat, k ≤ p ∧ i = .int .i64 k) (fun i => p - (intOf i).toNat)
  case atStart => exact ⟨0, by omega, rfl⟩
  case round =>
    obtain ⟨k, hk, rfl⟩ := hrel
    by_cases hlt : k < p
    · obtain ⟨g, rfl, _, _, hg⟩ := HR.out (by omega)
      have q0 : w.cell? ⟨g, k, none⟩ = some (.int .i64 m) := by
        have := (hg (k * 1 + 0) (by show k * 1 + 0 < p * 1; omega)).trans (fills_get (mkI m) p k 0 hlt (by show 0 < 1; decide))
        simpa [mkI] using this
      clear hg
      go_wp2
      go_round
      case rel => exact ⟨k + 1, by omega, by go_num⟩
      case measure => simp [intOf]; omega
    · go_wp2
      go_ret
      exact ⟨rfl, rfl⟩

set_option maxRecDepth 4000 in
set_option maxHeartbeats 1000000 in
theorem fullWeights_any (base p : Nat) (v : Value) (m : Int) (w : World) (h : Full w base 21 (mkW m) v p) (hp : p ≤ 10000) :
    Calls Tryz.prog 26 #[v, .int .i32 m] w fun e w' => e = .returned (.bool true) ∧ w' = w := by
  obtain ⟨a, c, rfl, h1, h2, HRd⟩ := own_read h
  unfold maxLen at h2
  have HR : Hid _ := HRd
  clear HRd h
  go_enter Tryz.func26, Tryz.ntmps26
  go_wp2
  go_loop [5] (fun i => ∃ k : Nat, k ≤ p ∧ i = .int .i64 k) (fun i => p - (intOf i).toNat)
  case atStart => exact ⟨0, by omega, rfl⟩
  case round =>
    obtain ⟨k, hk, rfl⟩ := hrel
    by_cases hlt : k < p
    · obtain ⟨g, rfl, _, _, hg⟩ := HR.out (by omega)
      have q0 : w.cell? ⟨g, k, none⟩ = some (.int .i32 m) := by
        have := (hg (k * 1 + 0) (by show k * 1 + 0 < p * 1; omega)).trans (fills_get (mkW m) p k 0 hlt (by show 0 < 1; decide))
        simpa [mkW] using this
      clear hg
      go_wp2
      go_round
      case rel => exact ⟨k + 1, by omega, by go_num⟩
      case measure => simp [intOf]; omega
    · go_wp2
      go_ret
      exact ⟨rfl, rfl⟩

def entCellsW (x : Ent) : List Value := [x.l, x.a, x.b, x.c, .int .i32 x.m]
def entsCellsW (l : List Ent) : List Value := l.flatMap entCellsW
theorem entsCellsW_snoc (l : List Ent) (x : Ent) : entsCellsW (l ++ [x]) = entsCellsW l ++ entCellsW x := by simp [entsCellsW]
theorem entW_get {l : List Ent} {k : Nat} {x : Ent} (h : l[k]? = some x) : (entsCellsW l)[k * 5]? = some x.l ∧ (entsCellsW l)[k * 5 + 1]? = some x.a ∧ (entsCellsW l)[k * 5 + 2]? = some x.b ∧ (entsCellsW l)[k * 5 + 3]? = some x.c ∧ (entsCellsW l)[k * 5 + 4]? = some (.int .i32 x.m) := by
  have f := flat_get entCellsW 5 (fun _ => rfl) l k x h
  exact ⟨f 0 (by omega), f 1 (by omega), f 2 (by omega), f 3 (by omega), f 4 (by omega)⟩

set_option maxRecDepth 100000 in
set_option maxHeartbeats 4000000 in
theorem looks2_any (g o : Nat) (aI : Option Addr) (cI : Nat) (aW : Option Addr) (cW : Nat) (aR : Option Addr) (cR : Nat) (aG : Option Addr) (cG : Nat) (base : Nat) (EI EW : List Ent) (w : World)
    (hB : BookAt w g o EI.length EW.length 0 0 aI cI aW cW aR cR aG cG) (hR : w.ownsRow base 83 5 (.slice aI EI.length cI) EI.length (entsCells EI)) (hG : w.ownsRow base 87 5 (.slice aW EW.length cW) EW.length (entsCellsW EW))
    (hEI : ∀ x ∈ EI, EntIs w base 3 mkI x) (hEW : ∀ x ∈ EW, EntIs w base 21 mkW x) (hg : g < w.heap.size) (h1 : EI.length ≤ 100000000) (h2 : EW.length ≤ 100000000) :
    Calls Tryz.prog 10 #[.pointer (some ⟨g, o, none⟩)] w fun e w' => e = .returned (.bool true) ∧ Below w.heap.size w w' := by
  have HB : Hid _ := hB
  have HEI : Hid _ := hEI
  have HEW : Hid _ := hEW
  obtain ⟨_, _, hv1, hR1, hR2, HRr⟩ := own_read hR
  simp at hv1
  obtain ⟨rfl, rfl⟩ := hv1
  obtain ⟨_, _, hv2, hG1, hG2, HGg⟩ := own_read hG
  simp at hv2
  obtain ⟨rfl, rfl⟩ := hv2
  have HR : Hid _ := HRr
  have HG : Hid _ := HGg
  unfold maxLen at hR2 hG2
  clear hEI hEW HRr HGg hR hG hB
  go_enter Tryz.func10, Tryz.ntmps10
  go_wp2
  go_loopw [3] (fun i wr => ∃ k : Nat, k ≤ EI.length ∧ i = .int .i64 k ∧ Below w.heap.size w wr) (fun i _ => EI.length - (intOf i).toNat)
  case atStart => exact ⟨0, by omega, rfl, Below.refl _ _⟩
  case round =>
    obtain ⟨k, hk, rfl, hbr⟩ := hrel
    have d0 := (hbr.cell (p := ⟨g, o, none⟩) hg).trans HB.out.c0
    have d1 := (hbr.cell (p := ⟨g, o + 1, none⟩) hg).trans HB.out.c1
    by_cases hlt : k < EI.length
    · obtain ⟨gr, rfl, _, hgl, hgc⟩ := HR.out (by omega)
      obtain ⟨q0, q1, q2, q3, q4⟩ := ent_get (List.getElem?_eq_getElem hlt)
      have hE := HEI.out _ (List.getElem_mem hlt)
      have e0 := ((hbr.cell (p := ⟨gr, k * 5, none⟩) hgl).trans (hgc _ (by omega))).trans q0
      have e1 := ((hbr.cell (p := ⟨gr, k * 5 + 1, none⟩) hgl).trans (hgc _ (by omega))).trans q1
      have e2 := ((hbr.cell (p := ⟨gr, k * 5 + 2, none⟩) hgl).trans (hgc _ (by omega))).trans q2
      have e3 := ((hbr.cell (p := ⟨gr, k * 5 + 3, none⟩) hgl).trans (hgc _ (by omega))).trans q3
      have e4 := ((hbr.cell (p := ⟨gr, k * 5 + 4, none⟩) hgl).trans (hgc _ (by omega))).trans q4
      clear q0 q1 q2 q3 q4 hgc
      generalize (EI[k]'hlt) = x at *
      have HE2 : Hid (EntIs wr base 3 mkI x) := EntIs.later hE hbr
      obtain ⟨l, a, b, c, m, n⟩ := x
      obtain ⟨al, cl, hl, _, _, _⟩ := own_read hE.l
      obtain ⟨aa, ca, ha, _, _, _⟩ := own_read hE.a
      obtain ⟨ab, cb, hb, _, _, _⟩ := own_read hE.b
      obtain ⟨ac, cc, hc, _, _, _⟩ := own_read hE.c
      simp only at hl ha hb hc e0 e1 e2 e3 e4
      subst hl ha hb hc
      have hnb : n ≤ 1000 := hE.n
      clear hE
      have hki : (k : Int) < (EI.length : Int) := by omega
      go_wp2_with fail
      refine (fullInts_any base n _ m _ (World.ownsRow.alloc HE2.out.l _) (by omega)).mono ?_
      rintro e w' ⟨rfl, hw⟩
      subst hw
      go_wp2_with fail
      refine (fullInts_any base (n + 1) _ m _ (World.ownsRow.alloc HE2.out.a _) (by omega)).mono ?_
      rintro e w' ⟨rfl, hw⟩
      subst hw
      go_wp2_with fail
      refine (fullInts_any base (n + 2) _ m _ (World.ownsRow.alloc HE2.out.b _) (by omega)).mono ?_
      rintro e w' ⟨rfl, hw⟩
      subst hw
      go_wp2_with fail
      refine (fullInts_any base (n + 3) _ m _ (World.ownsRow.alloc HE2.out.c _) (by omega)).mono ?_
      rintro e w' ⟨rfl, hw⟩
      subst hw
      go_wp2
      go_roundw
      case rel => exact ⟨k + 1, by omega, by go_num, hbr.alloc hbr.size _⟩
      case measure => simp [intOf]; omega
    · go_wp2
      go_loopw [5] (fun i wr => ∃ k : Nat, k ≤ EW.length ∧ i = .int .i64 k ∧ Below w.heap.size w wr) (fun i _ => EW.length - (intOf i).toNat)
      case atStart => exact ⟨0, by omega, rfl, hbr⟩
      case round =>
        obtain ⟨k, hk, rfl, hbr⟩ := hrel
        have d1 := (hbr.cell (p := ⟨g, o + 1, none⟩) hg).trans HB.out.c1
        have d2 := (hbr.cell (p := ⟨g, o + 2, none⟩) hg).trans HB.out.c2
        have d3 := (hbr.cell (p := ⟨g, o + 3, none⟩) hg).trans HB.out.c3
        by_cases hlt : k < EW.length
        · obtain ⟨gr, rfl, _, hgl, hgc⟩ := HG.out (by omega)
          obtain ⟨q0, q1, q2, q3, q4⟩ := entW_get (List.getElem?_eq_getElem hlt)
          have hE := HEW.out _ (List.getElem_mem hlt)
          have e0 := ((hbr.cell (p := ⟨gr, k * 5, none⟩) hgl).trans (hgc _ (by omega))).trans q0
          have e1 := ((hbr.cell (p := ⟨gr, k * 5 + 1, none⟩) hgl).trans (hgc _ (by omega))).trans q1
          have e2 := ((hbr.cell (p := ⟨gr, k * 5 + 2, none⟩) hgl).trans (hgc _ (by omega))).trans q2
          have e3 := ((hbr.cell (p := ⟨gr, k * 5 + 3, none⟩) hgl).trans (hgc _ (by omega))).trans q3
          have e4 := ((hbr.cell (p := ⟨gr, k * 5 + 4, none⟩) hgl).trans (hgc _ (by omega))).trans q4
          clear q0 q1 q2 q3 q4 hgc
          generalize (EW[k]'hlt) = x at *
          have HE2 : Hid (EntIs wr base 21 mkW x) := EntIs.later hE hbr
          obtain ⟨l, a, b, c, m, n⟩ := x
          obtain ⟨al, cl, hl, _, _, _⟩ := own_read hE.l
          obtain ⟨aa, ca, ha, _, _, _⟩ := own_read hE.a
          obtain ⟨ab, cb, hb, _, _, _⟩ := own_read hE.b
          obtain ⟨ac, cc, hc, _, _, _⟩ := own_read hE.c
          simp only at hl ha hb hc e0 e1 e2 e3 e4
          subst hl ha hb hc
          have hnb : n ≤ 1000 := hE.n
          clear hE
          have hki : (k : Int) < (EW.length : Int) := by omega
          go_wp2_with fail
          refine (fullWeights_any base n _ m _ (World.ownsRow.alloc HE2.out.l _) (by omega)).mono ?_
          rintro e w' ⟨rfl, hw⟩
          subst hw
          go_wp2_with fail
          refine (fullWeights_any base (n + 1) _ m _ (World.ownsRow.alloc HE2.out.a _) (by omega)).mono ?_
          rintro e w' ⟨rfl, hw⟩
          subst hw
          go_wp2_with fail
          refine (fullWeights_any base (n + 2) _ m _ (World.ownsRow.alloc HE2.out.b _) (by omega)).mono ?_
          rintro e w' ⟨rfl, hw⟩
          subst hw
          go_wp2_with fail
          refine (fullWeights_any base (n + 3) _ m _ (World.ownsRow.alloc HE2.out.c _) (by omega)).mono ?_
          rintro e w' ⟨rfl, hw⟩
          subst hw
          go_wp2
          go_roundw
          case rel => exact ⟨k + 1, by omega, by go_num, hbr.alloc hbr.size _⟩
          case measure => simp [intOf]; omega
        · go_wp2
          refine wp_loop_rounds 1 ?_
          rw [rounds_succ]
          go_wp2
          refine wp_loop_rounds 1 ?_
          rw [rounds_succ]
          go_wp2
          go_ret
          exact ⟨rfl, hbr⟩

end Go.Proofs.YtfpodnleimhohabGreatDoor
