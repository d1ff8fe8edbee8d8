/-
  WALKS: the document's answer: which frame stands at a text's head.
-/
import Derived.Test.YtfpodnleimhohaaWalks6
import Derived.Test.YtfpodnleimhohaaMath3
namespace Go.Proofs.Ytfpodnleimhohaa
open Go.RowKit
set_option linter.unusedVariables false

/-- No frame of a body of at most k bytes stands at the head. -/
def NoneTo (l : List UInt8) (k : Nat) : Prop := ∀ b, bodyOk b = true → frameB b <+: l → k < b.length
theorem NoneTo.start (l : List UInt8) : NoneTo l 0 := fun b ok _ => (bodyOk_len ok).1
theorem NoneTo.none {l : List UInt8} (h : NoneTo l 201) : stand l = none :=
  stand_none _ fun b ok hp => by have := h b ok hp; have := (bodyOk_len ok).2; omega
theorem NoneTo.next {l : List UInt8} {k : Nat} (h : NoneTo l k) (h2 : ∀ b, bodyOk b = true → frameB b <+: l → b.length = k + 1 → False) : NoneTo l (k + 1) := by
  intro b ok hp
  have := h b ok hp
  rcases Nat.lt_or_ge (k + 1) b.length with h' | h'
  · exact h'
  · exact absurd (h2 b ok hp (by omega)) (by simp)
/-- What a frame of a body of n bytes is made of. -/
theorem frame_shape {b l : List UInt8} {n : Nat} (hp : frameB b <+: l) (hn : b.length = n) :
    ((213 : UInt8) :: var (n : Int)).length + n + 4 ≤ l.length ∧ l.take ((213 : UInt8) :: var (n : Int)).length = (213 : UInt8) :: var (n : Int) ∧ (l.drop ((213 : UInt8) :: var (n : Int)).length).take n = b ∧ (frameB b).length = ((213 : UInt8) :: var (n : Int)).length + n + 4 ∧ l.take (frameB b).length = frameB b := by
  obtain ⟨r, rfl⟩ := hp
  subst hn
  have hl : (frameB b).length = ((213 : UInt8) :: var (b.length : Int)).length + b.length + 4 := by
    unfold frameB; simp [le_length]; omega
  have e : frameB b ++ r = ((213 : UInt8) :: var (b.length : Int)) ++ (b ++ (le (crc b) 4 ++ r)) := by unfold frameB; simp
  refine ⟨by rw [List.length_append, hl]; omega, ?_, ?_, hl, ?_⟩
  · rw [e, List.take_left]
  · rw [e, List.drop_left, List.take_left]
  · rw [List.take_left]

theorem frameB_len_eq {b : List UInt8} {n : Nat} (hn : b.length = n) : (frameB b).length = ((213 : UInt8) :: var (n : Int)).length + n + 4 := by
  subst hn
  unfold frameB; simp [le_length]; omega
def exZero : Value := .agg #[.int .u8 0, .string ⟨#[]⟩]
def exVal (b : List UInt8) : Value := .agg #[.int .u8 ((b.headD 0).toNat : Int), .string (bs b.tail)]
def standAns (l : List UInt8) : ByteArray × Value :=
  match stand l with
  | some b => (bs (frameB b), exVal b)
  | none => (⟨#[]⟩, exZero)
theorem standAns_none {l : List UInt8} (h : stand l = none) : standAns l = (⟨#[]⟩, exZero) := by simp [standAns, h]
theorem standAns_some {l b : List UInt8} (h : stand l = some b) : standAns l = (bs (frameB b), exVal b) := by simp [standAns, h]
theorem ret_stand {l : List UInt8} {x : ByteArray} {v : Value} (h : standAns l = (x, v)) :
    Ending.returned (.tuple #[.string x, v]) = .returned (.tuple #[.string (standAns l).1, (standAns l).2]) := by rw [h]
/-- The empty example, just laid, read in a later world. -/
theorem zeroEx_cells {w w1 : World} (hb : Below (w.alloc (.cells #[.int .u8 0, .string ⟨#[]⟩] 27)).heap.size (w.alloc (.cells #[.int .u8 0, .string ⟨#[]⟩] 27)) w1) :
    w1.cell? ⟨w.heap.size, 0, none⟩ = some (.int .u8 0) ∧ w1.cell? ⟨w.heap.size, 1, none⟩ = some (.string ⟨#[]⟩) ∧
    w1.frozen? ⟨w.heap.size, 0, none⟩ = false ∧ w1.frozen? ⟨w.heap.size, 1, none⟩ = false ∧ w.heap.size < w1.heap.size := by
  have hz := hb.size
  obtain ⟨hc, hf⟩ := bcell hb
  simp at hz hc hf
  refine ⟨?_, ?_, ?_, ?_, by omega⟩
  all_goals first | (rw [hc _ _ (by omega)]; simp [go_sem]) | (rw [hf _ _ (by omega)]; simp [go_sem])

set_option maxRecDepth 100000 in
set_option maxHeartbeats 2000000 in
theorem stands_any (S : ByteArray) (hS : S.size ≤ 600) (hS0 : 0 < S.size) (w : World) :
    Calls Try.prog 61 #[.string S] w fun e w' => e = .returned (.tuple #[.string (standAns (ls S)).1, (standAns (ls S)).2]) ∧ Below w.heap.size w w' := by
  obtain ⟨c0, hc0, HC0⟩ : ∃ c0, S[0] = c0 ∧ Hid (ls S = c0 :: (ls S).tail) := ⟨S[0], rfl, ls_zero S hS0⟩
  by_cases h213 : c0 = 213
  · subst h213
    go_enter Try.func61, Try.ntmps61
    go_wp2
    go_loopw [4] (fun n wr => ∃ k : Nat, k ≤ 201 ∧ n = .int .i64 k ∧ Hid (NoneTo (ls S) k) ∧ Below (w.alloc (.cells #[.int .u8 0, .string ⟨#[]⟩] 27)).heap.size (w.alloc (.cells #[.int .u8 0, .string ⟨#[]⟩] 27)) wr) (fun n _ => 201 - (intOf n).toNat)
    case atStart => exact ⟨0, by omega, rfl, NoneTo.start _, Below.refl _ _⟩
    case round =>
      obtain ⟨k, hk, rfl, HN, hbr⟩ := hrel
      by_cases hlt : k ≤ 200
      · have e1 : Hid (bs (le 213 1) = bs [213]) := rfl
        obtain ⟨V, HV, hVz⟩ : ∃ V : ByteArray, Hid (bs (var ((k + 1 : Nat) : Int)) = V) ∧ 1 ≤ V.size ∧ V.size ≤ 10 := ⟨_, (rfl : _ = _), by rw [bs_size]; exact (var_length _).1, by rw [bs_size]; exact (var_length _).2⟩
        have kz : (bs [213]).size = 1 := rfl
        obtain ⟨H, A, HH, hHz, hA1, hA2⟩ : ∃ (H : ByteArray) (A : Nat), Hid (bs [213] ++ V = H ∧ ls H = (213 : UInt8) :: var ((k + 1 : Nat) : Int)) ∧ H.size = A ∧ 2 ≤ A ∧ A ≤ 11 :=
          ⟨_, _, ⟨rfl, by rw [ls_append, ls_bs, ← HV.out, ls_bs]; rfl⟩, rfl, by rw [ByteArray.size_append, kz]; omega, by rw [ByteArray.size_append, kz]; omega⟩
        go_wp2_with fail
        refine (little_any _ 1 (by omega) (by omega) (by omega) _).mono ?_
        rintro e w1 ⟨rfl, hb1⟩
        rw [e1.out]
        go_wp2_with fail
        refine (varint_any _ (by omega) (by omega) _).mono ?_
        rintro e w2 ⟨rfl, hb2⟩
        rw [show bs (var ((k : Int) + 1)) = V from HV.out]
        have hbr2 := (hbr.trans (hb1.mono hbr.size)).trans (hb2.mono (Nat.le_trans hbr.size hb1.size))
        have HA : Hid (((213 : UInt8) :: var ((k + 1 : Nat) : Int)).length = A) := by
          show _ = _
          rw [← HH.out.2, ls_length, hHz]
        by_cases hl : S.size < A + 1 + k + 4
        · have hlb : decide ((S.size : Int) < (A : Int) + 1 + (k : Int) + 4) = true := by simp; omega
          have HN2 : Hid (NoneTo (ls S) (k + 1)) := HN.out.next fun b ok hp hb => by
            have := (frame_shape hp hb).1
            rw [HA.out, ls_length] at this
            omega
          go_wp2_with (rw [HH.out.1])
          go_roundw
          case rel => exact ⟨k + 1, by omega, by go_num, HN2, hbr2⟩
          case measure => simp [intOf]; omega
        · have hlb : decide ((S.size : Int) < (A : Int) + 1 + (k : Int) + 4) = false := by simp; omega
          obtain ⟨E, HE⟩ : ∃ E : ByteArray, Hid (S.extract 0 (A) = E ∧ ls E = (ls S).take (A)) := ⟨_, rfl, by rw [ls_cut]; simp⟩
          by_cases hEH : E = H
          · subst hEH
            have heq : (!E.toList == E.toList) = false := by simp
            have hAS : A < S.size := by omega
            obtain ⟨c1, hc1, HC1⟩ : ∃ c1, S[A] = c1 ∧ Hid ((ls S).drop (A) = c1 :: (ls S).drop (A + 1)) := ⟨_, rfl, drop_getElem S (A) hAS⟩
            obtain ⟨T, HT, hTz⟩ : ∃ T : ByteArray, Hid (S.extract (A + 1) (A + 1 + k) = T ∧ ls T = ((ls S).drop (A + 1)).take k) ∧ T.size = k := ⟨_, ⟨rfl, by rw [ls_cut, show A + 1 + k - (A + 1) = k by omega]⟩, by rw [ByteArray.size_extract]; omega⟩
            go_wp2_with (first | rw [HH.out.1] | rw [HE.out.1])
            have i1 : (A : Int) < (S.size : Int) := by omega
            have HB : Hid (((ls S).drop A).take (k + 1) = c1 :: ls T) := by
              show _ = _
              rw [HC1.out, HT.out.2]; rfl
            have hTl : (ls T).length = k := by rw [ls_length]; exact hTz
            have HL : Hid ((c1 :: ls T).length = k + 1) := by show _ = _; simp [hTl]
            have HFL : Hid ((frameB (c1 :: ls T)).length = A + (k + 1) + 4) := by show _ = _; rw [frameB_len_eq HL.out, HA.out]
            have hc1b := c1.toNat_lt
            have HFA : Hid (frame (c1.toNat : Int) (ls T) = frameB (c1 :: ls T)) := by show _ = _; unfold frame body; rw [by8_nat]
            go_region
            rw [HT.out.1]
            go_wp2_with fail
            refine (refFrame_any _ T (by omega) (by omega) (by unfold maxLen; omega) _).mono ?_
            rintro e w3 ⟨rfl, hb3⟩
            have hbr3 := ((hbr2.alloc hbr2.size _).drew).trans (hb3.mono (by have := hbr2.size; simp at this; simp; omega))
            by_cases h4 : (4 : Int) ≤ (c1.toNat : Int)
            · rw [frameAns_label _ _ h4]
              have HN2 : Hid (NoneTo (ls S) (k + 1)) := HN.out.next fun b ok hp hb => by
                have := (frame_shape hp hb).2.2.1
                rw [HA.out, HB.out] at this
                rw [← this] at ok
                simp [bodyOk] at ok
                omega
              go_wp2
              go_roundw
              case rel => exact ⟨k + 1, by omega, by go_num, HN2, hbr3⟩
              case measure => simp [intOf]; omega
            · rw [frameAns_ok _ _ h4 (by omega), HFA.out]
              obtain ⟨Fb, HF, hFz⟩ : ∃ Fb : ByteArray, Hid (bs (frameB (c1 :: ls T)) = Fb) ∧ Fb.size = A + (k + 1) + 4 := ⟨_, (rfl : _ = _), by rw [bs_size]; exact HFL.out⟩
              rw [HF.out]
              obtain ⟨X, HX⟩ : ∃ X : ByteArray, Hid (S.extract 0 (A + (k + 1) + 4) = X ∧ ls X = (ls S).take (A + (k + 1) + 4)) := ⟨_, rfl, by rw [ls_cut]; simp⟩
              have hZS : A + (k + 1) + 4 ≤ S.size := by omega
              obtain ⟨q0, q1, g0, g1, hz3⟩ := zeroEx_cells hbr3
              have hz2 : w.heap.size < w2.heap.size := by have := hbr2.size; simp at this; omega
              have hz23 := hb3.size
              simp at hz23
              have k0 := (hb3.cell (p := ⟨w2.heap.size, 0, none⟩) (by simp)).trans (show _ = some (.int .u8 (c1.toNat : Int)) by simp [go_sem])
              have k1 := (hb3.cell (p := ⟨w2.heap.size, 1, none⟩) (by simp)).trans (show _ = some (.string T) by simp [go_sem])
              by_cases hXF : X = Fb
              · subst hXF
                have HAns : Hid (standAns (ls S) = (X, .agg #[.int .u8 (c1.toNat : Int), .string T])) := by
                  have hst : stand (ls S) = some (c1 :: ls T) := (stand_iff _ _).2 ⟨by simp [bodyOk]; omega, by
                    rw [List.prefix_iff_eq_take, HFL.out, ← HX.out.2, ← HF.out, ls_bs]⟩
                  show _ = _
                  rw [standAns_some hst, HF.out]
                  simp [exVal, bs_ls]
                go_wp2_with (rw [HX.out.1])
                go_region
                go_wp2
                refine bodyPost_ret (v := .tuple #[.string X, .agg #[.int .u8 (c1.toNat : Int), .string T]]) (by simp [results, Try.results61, go_sem, q0, q1]) rfl ?_
                refine ⟨ret_stand HAns.out, ?_⟩
                exact ((((Below.refl _ _).alloc (Nat.le_refl _) _).trans (hbr3.mono (by simp))).setCell (by simp) _ |>.setCell (by simp) _).drew
              · have hne : (X.toList == Fb.toList) = false := by
                  simp
                  intro h
                  exact hXF (ls_inj (by rw [ByteArray.toList_eq, ByteArray.toList_eq] at h; exact h))
                have HN2 : Hid (NoneTo (ls S) (k + 1)) := HN.out.next fun b ok hp hb => by
                  obtain ⟨_, _, f3, f4, f5⟩ := frame_shape hp hb
                  rw [HA.out, HB.out] at f3
                  rw [← f3, HFL.out, ← HX.out.2] at f5
                  exact hXF (ls_inj (by rw [f5, ← HF.out, ls_bs]))
                go_wp2_with (rw [HX.out.1])
                go_roundw
                case rel => exact ⟨k + 1, by omega, by go_num, HN2, hbr3⟩
                case measure => simp [intOf]; omega
          · have hne : (!E.toList == H.toList) = true := by
              simp
              intro h
              exact hEH (ls_inj (by rw [ByteArray.toList_eq, ByteArray.toList_eq] at h; exact h))
            have HN2 : Hid (NoneTo (ls S) (k + 1)) := HN.out.next fun b ok hp hb => by
              have := (frame_shape hp hb).2.1
              rw [HA.out, ← HE.out.2, ← HH.out.2] at this
              exact hEH (ls_inj this)
            go_wp2_with (first | rw [HH.out.1] | rw [HE.out.1])
            go_roundw
            case rel => exact ⟨k + 1, by omega, by go_num, HN2, hbr2⟩
            case measure => simp [intOf]; omega
      · obtain rfl : k = 201 := by omega
        have HAns : Hid (standAns (ls S) = (⟨#[]⟩, exZero)) := standAns_none HN.out.none
        obtain ⟨q0, q1, g0, g1, hz3⟩ := zeroEx_cells hbr
        go_wp2
        refine bodyPost_ret (v := .tuple #[.string ⟨#[]⟩, .agg #[.int .u8 0, .string ⟨#[]⟩]]) (by simp [results, Try.results61, go_sem, q0, q1]) rfl ?_
        refine ⟨ret_stand HAns.out, ?_⟩
        exact ((((Below.refl _ _).alloc (Nat.le_refl _) _).trans (hbr.mono (by simp))).setCell (by simp) _ |>.setCell (by simp) _)
  · have HAns : Hid (standAns (ls S) = (⟨#[]⟩, exZero)) := standAns_none (by rw [HC0.out]; exact stand_213 h213)
    have hcb : ((c0.toNat : Int) == 213) = false := by
      simp
      intro h
      exact h213 (by rw [← by8_nat c0, h]; rfl)
    go_enter Try.func61, Try.ntmps61
    go_wp2
    refine wp_loop_rounds 1 ?_
    rw [rounds_succ]
    go_wp2
    refine bodyPost_ret (v := .tuple #[.string ⟨#[]⟩, .agg #[.int .u8 0, .string ⟨#[]⟩]]) (by simp [results, Try.results61, go_sem]) rfl ?_
    exact ⟨ret_stand HAns.out, by go_grown⟩
end Go.Proofs.Ytfpodnleimhohaa
