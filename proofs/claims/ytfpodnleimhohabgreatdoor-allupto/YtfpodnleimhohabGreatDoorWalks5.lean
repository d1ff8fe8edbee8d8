/-
  WALKS: the record at a place.
-/
import Derived.Test.YtfpodnleimhohabGreatDoorWalks4
namespace Go.Proofs.YtfpodnleimhohabGreatDoor
open Go.RowKit
set_option linter.unusedVariables false

/-- A record as the program holds it; the empty one. -/
def recVal (p : Nat) (b : List UInt8) : Value := .agg #[.int .i64 p, .int .i64 ((p + (frameB b).length : Nat) : Int), .int .u8 ((b.headD 0).toNat : Int), .string (bs b.tail)]
def recZero : Value := .agg #[.int .i64 0, .int .i64 0, .int .u8 0, .string ⟨#[]⟩]
def recAns (l : List UInt8) (p : Nat) : Value × Bool :=
  match stand l with
  | some b => (recVal p b, true)
  | none => (recZero, false)
theorem recAns_none {l : List UInt8} (p : Nat) (h : stand l = none) : recAns l p = (recZero, false) := by simp [recAns, h]
theorem recAns_some {l b : List UInt8} (p : Nat) (h : stand l = some b) : recAns l p = (recVal p b, true) := by simp [recAns, h]
theorem ret_rec {l : List UInt8} {p : Nat} {a : Value} {c : Bool} (h : recAns l p = (a, c)) :
    Ending.returned (.tuple #[a, .bool c]) = .returned (.tuple #[(recAns l p).1, .bool (recAns l p).2]) := by rw [h]

set_option maxRecDepth 100000 in
set_option maxHeartbeats 400000 in
theorem recordAt_not (s : ByteArray) (p : Nat) (hs : s.size ≤ 600) (hp : p < s.size) (h : (s[p].toNat : Int) ≠ 213) (w : World) :
    Calls Tryz.prog 30 #[.string s, .int .i64 p] w fun e w' => e = .returned (.tuple #[recZero, .bool false]) ∧ Below w.heap.size w w' := by
  have hp0 : ¬ ((p : Int) < 0) := by omega
  obtain ⟨c, hc, h2⟩ : ∃ c, s[p] = c ∧ (((c.toNat : Int)) != 213) = true := ⟨s[p], rfl, by rw [bne_iff_ne]; exact h⟩
  clear h
  go_enter Tryz.func30, Tryz.ntmps30
  go_wp2
  go_returns
  exact ⟨rfl, (Below.refl _ _).alloc (Nat.le_refl _) _⟩

/-- The empty record, just laid, read in a later world. -/
theorem zeroRec_cells {w w1 : World} (hb : Below (w.alloc (.cells #[.int .i64 0, .int .i64 0, .int .u8 0, .string ⟨#[]⟩] 99)).heap.size (w.alloc (.cells #[.int .i64 0, .int .i64 0, .int .u8 0, .string ⟨#[]⟩] 99)) w1) :
    w1.cell? ⟨w.heap.size, 0, none⟩ = some (.int .i64 0) ∧ w1.cell? ⟨w.heap.size, 1, none⟩ = some (.int .i64 0) ∧ w1.cell? ⟨w.heap.size, 2, none⟩ = some (.int .u8 0) ∧ w1.cell? ⟨w.heap.size, 3, none⟩ = some (.string ⟨#[]⟩) ∧
    w1.frozen? ⟨w.heap.size, 0, none⟩ = false ∧ w1.frozen? ⟨w.heap.size, 1, none⟩ = false ∧ w1.frozen? ⟨w.heap.size, 2, none⟩ = false ∧ w1.frozen? ⟨w.heap.size, 3, none⟩ = false ∧ w.heap.size + 1 ≤ w1.heap.size := by
  have hz := hb.size
  obtain ⟨hc, hf⟩ := bcell hb
  simp at hz hc hf
  refine ⟨?_, ?_, ?_, ?_, ?_, ?_, ?_, ?_, hz⟩
  all_goals first | (rw [hc _ _ (by omega)]; simp [go_sem]) | (rw [hf _ _ (by omega)]; simp [go_sem])

theorem ls_zero (B : ByteArray) (h : 0 < B.size) : ls B = B[0] :: (ls B).tail := by
  have := drop_getElem B 0 h
  simpa using this

set_option maxRecDepth 100000 in
set_option maxHeartbeats 1000000 in
theorem recordAt_213 (s : ByteArray) (p : Nat) (hs : s.size ≤ 600) (hp : p < s.size) (h : (s[p].toNat : Int) = 213) (r : List UInt8) (hr : (ls s).drop (p + 1) = r) (w : World) :
    Calls Tryz.prog 30 #[.string s, .int .i64 p] w fun e w' => e = .returned (.tuple #[(recAns (213 :: r) p).1, .bool (recAns (213 :: r) p).2]) ∧ Below w.heap.size w w' := by
  have hp0 : ¬ ((p : Int) < 0) := by omega
  have HR : Hid ((ls s).drop (p + 1) = r) := hr
  have hrl : r.length = s.size - (p + 1) := by rw [← hr, List.length_drop, ls_length]
  obtain ⟨c, hc, h2⟩ : ∃ c, s[p] = c ∧ (((c.toNat : Int)) != 213) = false := ⟨s[p], rfl, by rw [h]; rfl⟩
  clear h hr
  go_enter Tryz.func30, Tryz.ntmps30
  go_wp2_with fail
  rw [show ((p : Int) + 1) = ((p + 1 : Nat) : Int) from by omega]
  refine (readVarint_any s (p + 1) (by unfold maxLen; omega) (by unfold maxLen; omega) _).mono ?_
  rintro e w1 ⟨rfl, hw1⟩
  subst hw1
  rw [HR.out]
  clear hc h2
  cases hrv : rv r with
  | none =>
    rw [rvAns_none _ hrv]
    have HA : Hid (recAns (213 :: r) p = _) := recAns_none p (stand_novar hrv)
    clear hrv
    go_wp2
    go_returns
    exact ⟨ret_rec HA.out, (Below.refl _ _).alloc (Nat.le_refl _) _⟩
  | some vk =>
    obtain ⟨v, k⟩ := vk
    rw [rvAns_some _ hrv]
    have HV : Hid _ := stand_var hrv
    obtain ⟨hv0, hvp, hk, q, hq⟩ := rv_some hrv
    have hkl : 1 ≤ k ∧ k ≤ 10 := by rw [hk]; exact var_length v
    have hkr : k ≤ r.length := by rw [hq, List.length_append, hk]; omega
    have hv1 : v ≤ 9223372036854775807 := by
      have : (128 : Int) ^ 9 = 9223372036854775808 := by decide
      omega
    clear hk hq hrv hvp
    by_cases hn : 1 ≤ v ∧ v ≤ 201
    · obtain ⟨hn1, hn2⟩ := hn
      obtain ⟨V, hV, hV1, hV2⟩ : ∃ V : Nat, v = (V : Int) ∧ 1 ≤ V ∧ V ≤ 201 := ⟨v.toNat, by omega, by omega, by omega⟩
      subst hV
      clear hv0 hv1
      have HN : Hid (1 ≤ (V : Int) ∧ (V : Int) ≤ 201) := ⟨hn1, hn2⟩
      clear hn1 hn2
      obtain ⟨F, hF⟩ : ∃ F : Nat, F = p + 1 + k := ⟨_, rfl⟩
      rw [show ((p + 1 : Nat) : Int) + (k : Int) = (F : Int) from by omega]
      have hFs : F ≤ s.size := by omega
      have hd1 : decide ((V : Int) < 1) = false := by simp; omega
      have hd2 : decide ((201 : Int) < V) = false := by simp; omega
      have HF : Hid (F = p + 1 + k ∧ r.length = s.size - (p + 1) ∧ 1 ≤ k ∧ k ≤ r.length) := ⟨hF, hrl, hkl.1, hkr⟩
      by_cases hto : F + V + 4 ≤ s.size
      · obtain ⟨B, HB, hBz⟩ : ∃ B : ByteArray, Hid (B = s.extract F (F + V) ∧ ls B = (r.drop k).take V) ∧ B.size = V :=
          ⟨s.extract F (F + V), ⟨rfl, by rw [ls_cut, ← HR.out, List.drop_drop, hF, show p + 1 + k + V - (p + 1 + k) = V by omega]⟩, by rw [ByteArray.size_extract]; omega⟩
        obtain ⟨T, HT, hTz⟩ : ∃ T : ByteArray, Hid (T = s.extract (F + V) (F + V + 4) ∧ ls T = (r.drop (k + V)).take 4) ∧ T.size = 4 :=
          ⟨s.extract (F + V) (F + V + 4), ⟨rfl, by rw [ls_cut, ← HR.out, List.drop_drop, hF, show p + 1 + k + V + 4 - (p + 1 + k + V) = 4 by omega, show p + 1 + (k + V) = p + 1 + k + V by omega]⟩, by rw [ByteArray.size_extract]; omega⟩
        have hd3 : decide ((s.size : Int) < (F : Int) + V + 4) = false := by simp; omega
        have hexB : Hid (s.extract F (F + V) = B) := HB.out.1.symm
        have hexT : Hid (s.extract (F + V) (F + V + 4) = T) := HT.out.1.symm
        have hB0 : 0 < B.size := by omega
        obtain ⟨c0, hc0, HC⟩ : ∃ c0, B[0] = c0 ∧ Hid (ls B = c0 :: (ls B).tail) := ⟨B[0], rfl, ls_zero B hB0⟩
        clear hF hrl hkl hkr
        by_cases h4 : (c0.toNat : Int) < 4
        · have hd4 : decide ((4 : Int) ≤ (c0.toNat : Int)) = false := by simp; omega
          go_wp2_with (first | rw [hexB.out] | rw [hexT.out])
          refine (sumBytes_any B (by unfold maxLen; omega) _).mono ?_
          rintro e w1 ⟨rfl, hb1⟩
          obtain ⟨C, hC, hCz⟩ : ∃ C : ByteArray, Hid (bs (le (crc (ls B)) 4) = C) ∧ C.size = 4 := ⟨_, (rfl : _ = _), by rw [bs_size, le_length]⟩
          rw [hC.out]
          obtain ⟨q0, q1, q2, q3, g0, g1, g2, g3, hz1⟩ := zeroRec_cells hb1
          obtain ⟨hFe, hrle, hk1, hkre⟩ := HF.out
          have HV3 : Hid _ := HV.out.2.2 HN.out.1 HN.out.2 (by rw [Int.toNat_natCast]; omega) c0 (ls B).tail (by rw [Int.toNat_natCast, ← HB.out.2]; exact HC.out)
          clear HV hFe hrle hk1 hkre
          by_cases hCT : C = T
          · have HA : Hid (recAns (213 :: r) p = (.agg #[.int .i64 p, .int .i64 ((F : Int) + V + 4), .int .u8 (c0.toNat : Int), .string (B.extract 1 B.size)], true)) := by
              have hh := HV3.out.2.2 (by omega) (by rw [Int.toNat_natCast, ← HC.out, ← HT.out.2, ← hCT, ← hC.out, ls_bs])
              show recAns (213 :: r) p = _
              rw [recAns_some p hh.1]
              obtain ⟨hFe, hrle, hk1, hkre⟩ := HF.out
              have hfl := hh.2
              rw [Int.toNat_natCast] at hfl
              simp only [recVal, Prod.mk.injEq, and_true, List.headD_cons, List.tail_cons]
              rw [hfl, show bs (ls B).tail = B.extract 1 B.size from ls_inj (by rw [ls_bs, ls_extract, List.drop_one])]
              rw [show ((p + (1 + k + V + 4) : Nat) : Int) = (F : Int) + V + 4 by omega]
            clear HV3 hC
            subst hCT
            go_wp2_with (first | rw [hexB.out] | rw [hexT.out])
            have hB1 : (1 : Int) ≤ (B.size : Int) := by omega
            rw [hBz] at HA
            have hz2 : w.heap.size < w1.heap.size := by omega
            go_region
            go_wp2
            refine bodyPost_ret (v := .tuple #[.agg #[.int .i64 p, .int .i64 ((F : Int) + V + 4), .int .u8 (c0.toNat : Int), .string (B.extract 1 V)], .bool true]) (by simp [results, Tryz.results30, go_sem, q0, q1, q2, q3, hz2]) rfl ?_
            refine ⟨ret_rec HA.out, ?_⟩
            exact ((((((Below.refl _ _).alloc (Nat.le_refl _) _).trans (hb1.mono (by simp))).setCell (by simp) _ |>.setCell (by simp) _ |>.setCell (by simp) _ |>.setCell (by simp) _).alloc (by simp; omega) _).drew)
          · have hne : (!C.toList == T.toList) = true := by
              simp
              intro h
              exact hCT (ls_inj (by rw [ByteArray.toList_eq, ByteArray.toList_eq] at h; exact h))
            have HA : Hid (recAns (213 :: r) p = (recZero, false)) := recAns_none p (HV3.out.2.1 (by
              intro h
              rw [Int.toNat_natCast, ← HC.out, ← HT.out.2] at h
              exact hCT (by rw [← hC.out, h, bs_ls])))
            clear HV3 hC hCT
            go_wp2_with (first | rw [hexB.out] | rw [hexT.out])
            refine bodyPost_ret (v := .tuple #[.agg #[.int .i64 0, .int .i64 0, .int .u8 0, .string ⟨#[]⟩], .bool false]) (by simp [results, Tryz.results30, go_sem, q0, q1, q2, q3]) rfl ?_
            refine ⟨ret_rec HA.out, ?_⟩
            exact ((((Below.refl _ _).alloc (Nat.le_refl _) _).trans (hb1.mono (by simp))).setCell (by simp) _ |>.setCell (by simp) _ |>.setCell (by simp) _ |>.setCell (by simp) _)
        · have hd4 : decide ((4 : Int) ≤ (c0.toNat : Int)) = true := by simp; omega
          have HA : Hid (recAns (213 :: r) p = (recZero, false)) := by
            obtain ⟨hFe, hrle, hk1, hkre⟩ := HF.out
            exact recAns_none p ((HV.out.2.2 HN.out.1 HN.out.2 (by rw [Int.toNat_natCast]; omega) c0 (ls B).tail (by rw [Int.toNat_natCast, ← HB.out.2]; exact HC.out)).1 (by omega))
          clear HV
          go_wp2_with (first | rw [hexB.out] | rw [hexT.out])
          go_returns
          exact ⟨ret_rec HA.out, (Below.refl _ _).alloc (Nat.le_refl _) _⟩
      · have HA : Hid (recAns (213 :: r) p = _) := recAns_none p (HV.out.2.1 HN.out.1 HN.out.2 (by omega))
        have hlt : (s.size : Int) < (F : Int) + V + 4 := by omega
        clear HV hF hrl hkl hkr
        go_wp2
        go_returns
        exact ⟨ret_rec HA.out, (Below.refl _ _).alloc (Nat.le_refl _) _⟩
    · have HA : Hid (recAns (213 :: r) p = _) := recAns_none p (HV.out.1 hn)
      clear HV
      by_cases hv : v < 1
      · go_wp2
        go_returns
        exact ⟨ret_rec HA.out, (Below.refl _ _).alloc (Nat.le_refl _) _⟩
      · have hv2 : 201 < v := by omega
        go_wp2
        go_returns
        exact ⟨ret_rec HA.out, (Below.refl _ _).alloc (Nat.le_refl _) _⟩

theorem recordAt_any (s : ByteArray) (p : Nat) (hs : s.size ≤ 600) (hp : p < s.size) (w : World) :
    Calls Tryz.prog 30 #[.string s, .int .i64 p] w fun e w' => e = .returned (.tuple #[(recAns ((ls s).drop p) p).1, .bool (recAns ((ls s).drop p) p).2]) ∧ Below w.heap.size w w' := by
  have hd := drop_getElem s p hp
  by_cases h : (s[p].toNat : Int) = 213
  · have hc : s[p] = 213 := by
      rw [← by8_nat s[p], h]; rfl
    rw [hd, hc]
    exact recordAt_213 s p hs hp h _ rfl w
  · have hc : s[p] ≠ 213 := by
      intro e; rw [e] at h; exact h rfl
    rw [hd, recAns_none p (stand_213 hc)]
    exact recordAt_not s p hs hp h w
end Go.Proofs.YtfpodnleimhohabGreatDoor
