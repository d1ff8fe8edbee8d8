import Derived.Test.YtfpodnleimhohabGreatDoorGS
import Derived.Test.YtfpodnleimhohabGreatDoorWalksZ
import Derived.Test.YtfpodnleimhohabGreatDoorWalks4
import Derived.Test.YtfpodnleimhohabGreatDoorSEF
/-
  WALKS: a run as bytes (the document's).
-/
namespace Go.Proofs.YtfpodnleimhohabGreatDoor
open Go.RowKit
set_option linter.unusedVariables false

set_option maxRecDepth 100000 in
set_option maxHeartbeats 4000000 in
theorem refMark_any (cf : Cf) (hcf : cf.Ok) (s : ByteArray) (hs : s.size ≤ 600) (w : World) :
    Calls Tryz.prog 43 #[.agg #[.int .u64 cf.seed, .int .u8 cf.batch, .int .i32 cf.rate, .int .i32 cf.mom, .int .u8 cf.decay], .string s] w fun e w' => e = .returned (.int .u32 (crc (markL cf (ls s)))) ∧ Below w.heap.size w w' := by
  obtain ⟨A, HA, hAz⟩ : ∃ A, Hid (bs (le (cf.seed : Int) 8) = A) ∧ A.size = 8 := ⟨_, (rfl : _ = _), by rw [bs_size, le_length]⟩
  obtain ⟨C, HC, hCz⟩ : ∃ C, Hid (bs (le (cf.batch : Int) 1) = C) ∧ C.size = 1 := ⟨_, (rfl : _ = _), by rw [bs_size]; rfl⟩
  obtain ⟨D, HD, hDz⟩ : ∃ D, Hid (bs (le (cf.rate : Int) 4) = D) ∧ D.size = 4 := ⟨_, (rfl : _ = _), by rw [bs_size, le_length]⟩
  obtain ⟨E, HE, hEz⟩ : ∃ E, Hid (bs (le (cf.mom : Int) 4) = E) ∧ E.size = 4 := ⟨_, (rfl : _ = _), by rw [bs_size, le_length]⟩
  obtain ⟨F, HF, hFz⟩ : ∃ F, Hid (bs (le (cf.decay : Int) 1) = F) ∧ F.size = 1 := ⟨_, (rfl : _ = _), by rw [bs_size]; rfl⟩
  have hsd := hcf.seed
  have hbt := hcf.batch8
  have hra := hcf.rate
  have hmo := hcf.mom
  have hde := hcf.decay
  have HM : Hid (markL cf (ls s) = ls (A ++ C ++ D ++ E ++ F ++ s)) := by
    show _ = _
    have e1 : ∀ x : Nat, x ≤ 31 → le (x : Int) 1 = [by8 (x : Int)] := fun x hx => by
      show [by8 ((x : Int) % 256)] = _
      rw [Int.emod_eq_of_lt (by omega) (by omega)]
    simp only [ls_append, ← HA.out, ← HC.out, ← HD.out, ← HE.out, ← HF.out, ls_bs, e1 _ (show cf.batch ≤ 31 by omega), e1 _ hde]
    unfold markL
    simp
  rw [HM.out]
  obtain ⟨sd, bt, ra, mo, de⟩ := cf
  simp only at *
  clear HM
  have hwb : IntKind.u64.wrap (bt : Int) = (bt : Int) := by rw [IntKind.wrap_u64]; omega
  have hwr : IntKind.u64.wrap (ra : Int) = (ra : Int) := by rw [IntKind.wrap_u64]; omega
  have hwm : IntKind.u64.wrap (mo : Int) = (mo : Int) := by rw [IntKind.wrap_u64]; omega
  have hwd : IntKind.u64.wrap (de : Int) = (de : Int) := by rw [IntKind.wrap_u64]; omega
  have lit : ∀ (x : Int) (m : Nat) (Z : ByteArray), 0 ≤ x → x ≤ 18446744073709551615 → m ≤ 1000 → bs (le x m) = Z → ∀ w1, Calls Tryz.prog 44 #[.int .u64 x, .int .i64 m] w1 fun e w' => e = .returned (.string Z) ∧ Below w1.heap.size w1 w' := fun x m Z h1 h2 h3 hz w1 => hz ▸ little_any x m h1 h2 h3 w1
  have HLA : Hid (∀ w1, Calls Tryz.prog 44 #[.int .u64 sd, .int .i64 8] w1 fun e w' => e = .returned (.string A) ∧ Below w1.heap.size w1 w') := lit sd 8 A (by omega) (by omega) (by omega) HA.out
  have HLC : Hid (∀ w1, Calls Tryz.prog 44 #[.int .u64 bt, .int .i64 1] w1 fun e w' => e = .returned (.string C) ∧ Below w1.heap.size w1 w') := lit bt 1 C (by omega) (by omega) (by omega) HC.out
  have HLD : Hid (∀ w1, Calls Tryz.prog 44 #[.int .u64 ra, .int .i64 4] w1 fun e w' => e = .returned (.string D) ∧ Below w1.heap.size w1 w') := lit ra 4 D (by omega) (by omega) (by omega) HD.out
  have HLE : Hid (∀ w1, Calls Tryz.prog 44 #[.int .u64 mo, .int .i64 4] w1 fun e w' => e = .returned (.string E) ∧ Below w1.heap.size w1 w') := lit mo 4 E (by omega) (by omega) (by omega) HE.out
  have HLF : Hid (∀ w1, Calls Tryz.prog 44 #[.int .u64 de, .int .i64 1] w1 fun e w' => e = .returned (.string F) ∧ Below w1.heap.size w1 w') := lit de 1 F (by omega) (by omega) (by omega) HF.out
  clear lit
  have q1 : (A ++ C).size = 9 := by rw [ByteArray.size_append]; omega
  have q2 : (A ++ C ++ D).size = 13 := by rw [ByteArray.size_append]; omega
  have q3 : (A ++ C ++ D ++ E).size = 17 := by rw [ByteArray.size_append]; omega
  have q4 : (A ++ C ++ D ++ E ++ F).size = 18 := by rw [ByteArray.size_append]; omega
  have q5 : (A ++ C ++ D ++ E ++ F ++ s).size = 18 + s.size := by rw [ByteArray.size_append]; omega
  obtain ⟨w0, Hw0⟩ : ∃ w0, Hid (w.alloc (.cells #[.int .u64 sd, .int .u8 bt, .int .i32 ra, .int .i32 mo, .int .u8 de] 24) = w0) := ⟨_, (rfl : _ = _)⟩
  have HB0 : Hid (Below w.heap.size w w0) := by rw [← Hw0.out]; exact (Below.refl _ _).alloc (Nat.le_refl _) _
  have HC0 : Hid (CellsAt w0 w.heap.size 24 [.int .u64 sd, .int .u8 bt, .int .i32 ra, .int .i32 mo, .int .u8 de]) := by rw [← Hw0.out]; exact CellsAt.new w _ _ _ rfl rfl
  have HK : Hid (∀ w', Below w0.heap.size w0 w' → Hid (Below w0.heap.size w0 w') ∧ w'.cell? ⟨w.heap.size, 0, none⟩ = some (.int .u64 sd) ∧ w'.cell? ⟨w.heap.size, 1, none⟩ = some (.int .u8 bt) ∧ w'.cell? ⟨w.heap.size, 2, none⟩ = some (.int .i32 ra) ∧ w'.cell? ⟨w.heap.size, 3, none⟩ = some (.int .i32 mo) ∧ w'.cell? ⟨w.heap.size, 4, none⟩ = some (.int .u8 de)) := fun w' hb => by
    have h := CellsAt.later HC0.out hb
    exact ⟨hb, CellsAt.cell h 0, CellsAt.cell h 1, CellsAt.cell h 2, CellsAt.cell h 3, CellsAt.cell h 4⟩
  go_enter Tryz.func43, Tryz.ntmps43
  go_wp2_with fail
  rw [Hw0.out]
  go_region_held_law (fun w' => Hid (Below w0.heap.size w0 w') ∧ w'.cell? ⟨w.heap.size, 0, none⟩ = some (.int .u64 sd) ∧ w'.cell? ⟨w.heap.size, 1, none⟩ = some (.int .u8 bt) ∧ w'.cell? ⟨w.heap.size, 2, none⟩ = some (.int .i32 ra) ∧ w'.cell? ⟨w.heap.size, 3, none⟩ = some (.int .i32 mo) ∧ w'.cell? ⟨w.heap.size, 4, none⟩ = some (.int .u8 de)) (first | exact HK.out _ hB.out | exact HK.out _ (Below.refl _ _).drew | go_keep) (first | (go_at_call 44; (first | (refine (HLA.out _).mono ?_; clear HLA) | (refine (HLC.out _).mono ?_; clear HLC) | (refine (HLD.out _).mono ?_; clear HLD) | (refine (HLE.out _).mono ?_; clear HLE) | (refine (HLF.out _).mono ?_; clear HLF)); rintro e w' ⟨rfl, hb⟩; have hB : Hid (Below w0.heap.size w0 w') := (‹Hid (Below w0.heap.size w0 _) ∧ _›).1.out.trans (hb.mono (‹Hid (Below w0.heap.size w0 _) ∧ _›).1.out.size); clear hb))
  have HB5 : Hid (Below w.heap.size w w') := HB0.out.trans (hB.out.mono HB0.out.size)
  clear hB HK HB0 HC0
  go_wp2_with fail
  refine (refSum_any _ (by unfold maxLen; omega) _).mono ?_
  rintro e w9 ⟨rfl, hw⟩
  have hw' := hw.symm
  clear hw
  subst hw'
  go_wp2
  go_ret
  exact ⟨rfl, HB5.out⟩
end Go.Proofs.YtfpodnleimhohabGreatDoor

/-
  WALKS: a table of numbers read back (the document's).
-/
namespace Go.Proofs.YtfpodnleimhohabGreatDoor
open Go.RowKit
set_option linter.unusedVariables false
set_option linter.unusedSimpArgs false

section
variable {L : List UInt8} {k : Nat} {N U : Int} {c : UInt8} {r : List UInt8}
theorem sd_bad (HF : rv6 L = rvF (6 - k) N U k (L.drop k)) (HD : L.drop k = c :: r) (hk : k < 6) (h : (c.toNat : Int) < 128) (h2 : (c.toNat : Int) = 0) (h3 : 0 < k) : rv6 L = none := by
  rw [HF, HD, show 6 - k = (5 - k) + 1 by omega]
  exact rvF_bad (by omega) ⟨by omega, h3⟩
theorem sd_last (HF : rv6 L = rvF (6 - k) N U k (L.drop k)) (HD : L.drop k = c :: r) (hk : k < 6) (h : (c.toNat : Int) < 128) (h2 : ¬ ((c.toNat : Int) = 0 ∧ 0 < k)) : rv6 L = some (N + (c.toNat : Int) % 128 * U, k + 1) := by
  rw [HF, HD, show 6 - k = (5 - k) + 1 by omega]
  exact rvF_last (by omega) (by omega)
theorem sd_more (HF : rv6 L = rvF (6 - k) N U k (L.drop k)) (HD : L.drop k = c :: r) (hr : r = L.drop (k + 1)) (hk : k < 6) (h : 128 ≤ (c.toNat : Int)) : rv6 L = rvF (6 - (k + 1)) (N + (c.toNat : Int) % 128 * U) (U * 128) (k + 1) (L.drop (k + 1)) := by
  rw [HF, HD, show 6 - k = (6 - (k + 1)) + 1 by omega, rvF_more (by omega), hr]
theorem sd_end (HF : rv6 L = rvF (6 - k) N U k (L.drop k)) (h : 6 ≤ k ∨ L.length ≤ k) : rv6 L = none := by
  rw [HF]
  rcases h with h | h
  · rw [show 6 - k = 0 by omega]; rfl
  · rw [List.drop_eq_nil_of_le h, rvF_nil]
end
/-- What number answers. -/
def NumIs (s : ByteArray) (e : Ending) : Prop :=
  ∃ (N : Int) (R : ByteArray) (b : Bool), e = .returned (.tuple #[.int .u64 N, .string R, .bool b]) ∧ 0 ≤ N ∧ N ≤ 4398046511103 ∧ R.size ≤ s.size ∧ ((b = true ∧ ∃ k, rv6 (ls s) = some (N, k) ∧ ls R = (ls s).drop k) ∨ (b = false ∧ rv6 (ls s) = none))

set_option maxRecDepth 4000 in
set_option maxHeartbeats 2000000 in
theorem refNumber_any (s : ByteArray) (hs : s.size ≤ maxLen) (w : World) :
    Calls Tryz.prog 74 #[.string s] w fun e w' => NumIs s e ∧ ∃ k, w' = w.drewN k := by
  unfold maxLen at hs
  go_enter Tryz.func74, Tryz.ntmps74
  go_wp2
  go_loop [5, 6, 7] (fun n u i => ∃ (k : Nat) (N U : Int), k ≤ 6 ∧ k ≤ s.size ∧ i = .int .i64 k ∧ n = .int .u64 N ∧ u = .int .u64 U ∧ 0 ≤ N ∧ N < U ∧ Hid (U = 128 ^ k) ∧ Hid (rv6 (ls s) = rvF (6 - k) N U k ((ls s).drop k))) (fun _ _ i => s.size - (intOf i).toNat)
  case atStart => exact ⟨0, 0, 1, by omega, by omega, rfl, rfl, rfl, by omega, by omega, (rfl : _ = _), (rfl : _ = _)⟩
  case round =>
    obtain ⟨k, N, U, hk6, hkR, rfl, rfl, rfl, hN0, hNU, HU, HF⟩ := hrel
    by_cases hkl : k < s.size
    · by_cases hk : k < 6
      · have hU : 1 ≤ U ∧ U ≤ 34359738368 := by
          rw [HU.out]
          match k, hk with
          | 0, _ => decide
          | 1, _ => decide
          | 2, _ => decide
          | 3, _ => decide
          | 4, _ => decide
          | 5, _ => decide
        obtain ⟨hU1, hU2⟩ := hU
        obtain ⟨c, hcR, HD⟩ : ∃ c, s[k] = c ∧ Hid ((ls s).drop k = c :: (ls s).drop (k + 1)) := ⟨s[k], rfl, drop_getElem s k hkl⟩
        have hc8 : (c.toNat : Int) < 256 := by have := c.toNat_lt; omega
        have hm0 : 0 ≤ (c.toNat : Int) % 128 * U := Int.mul_nonneg (by omega) (by omega)
        have hm1 : (c.toNat : Int) % 128 * U ≤ 127 * U := Int.mul_le_mul_of_nonneg_right (by omega) (by omega)
        obtain ⟨R, HR, hRz⟩ : ∃ R : ByteArray, Hid (s.extract (k + 1) s.size = R ∧ ls R = (ls s).drop (k + 1)) ∧ R.size ≤ s.size := ⟨s.extract (k + 1) s.size, ⟨rfl, ls_extract s (k + 1)⟩, by rw [ByteArray.size_extract]; omega⟩
        by_cases h128 : (c.toNat : Int) < 128
        · have HLs : Hid (rv6 (ls s) = none ∨ rv6 (ls s) = some (N + (c.toNat : Int) % 128 * U, k + 1)) := by
            by_cases h2 : (c.toNat : Int) = 0 ∧ 0 < k
            · exact .inl (sd_bad HF.out HD.out hk h128 h2.1 h2.2)
            · exact .inr (sd_last HF.out HD.out hk h128 h2)
          have hx1 : N + (c.toNat : Int) % 128 * U ≤ 4398046511103 := by omega
          go_wp2_with fail
          obtain ⟨x, Hx⟩ : ∃ x, Hid (N + (c.toNat : Int) % 128 * U = x) := ⟨_, (rfl : _ = _)⟩
          rw [Hx.out] at HLs hx1 ⊢
          have hx0 : 0 ≤ x := by rw [← Hx.out]; omega
          obtain ⟨k1, Hk1⟩ : ∃ k1, Hid (k + 1 = k1) := ⟨_, (rfl : _ = _)⟩
          rw [Hk1.out] at HR HLs
          have hk1 : (k : Int) + 1 = (k1 : Int) := by rw [← Hk1.out]; rfl
          have hk1l : k1 ≤ s.size := by rw [← Hk1.out]; omega
          by_cases hk0 : k = 0
          · have e1 : ((k : Int) == 0) = true := by rw [hk0]; rfl
            have HLs2 : Hid (rv6 (ls s) = some (x, k1)) := by
              show _ = _
              rw [sd_last HF.out HD.out hk h128 (by omega), Hx.out, Hk1.out]
            go_quiet (fail)
            go_wp2
            go_ret3
            refine ⟨⟨x, _, true, rfl, hx0, hx1, ?_, .inl ⟨rfl, k1, HLs2.out, ?_⟩⟩, _, rfl⟩
            · rw [ByteArray.size_extract]; omega
            · rw [ls_extract, ← Hk1.out, hk0]
          · have e1 : ((k : Int) == 0) = false := beq_eq_false_iff_ne.2 (by omega)
            by_cases hc0 : (c.toNat : Int) = 0
            · have e2 : decide ((0 : Int) < (c.toNat : Int)) = false := decide_eq_false (by omega)
              go_quiet (fail)
              go_wp2
              go_ret3
              exact ⟨⟨x, _, false, rfl, hx0, hx1, by rw [ByteArray.size_extract]; omega, .inr ⟨rfl, sd_bad HF.out HD.out hk h128 hc0 (by omega)⟩⟩, _, rfl⟩
            · have e2 : decide ((0 : Int) < (c.toNat : Int)) = true := decide_eq_true (by omega)
              go_quiet (fail)
              have e3 : decide (0 < c.toNat) = true := decide_eq_true (by omega)
              rw [e3]
              have HLs2 : Hid (rv6 (ls s) = some (x, k1)) := by
                show _ = _
                rw [sd_last HF.out HD.out hk h128 (by omega), Hx.out, Hk1.out]
              go_wp2
              go_ret3
              exact ⟨⟨x, _, true, rfl, hx0, hx1, by rw [ByteArray.size_extract]; omega, .inl ⟨rfl, k1, HLs2.out, ls_extract s k1⟩⟩, _, rfl⟩
        · go_wp2
          go_round
          case rel => exact ⟨k + 1, _, _, by omega, by omega, by go_num, rfl, rfl, by omega, by omega, (by show U * 128 = 128 ^ (k + 1); rw [HU.out, Int.pow_succ]), sd_more HF.out HD.out rfl hk (by omega)⟩
          case measure => simp [intOf]; omega
      · go_wp2
        go_ret3
        exact ⟨⟨0, s, false, rfl, by omega, by omega, Nat.le_refl _, .inr ⟨rfl, sd_end HF.out (.inl (by omega))⟩⟩, 0, rfl⟩
    · go_wp2
      go_ret3
      exact ⟨⟨0, s, false, rfl, by omega, by omega, Nat.le_refl _, .inr ⟨rfl, sd_end HF.out (.inr (by rw [ls_length]; omega))⟩⟩, 0, rfl⟩

set_option maxHeartbeats 400000 in
theorem whole_any (n : Int) (h0 : 0 ≤ n) (h1 : n ≤ 4398046511103) (w : World) :
    Calls Tryz.prog 91 #[.int .u64 n] w fun e w' => e = .returned (.int .i64 (wh n)) ∧ w' = w := by
  by_cases ho : n % 2 = 1
  · have HW : Hid (wh n = -(n / 2) - 1) := wh_odd ho
    have e0 : (n % 2 == 0) = false := beq_eq_false_iff_ne.2 (by omega)
    rw [HW.out]
    go_enter Tryz.func91, Tryz.ntmps91
    go_wp2
    go_ret
    exact ⟨rfl, rfl⟩
  · have HW : Hid (wh n = n / 2) := wh_even ho
    have e0 : (n % 2 == 0) = true := by rw [show n % 2 = 0 by omega]; rfl
    rw [HW.out]
    go_enter Tryz.func91, Tryz.ntmps91
    go_wp2
    go_ret
    exact ⟨rfl, rfl⟩
end Go.Proofs.YtfpodnleimhohabGreatDoor

/-
  WALKS: a table (the document's).
-/
namespace Go.Proofs.YtfpodnleimhohabGreatDoor
open Go.RowKit
set_option linter.unusedVariables false
set_option linter.unusedSimpArgs false

theorem zero_t128 : Tryz.zeroCells63 = (tab 128 fun _ => 0).toArray := by kernel_rfl
theorem ObAt.drewN {w wr : World} {B : Nat} {t : TypeId} {zc oc : List Value} (h : ObAt w wr B t zc oc) (n : Nat) : ObAt w (wr.drewN n) B t zc oc := ⟨h.z, h.o, below_drewN h.l n⟩

set_option maxRecDepth 100000 in
set_option maxHeartbeats 8000000 in
theorem table_any (s : ByteArray) (hs : s.size ≤ maxLen) (m : Int) (hm0 : 0 ≤ m) (hm : m ≤ 1073741824) (w : World) :
    Calls Tryz.prog 75 #[.string s, .int .i64 m] w fun e w' =>
      (∃ F R b, e = .returned (.tuple #[.agg (tab 128 F).toArray, .string R, .bool b]) ∧ R.size ≤ s.size ∧ ((b = true ∧ rt m 128 0 (fun _ => 0) (ls s) = some (F, ls R)) ∨ (b = false ∧ rt m 128 0 (fun _ => 0) (ls s) = none))) ∧ Below w.heap.size w w' := by
  have hsm := hs
  unfold maxLen at hs
  obtain ⟨w2, Hw2⟩ : ∃ w2, Hid ((w.alloc (.cells Tryz.zeroCells63 63)).alloc (.cells Tryz.zeroCells63 63) = w2) := ⟨_, (rfl : _ = _)⟩
  have H0 : Hid (ObAt w w2 w.heap.size 63 (tab 128 fun _ => 0) (tab 128 fun _ => 0)) := by
    rw [← Hw2.out]
    exact ⟨(CellsAt.new _ _ _ _ zero_t128 rfl).alloc _, CellsAt.new _ _ _ _ zero_t128 (by simp), ((Below.refl _ _).alloc (Nat.le_refl _) _).alloc (by simp) _⟩
  obtain ⟨zt, Hzt⟩ : ∃ zt, Hid (tab 128 (fun _ => (0 : Int)) = zt) := ⟨_, (rfl : _ = _)⟩
  have HztL : Hid (zt.length = 128) := by show _ = _; rw [← Hzt.out, tab_length]
  obtain ⟨L, HL⟩ : ∃ L, Hid (ls s = L) := ⟨_, (rfl : _ = _)⟩
  rw [HL.out]
  go_enter Tryz.func75, Tryz.ntmps75
  go_wp2_with fail
  rw [Hw2.out]
  clear Hw2
  go_loopw [0, 8] (fun sv cv wr => ∃ (c : Nat) (S : ByteArray) (F : Nat → Int), c ≤ 4 ∧ cv = .int .i64 c ∧ sv = .string S ∧ S.size ≤ s.size ∧ Hid (rt m 128 0 (fun _ => 0) L = rt m (128 - c * 32) (c * 32) F (ls S) ∧ ObAt w wr w.heap.size 63 zt (tab 128 F))) (fun _ c _ => 4 - (intOf c).toNat)
  case atStart => exact ⟨0, s, fun _ => 0, by omega, rfl, rfl, Nat.le_refl _, ⟨by rw [HL.out], by rw [← Hzt.out]; exact H0.out⟩⟩
  case round =>
    obtain ⟨c, S, F, hc, rfl, rfl, hS, HT⟩ := hrel
    clear H0
    by_cases hlt : c < 4
    · go_wp2_with fail
      generalize decide ((c : Int) < 4) = q4
      go_loopg [0, 9] 32 (fun gk sv bv wq => ∃ (b : Nat) (S : ByteArray) (F : Nat → Int), gk + b = 32 ∧ bv = .int .i64 b ∧ sv = .string S ∧ S.size ≤ s.size ∧ Hid (rt m 128 0 (fun _ => 0) L = rt m (128 - (c * 32 + b)) (c * 32 + b) F (ls S) ∧ ObAt w wq w.heap.size 63 zt (tab 128 F)))
      case atStart => exact ⟨0, S, F, by omega, rfl, rfl, hS, HT⟩
      case round =>
        obtain ⟨b, S', F', hb, rfl, rfl, hS', HU⟩ := hrel
        clear HT hS
        by_cases hbl : b < 32
        · go_wp2_with fail
          refine (refNumber_any S' (by unfold maxLen; omega) _).mono ?_
          rintro e w3 ⟨⟨N, R, ok, rfl, hN0, hN1, hR, hok⟩, n3, rfl⟩
          have HO3 : Hid (ObAt w (wr.drewN n3) w.heap.size 63 zt (tab 128 F')) := HU.out.2.drewN n3
          have HE : Hid (rt m 128 0 (fun _ => 0) L = rt m ((127 - (c * 32 + b)) + 1) (c * 32 + b) F' (ls S')) := by
            have h := HU.out.1
            rw [show 128 - (c * 32 + b) = (127 - (c * 32 + b)) + 1 by omega] at h
            exact h
          generalize wr.drewN n3 = w3 at *
          have Hok : Hid _ := hok
          clear hok HU
          go_wp2_with fail
          refine (whole_any N hN0 hN1 _).mono ?_
          rintro e w4 ⟨rfl, hw⟩
          have hw' := hw.symm
          clear hw
          subst hw'
          obtain ⟨x, Hx⟩ : ∃ x, Hid (wh N = x) := ⟨_, (rfl : _ = _)⟩
          rw [Hx.out]
          have HTh : Hid (w3.there w.heap.size 0 (tab 128 F').toArray.size) := by
            have := CellsAt.there HO3.out.z
            rw [HztL.out] at this
            show w3.there w.heap.size 0 (tab 128 F').length
            rw [tab_length]
            exact this
          cases ok with
          | false =>
            have Hno : Hid (rt m 128 0 (fun _ => 0) L = none) := by
              show _ = _
              rw [HE.out]
              rcases Hok.out with ⟨h, _⟩ | ⟨_, h⟩
              · simp at h
              · exact rt_none (rdN_no6 hm h)
            obtain ⟨cs, Hcs⟩ : ∃ cs, Hid (tab 128 F' = cs) := ⟨_, (rfl : _ = _)⟩
            have HcsL : Hid (cs.length = 128) := by show _ = _; rw [← Hcs.out]; exact tab_length _ _
            have HcsO : Hid (∀ u ∈ cs, u.oneCell' = true) := by show ∀ u ∈ cs, _; rw [← Hcs.out]; exact tab_one _ _
            have HI : Hid ((Tryz.prog.info? 63).map (·.size) = some cs.length) := by show _ = _; rw [HcsL.out]; exact info_t128
            have HI2 : Hid ((Tryz.prog.info? 63).map (·.size) = some cs.toArray.size) := by show _ = _; rw [List.size_toArray]; exact HI.out
            have HRg : Hid (w3.rangeAt (w.heap.size + 1) 0 cs) := by rw [← Hcs.out]; exact CellsAt.range HO3.out.o
            rw [Hcs.out] at HTh
            have HBw : Hid (Below w.heap.size w w3) := HO3.out.l
            clear HE HO3
            go_wp2_with (first
              | (refine wpList_load_mid rfl 63 (.tmp 7) rfl _ _ rfl cs _ HRg.out Tryz.underlying63 rfl HI.out ?_)
              | (refine wpList_store_mid rfl 63 (.tmp 4) (.tmp 43) rfl _ _ cs.toArray rfl rfl HTh.out HI2.out (all_oneCell_toArray HcsO.out) ?_))
            have hld := run_loadVar_mid (P := Tryz.prog) (w3.setCells w.heap.size 0 cs) w.heap.size 0 63 cs _ (World.rangeAt_setCells_same _ _ _ _ (by have := HTh.out; rw [List.size_toArray] at this; exact this)) Tryz.underlying63 rfl HI.out
            refine bodyPost_ret (v := .tuple #[.agg cs.toArray, .string S', .bool false]) ?_ rfl ⟨⟨F', S', false, by rw [Hcs.out], hS', .inr ⟨rfl, Hno.out⟩⟩, below_setCells (Nat.le_refl _) cs 0 HBw.out⟩
            simp [results, Tryz.results75, asAddr, hld, Act.put]
          | true =>
            obtain ⟨k, hk6, hkR⟩ : ∃ k, rv6 (ls S') = some (N, k) ∧ ls R = (ls S').drop k := by
              rcases Hok.out with ⟨_, h⟩ | ⟨h, _⟩
              · exact h
              · simp at h
            have HX : Hid (rv (ls S') = some (N, k) ∧ ls R = (ls S').drop k) := ⟨rv6_some hk6, hkR⟩
            clear hk6 hkR Hok
            by_cases hx2 : m < x
            · have Hno : Hid (rt m 128 0 (fun _ => 0) L = none) := by
                show _ = _
                rw [HE.out]
                exact rt_none (rdN_out HX.out.1 (by rw [Hx.out]; omega))
              obtain ⟨cs, Hcs⟩ : ∃ cs, Hid (tab 128 F' = cs) := ⟨_, (rfl : _ = _)⟩
              have HcsL : Hid (cs.length = 128) := by show _ = _; rw [← Hcs.out]; exact tab_length _ _
              have HcsO : Hid (∀ u ∈ cs, u.oneCell' = true) := by show ∀ u ∈ cs, _; rw [← Hcs.out]; exact tab_one _ _
              have HI : Hid ((Tryz.prog.info? 63).map (·.size) = some cs.length) := by show _ = _; rw [HcsL.out]; exact info_t128
              have HI2 : Hid ((Tryz.prog.info? 63).map (·.size) = some cs.toArray.size) := by show _ = _; rw [List.size_toArray]; exact HI.out
              have HRg : Hid (w3.rangeAt (w.heap.size + 1) 0 cs) := by rw [← Hcs.out]; exact CellsAt.range HO3.out.o
              rw [Hcs.out] at HTh
              have HBw : Hid (Below w.heap.size w w3) := HO3.out.l
              clear HE HO3
              go_wp2_with (first
                | (refine wpList_load_mid rfl 63 (.tmp 7) rfl _ _ rfl cs _ HRg.out Tryz.underlying63 rfl HI.out ?_)
                | (refine wpList_store_mid rfl 63 (.tmp 4) (.tmp 43) rfl _ _ cs.toArray rfl rfl HTh.out HI2.out (all_oneCell_toArray HcsO.out) ?_))
              have hld := run_loadVar_mid (P := Tryz.prog) (w3.setCells w.heap.size 0 cs) w.heap.size 0 63 cs _ (World.rangeAt_setCells_same _ _ _ _ (by have := HTh.out; rw [List.size_toArray] at this; exact this)) Tryz.underlying63 rfl HI.out
              refine bodyPost_ret (v := .tuple #[.agg cs.toArray, .string S', .bool false]) ?_ rfl ⟨⟨F', S', false, by rw [Hcs.out], hS', .inr ⟨rfl, Hno.out⟩⟩, below_setCells (Nat.le_refl _) cs 0 HBw.out⟩
              simp [results, Tryz.results75, asAddr, hld, Act.put]
            by_cases hx1 : x < -m
            · have Hno : Hid (rt m 128 0 (fun _ => 0) L = none) := by
                show _ = _
                rw [HE.out]
                exact rt_none (rdN_out HX.out.1 (by rw [Hx.out]; omega))
              obtain ⟨cs, Hcs⟩ : ∃ cs, Hid (tab 128 F' = cs) := ⟨_, (rfl : _ = _)⟩
              have HcsL : Hid (cs.length = 128) := by show _ = _; rw [← Hcs.out]; exact tab_length _ _
              have HcsO : Hid (∀ u ∈ cs, u.oneCell' = true) := by show ∀ u ∈ cs, _; rw [← Hcs.out]; exact tab_one _ _
              have HI : Hid ((Tryz.prog.info? 63).map (·.size) = some cs.length) := by show _ = _; rw [HcsL.out]; exact info_t128
              have HI2 : Hid ((Tryz.prog.info? 63).map (·.size) = some cs.toArray.size) := by show _ = _; rw [List.size_toArray]; exact HI.out
              have HRg : Hid (w3.rangeAt (w.heap.size + 1) 0 cs) := by rw [← Hcs.out]; exact CellsAt.range HO3.out.o
              rw [Hcs.out] at HTh
              have HBw : Hid (Below w.heap.size w w3) := HO3.out.l
              clear HE HO3
              go_wp2_with (first
                | (refine wpList_load_mid rfl 63 (.tmp 7) rfl _ _ rfl cs _ HRg.out Tryz.underlying63 rfl HI.out ?_)
                | (refine wpList_store_mid rfl 63 (.tmp 4) (.tmp 43) rfl _ _ cs.toArray rfl rfl HTh.out HI2.out (all_oneCell_toArray HcsO.out) ?_))
              have hld := run_loadVar_mid (P := Tryz.prog) (w3.setCells w.heap.size 0 cs) w.heap.size 0 63 cs _ (World.rangeAt_setCells_same _ _ _ _ (by have := HTh.out; rw [List.size_toArray] at this; exact this)) Tryz.underlying63 rfl HI.out
              refine bodyPost_ret (v := .tuple #[.agg cs.toArray, .string S', .bool false]) ?_ rfl ⟨⟨F', S', false, by rw [Hcs.out], hS', .inr ⟨rfl, Hno.out⟩⟩, below_setCells (Nat.le_refl _) cs 0 HBw.out⟩
              simp [results, Tryz.results75, asAddr, hld, Act.put]
            have HN : Hid (rt m 128 0 (fun _ => 0) L = rt m (128 - (c * 32 + (b + 1))) (c * 32 + (b + 1)) (upd F' (c * 32 + b) x) (ls R) ∧ ObAt w (w3.setCell ⟨w.heap.size + 1, c * 32 + b, none⟩ (.int .i64 x)) w.heap.size 63 zt (tab 128 (upd F' (c * 32 + b) x))) := by
              refine ⟨?_, ?_⟩
              · rw [HE.out, rt_more (rdN_in HX.out.1 (by rw [Hx.out]; omega)), Hx.out, ← HX.out.2, show 128 - (c * 32 + (b + 1)) = 127 - (c * 32 + b) by omega]
                rfl
              · rw [← tab_set]
                exact HO3.out.set (Nat.le_refl _) _ _
            have d1 := (HO3.out.o.cell (c * 32 + b)).trans (tab_get _ (show c * 32 + b < 128 by omega))
            have f1 := HO3.out.o.frozen (c * 32 + b)
            clear HE HO3 HTh
            generalize F' (c * 32 + b) = y at *
            go_wp2_with fail
            go_roundg (gk - 1)
            case measure => omega
            case rel => exact ⟨b + 1, R, _, by omega, by go_num, rfl, by omega, HN⟩
        · obtain rfl : b = 32 := by omega
          go_wp2
          go_roundw
          case rel => exact ⟨c + 1, S', F', by omega, by go_num, rfl, hS', by rw [show (c + 1) * 32 = c * 32 + 32 by omega]; exact HU⟩
          case measure => simp [intOf]; omega
    · obtain rfl : c = 4 := by omega
      obtain ⟨A0, A1, A2, A4⟩ := HT.out
      obtain ⟨cs, Hcs⟩ : ∃ cs, Hid (tab 128 F = cs) := ⟨_, (rfl : _ = _)⟩
      have HcsL : Hid (cs.length = 128) := by show _ = _; rw [← Hcs.out]; exact tab_length _ _
      have HcsO : Hid (∀ u ∈ cs, u.oneCell' = true) := by show ∀ u ∈ cs, _; rw [← Hcs.out]; exact tab_one _ _
      have HI : Hid ((Tryz.prog.info? 63).map (·.size) = some cs.length) := by show _ = _; rw [HcsL.out]; exact info_t128
      have HI2 : Hid ((Tryz.prog.info? 63).map (·.size) = some cs.toArray.size) := by show _ = _; rw [List.size_toArray]; exact HI.out
      rw [Hcs.out] at A2
      have HRg : Hid (wr.rangeAt (w.heap.size + 1) 0 cs) := CellsAt.range A2
      have HTh : Hid (wr.there w.heap.size 0 cs.toArray.size) := by
        have := CellsAt.there A1
        rw [HztL.out] at this
        show wr.there w.heap.size 0 cs.length
        rw [HcsL.out]; exact this
      have HA4 : Hid (Below w.heap.size w wr) := A4
      have Hyes : Hid (rt m 128 0 (fun _ => 0) L = some (F, ls S)) := by
        show _ = _
        rw [A0]
        rfl
      clear A0 A1 A2 A4 HT
      go_wp2_with (first
        | (refine wpList_load_mid rfl 63 (.tmp 7) rfl _ _ rfl cs _ HRg.out Tryz.underlying63 rfl HI.out ?_)
        | (refine wpList_store_mid rfl 63 (.tmp 4) (.tmp 51) rfl _ _ cs.toArray rfl rfl HTh.out HI2.out (all_oneCell_toArray HcsO.out) ?_))
      have hld := run_loadVar_mid (P := Tryz.prog) (wr.setCells w.heap.size 0 cs) w.heap.size 0 63 cs _ (World.rangeAt_setCells_same _ _ _ _ (by have := HTh.out; rw [List.size_toArray] at this; exact this)) Tryz.underlying63 rfl HI.out
      refine bodyPost_ret (v := .tuple #[.agg cs.toArray, .string S, .bool true]) ?_ rfl ⟨⟨F, S, true, by rw [Hcs.out], hS, .inl ⟨rfl, Hyes.out⟩⟩, below_setCells (Nat.le_refl _) cs 0 HA4.out⟩
      simp [results, Tryz.results75, asAddr, hld, Act.put]
end Go.Proofs.YtfpodnleimhohabGreatDoor
