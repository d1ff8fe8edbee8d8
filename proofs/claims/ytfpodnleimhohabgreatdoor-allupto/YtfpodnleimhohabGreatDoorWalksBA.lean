/-
  WALKS: the program's small functions of the learner: hashRune, add, cut, nextSpeed, nextWeight.
-/
import Derived.Test.YtfpodnleimhohabGreatDoorMathK
import Derived.Test.YtfpodnleimhohabGreatDoorArrIx
import Derived.Test.YtfpodnleimhohabGreatDoorGen
namespace Go.Proofs.YtfpodnleimhohabGreatDoor
open Go.RowKit
set_option linter.unusedVariables false

theorem hash32_eq (H x y : Nat) (hH : H < 4294967296) (hx : x < 4294967296) (hxy : x / 16777216 = y) (hy : y < 256) : bits BinOp.xor IntKind.u32 (H : Int) ((x : Int) / 16777216) * 16777619 % 4294967296 = ((hashF H y : Nat) : Int) := by
  rw [show (x : Int) / 16777216 = ((y : Nat) : Int) by omega]
  exact hash_eq H y hH hy
set_option maxRecDepth 4000 in
theorem hashRune_any (h r : Nat) (hh : h < 4294967296) (hr : r ≤ 1114111) (w : World) :
    Calls Tryz.prog 98 #[.int .u32 h, .int .i32 r] w fun e w' => e = .returned (.int .u32 (hashFrom h r : Nat)) ∧ w' = w := by
  have HE : Hid (hashTo h r 4 = hashFrom h r) := hashTo_four h r
  rw [← HE.out]
  have hr4 : r < 4294967296 := by omega
  go_enter Tryz.func98, Tryz.ntmps98
  go_wp2
  go_loopw [0, 5, 6] (fun hv rv kv wr => ∃ k : Nat, k ≤ 4 ∧ hv = .int .u32 (hashTo h r k : Nat) ∧ rv = .int .u32 (restAt r k : Nat) ∧ kv = .int .i64 k ∧ wr = w) (fun _ _ k _ => 4 - (intOf k).toNat)
  case atStart => exact ⟨0, by omega, rfl, rfl, rfl, rfl⟩
  case round =>
    obtain ⟨k, hk, rfl, rfl, rfl, rfl⟩ := hrel
    by_cases hlt : k < 4
    · have b1 := hashTo_lt h r k hh hk
      have b2 := restAt_lt r k hr4
      have b3 := rest_byte r k hr4 hlt
      have b4 := four_byte r k hlt
      have HN : Hid _ := hashTo_next h r k hlt
      have HE1 : Hid _ := hash32_eq _ _ _ b1 b2 b3 b4
      have HR : Hid (restAt r (k + 1) = restAt r k * 256 % 4294967296) := rfl
      generalize (fourN r).getD k 0 = y at *
      generalize hashTo h r k = H at *
      generalize restAt r k = R at *
      clear b3
      go_wp2
      go_roundw
      case rel => exact ⟨k + 1, by omega, by rw [HN.out, HE1.out], by rw [HR.out]; go_num, by go_num, trivial⟩
      case measure => simp [intOf]; omega
    · obtain rfl : k = 4 := by omega
      go_wp2
      go_ret
      exact ⟨rfl, rfl⟩

set_option maxRecDepth 4000 in
theorem lcut_any (x m : Int) (hm0 : 0 ≤ m) (hm1 : m ≤ 1099511627776) (w : World) :
    Calls Tryz.prog 85 #[.int .i64 x, .int .i64 m] w fun e w' => e = .returned (.int .i64 (clamp m x)) ∧ w' = w := by
  by_cases h1 : m < x
  · have HC : Hid (m = clamp m x) := by show _ = _; unfold clamp; rw [if_pos h1]
    go_enter Tryz.func85, Tryz.ntmps85
    go_wp2
    go_ret
    exact ⟨ret_intU HC.out, rfl⟩
  · by_cases h2 : x < -m
    · have HC : Hid (-m = clamp m x) := by show _ = _; unfold clamp; rw [if_neg h1, if_pos h2]
      go_enter Tryz.func85, Tryz.ntmps85
      go_wp2
      go_ret
      exact ⟨ret_intU HC.out, rfl⟩
    · have HC : Hid (x = clamp m x) := by show _ = _; unfold clamp; rw [if_neg h1, if_neg h2]
      go_enter Tryz.func85, Tryz.ntmps85
      go_wp2
      go_ret
      exact ⟨ret_intU HC.out, rfl⟩

/-- The cells of settings that a run may have. -/
def cfCells (c : Cf) : List Value := [.int .u64 c.seed, .int .u8 c.batch, .int .i32 c.rate, .int .i32 c.mom, .int .u8 c.decay]

set_option maxRecDepth 100000 in
set_option maxHeartbeats 1000000 in
theorem nextSpeed_any (cf : Cf) (hcf : cf.Ok) (v g : Int) (hv : -1073741824 ≤ v ∧ v ≤ 1073741824) (hg : -56 ≤ g ∧ g ≤ 56) (w : World) :
    Calls Tryz.prog 66 #[.int .i64 v, .int .i64 g, .agg (cfCells cf).toArray] w fun e w' => e = .returned (.int .i64 (speedN cf v g)) ∧ Below w.heap.size w w' := by
  have h1 := mulB v cf.mom 1073741824 65536 hv.1 hv.2 (by have := hcf.mom; omega)
  have h2 := mulB g cf.rate 56 65536 hg.1 hg.2 hcf.rate
  have HS : Hid (speedN cf v g = clamp 1073741824 (v * cf.mom / 65536 + g * cf.rate)) := rfl
  rw [HS.out]
  have hm := hcf.mom
  have hr := hcf.rate
  obtain ⟨sd, bt, ra, mo, de⟩ := cf
  simp only at h1 h2 hm hr ⊢
  obtain ⟨p, Hp⟩ : ∃ p, Hid (v * (mo : Int) = p) := ⟨_, (rfl : _ = _)⟩
  obtain ⟨q, Hq⟩ : ∃ q, Hid (g * (ra : Int) = q) := ⟨_, (rfl : _ = _)⟩
  have Hp' := Hp.out
  have Hq' := Hq.out
  rw [Hp'] at h1 ⊢
  rw [Hq'] at h2 ⊢
  have h1a : -70368744177664 ≤ p := by have := h1.1; simpa using this
  have h1b : p ≤ 70368744177664 := by have := h1.2; simpa using this
  have h2a : -3670016 ≤ q := by have := h2.1; simpa using this
  have h2b : q ≤ 3670016 := by have := h2.2; simpa using this
  clear h1 h2
  show Calls Tryz.prog 66 #[.int .i64 v, .int .i64 g, .agg #[.int .u64 sd, .int .u8 bt, .int .i32 ra, .int .i32 mo, .int .u8 de]] w _
  go_enter Tryz.func66, Tryz.ntmps66
  go_wp2_with fail
  refine (lcut_any _ 1073741824 (by decide) (by decide) _).mono ?_
  rintro e w1 ⟨rfl, hw⟩
  have hw' := hw.symm
  clear hw
  subst hw'
  go_wp2
  go_ret
  exact ⟨rfl, (Below.refl _ _).alloc (Nat.le_refl _) _⟩

theorem small_shr (x : Int) (k : Nat) : x / 2 ^ min (k : Int).toNat IntKind.i64.bits = x / 2 ^ min k 64 := rfl
theorem wrap32 (x : Int) (h1 : -16777216 ≤ x) (h2 : x ≤ 16777216) : IntKind.i32.wrap x = x := by
  unfold IntKind.wrap
  simp [IntKind.bits, IntKind.signed]
  omega
set_option maxRecDepth 100000 in
set_option maxHeartbeats 1000000 in
theorem nextWeight_any (cf : Cf) (hcf : cf.Ok) (x v : Int) (hx : -16777216 ≤ x ∧ x ≤ 16777216) (hv : -1073741824 ≤ v ∧ v ≤ 1073741824) (w : World) :
    Calls Tryz.prog 67 #[.int .i32 x, .int .i64 v, .agg (cfCells cf).toArray] w fun e w' => e = .returned (.int .i32 (weightN cf x v)) ∧ Below w.heap.size w w' := by
  obtain ⟨z, Hz⟩ : ∃ z, Hid (weightN cf x v = z) := ⟨_, (rfl : _ = _)⟩
  have hz : -16777216 ≤ z ∧ z ≤ 16777216 := by rw [← Hz.out]; exact clamp_le _ _ (by decide)
  have hde := hcf.decay
  have hdb := div_bound x 16777216 cf.decay hx.1 hx.2 (by decide)
  obtain ⟨sd, bt, ra, mo, de⟩ := cf
  simp only at hde hdb
  obtain ⟨hx1, hx2⟩ := hx
  obtain ⟨hv1, hv2⟩ := hv
  obtain ⟨hz1, hz2⟩ := hz
  rw [Hz.out]
  show Calls Tryz.prog 67 #[.int .i32 x, .int .i64 v, .agg #[.int .u64 sd, .int .u8 bt, .int .i32 ra, .int .i32 mo, .int .u8 de]] w _
  by_cases hd : 0 < de
  · obtain ⟨y, Hy⟩ : ∃ y, Hid (x / 2 ^ de = y) := ⟨_, (rfl : _ = _)⟩
    have hy := Hy.out
    rw [hy] at hdb
    have HW : Hid (clamp 16777216 (x + v / 64 - y) = z) := by
      show _ = _
      rw [← Hz.out]; unfold weightN; simp only [hd, if_true]; rw [Hy.out]
    obtain ⟨hd1, hd2⟩ := hdb
    go_enter Tryz.func67, Tryz.ntmps67
    go_wp2_with fail
    refine (lcut_any _ 16777216 (by decide) (by decide) _).mono ?_
    rintro e w1 ⟨rfl, hw⟩
    have hw' := hw.symm
    clear hw
    subst hw'
    rw [HW.out]
    go_wp2
    go_ret
    exact ⟨rfl, (Below.refl _ _).alloc (Nat.le_refl _) _⟩
  · have HW : Hid (clamp 16777216 (x + v / 64) = z) := by
      show _ = _
      rw [← Hz.out]; unfold weightN; simp only [hd, if_false, Int.sub_zero]
    clear hdb
    go_enter Tryz.func67, Tryz.ntmps67
    go_wp2_with fail
    refine (lcut_any _ 16777216 (by decide) (by decide) _).mono ?_
    rintro e w1 ⟨rfl, hw⟩
    have hw' := hw.symm
    clear hw
    subst hw'
    rw [HW.out]
    go_wp2
    go_ret
    exact ⟨rfl, (Below.refl _ _).alloc (Nat.le_refl _) _⟩

set_option maxRecDepth 100000 in
set_option maxHeartbeats 1000000 in
theorem add_any (g : Nat) (f : Nat → Int) (hf : ∀ b, 0 ≤ f b ∧ f b ≤ 7) (h : Nat) (hh : h < 4294967296) (w : World) (hC : CellsAt w g 171 (tab 32 f)) :
    Calls Tryz.prog 99 #[.pointer (some ⟨g, 0, none⟩), .int .u32 h] w fun e w' => e = .returned (.tuple #[]) ∧ CellsAt w' g 171 (tab 32 (bump f (h % 32))) ∧ Spared w w' (fun k => k = g) := by
  obtain ⟨q, Hq⟩ : ∃ q, Hid (h % 32 = q) := ⟨_, (rfl : _ = _)⟩
  have hq : q < 32 := by rw [← Hq.out]; exact Nat.mod_lt _ (by decide)
  have hq1 : (h : Int) % 32 = (q : Int) := by rw [← Hq.out]; omega
  rw [Hq.out]
  have c := (hC.cell q).trans (tab_get f hq)
  have fz := hC.frozen q
  have hgl := hC.lt
  have HC : Hid (CellsAt w g 171 (tab 32 f)) := hC
  have hfq := hf q
  clear hC hf
  obtain ⟨y, Hy⟩ : ∃ y, Hid (f q = y) := ⟨_, (rfl : _ = _)⟩
  rw [Hy.out] at c hfq
  by_cases h7 : y < 7
  · have HB : Hid (bump f q = upd f q (y + 1)) := by
      show _ = _
      funext b
      unfold bump upd
      rw [Hy.out]
      by_cases e : b = q
      · rw [if_pos ⟨e, h7⟩, if_pos e]
      · rw [if_neg (fun x => e x.1), if_neg e]
    rw [HB.out]
    go_enter Tryz.func99, Tryz.ntmps99
    go_wp2_with fail
    go_region
    go_wp2
    go_end0
    refine ⟨rfl, ?_, ?_⟩
    · have := CellsAt.set HC.out q (.int .i64 (y + 1))
      rw [tab_set] at this
      exact this
    · have h := Spared.of_set w g q (.int .i64 (y + 1))
      exact ⟨h.os, h.tape, h.output, h.size, h.block⟩
  · have HB : Hid (bump f q = f) := by
      show _ = _
      funext b
      unfold bump
      rw [Hy.out, if_neg (fun x => h7 x.2)]
    rw [HB.out]
    go_enter Tryz.func99, Tryz.ntmps99
    go_wp2
    go_end0
    exact ⟨rfl, HC.out, Spared.refl _ _⟩
end Go.Proofs.YtfpodnleimhohabGreatDoor
