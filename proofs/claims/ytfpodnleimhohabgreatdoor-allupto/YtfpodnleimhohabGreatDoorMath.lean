/-
  PLAIN MATHEMATICS: bytes, varints, the sum (CRC-32), frames. No program in sight.
-/
import Derived.WalkKit
import Derived.OpenShut
namespace Go.Proofs.YtfpodnleimhohabGreatDoor
open Go.RowKit

/-- A list of bytes as a string's bytes. -/
def bs (l : List UInt8) : ByteArray := ⟨l.toArray⟩
/-- A string's bytes as a list. -/
def ls (s : ByteArray) : List UInt8 := s.data.toList
theorem ls_bs (l : List UInt8) : ls (bs l) = l := by simp [ls, bs]
theorem bs_ls (s : ByteArray) : bs (ls s) = s := by cases s; simp [ls, bs]
theorem bs_size (l : List UInt8) : (bs l).size = l.length := by simp [bs, ByteArray.size]
theorem ls_length (s : ByteArray) : (ls s).length = s.size := Array.length_toList
theorem bs_append (l m : List UInt8) : bs l ++ bs m = bs (l ++ m) := by
  unfold bs
  rw [ByteArray.mk_append_mk]
theorem bs_nil : bs [] = ⟨#[]⟩ := rfl
theorem ls_append (s t : ByteArray) : ls (s ++ t) = ls s ++ ls t := by
  rw [← bs_ls s, ← bs_ls t, bs_append, ls_bs, ls_bs, ls_bs]
theorem ls_inj {s t : ByteArray} (h : ls s = ls t) : s = t := by rw [← bs_ls s, h, bs_ls]
theorem bs_inj {l m : List UInt8} (h : bs l = bs m) : l = m := by rw [← ls_bs l, h, ls_bs]

/-- A number as a byte. -/
def by8 (n : Int) : UInt8 := UInt8.ofNat n.toNat
theorem by8_nat (c : UInt8) : by8 (c.toNat : Int) = c := by simp [by8]
theorem by8_toNat (n : Int) (h0 : 0 ≤ n) (h1 : n ≤ 255) : ((by8 n).toNat : Int) = n := by
  simp [by8]; omega

theorem take_snoc (s : ByteArray) (k : Nat) (h : k < s.size) : (ls s).take (k + 1) = (ls s).take k ++ [s[k]] := by
  rw [List.take_succ_eq_append_getElem (by rw [ls_length]; exact h)]; rfl
theorem take_all (s : ByteArray) : (ls s).take s.size = ls s := by rw [← ls_length]; exact List.take_length

/-! ### the sum -/
theorem bits_bd (op : BinOp) (x y : Int) : 0 ≤ bits op .u32 x y ∧ bits op .u32 x y ≤ 4294967295 := bounds_u32 (wf_bits op .u32 x y)
/-- One of the eight halvings. -/
def bitStep (y : Int) : Int := if (y % 2 == 1) = true then bits BinOp.xor IntKind.u32 (y / 2) 3988292384 else y / 2
def bitsUp (y : Int) : Nat → Int
  | 0 => y
  | n + 1 => bitStep (bitsUp y n)
theorem bitStep_bd (y : Int) (h0 : 0 ≤ y) (h1 : y ≤ 4294967295) : 0 ≤ bitStep y ∧ bitStep y ≤ 4294967295 := by
  unfold bitStep
  split
  · exact bits_bd _ _ _
  · omega
theorem bitsUp_bd (y : Int) (h0 : 0 ≤ y) (h1 : y ≤ 4294967295) : ∀ n, 0 ≤ bitsUp y n ∧ bitsUp y n ≤ 4294967295
  | 0 => ⟨h0, h1⟩
  | n + 1 => bitStep_bd _ (bitsUp_bd y h0 h1 n).1 (bitsUp_bd y h0 h1 n).2
theorem bitsUp_odd (y : Int) (n : Nat) (h : (bitsUp y n % 2 == 1) = true) : bitsUp y (n + 1) = bits BinOp.xor IntKind.u32 (bitsUp y n / 2) 3988292384 := by
  show bitStep _ = _
  unfold bitStep; rw [if_pos h]
theorem bitsUp_even (y : Int) (n : Nat) (h : (bitsUp y n % 2 == 1) = false) : bitsUp y (n + 1) = bitsUp y n / 2 := by
  show bitStep _ = _
  unfold bitStep; rw [if_neg (by simp [h])]
/-- One byte more. -/
def crcByte (x : Int) (c : UInt8) : Int := bitsUp (bits BinOp.xor IntKind.u32 x (c.toNat : Int)) 8
def crcRaw (l : List UInt8) : Int := l.foldl crcByte 4294967295
/-- The sum of bytes. -/
def crc (l : List UInt8) : Int := bits BinOp.xor IntKind.u32 (crcRaw l) 4294967295
theorem crcRaw_nil : crcRaw [] = 4294967295 := rfl
theorem crcRaw_snoc (l : List UInt8) (c : UInt8) : crcRaw (l ++ [c]) = crcByte (crcRaw l) c := by simp [crcRaw]
theorem crcByte_bd (x : Int) (c : UInt8) : 0 ≤ crcByte x c ∧ crcByte x c ≤ 4294967295 :=
  bitsUp_bd _ (bits_bd _ _ _).1 (bits_bd _ _ _).2 8
theorem foldl_crc_bd (l : List UInt8) : ∀ x : Int, 0 ≤ x → x ≤ 4294967295 → 0 ≤ l.foldl crcByte x ∧ l.foldl crcByte x ≤ 4294967295 := by
  induction l with
  | nil => intro x h0 h1; exact ⟨h0, h1⟩
  | cons c l ih => intro x _ _; exact ih _ (crcByte_bd x c).1 (crcByte_bd x c).2
theorem crcRaw_bd (l : List UInt8) : 0 ≤ crcRaw l ∧ crcRaw l ≤ 4294967295 := foldl_crc_bd l _ (by decide) (by decide)
theorem crc_bd (l : List UInt8) : 0 ≤ crc l ∧ crc l ≤ 4294967295 := bits_bd _ _ _

/-! ### numbers as bytes -/
/-- So many bytes of a number, the lowest first. -/
def le (n : Int) : Nat → List UInt8
  | 0 => []
  | k + 1 => by8 (n % 256) :: le (n / 256) k
theorem le_length (k : Nat) : ∀ n : Int, (le n k).length = k := by
  induction k with
  | zero => intro n; rfl
  | succ k ih => intro n; simp [le, ih]
theorem le4 (a : Int) (h0 : 0 ≤ a) (h1 : a ≤ 4294967295) : le a 4 = [by8 (a % 256), by8 (a / 256 % 256), by8 (a / 65536 % 256), by8 (a / 16777216)] := by
  have e1 : a / 256 / 256 = a / 65536 := by omega
  have e2 : a / 65536 / 256 = a / 16777216 := by omega
  have e3 : a / 16777216 % 256 = a / 16777216 := by omega
  simp [le, e1, e2, e3]
/-- The k lowest bytes are there; of the number what is left. -/
theorem le_snoc (k : Nat) : ∀ n : Int, le n (k + 1) = le n k ++ [by8 (n / 256 ^ k % 256)] := by
  induction k with
  | zero => intro n; simp [le]
  | succ k ih =>
    intro n
    have e : n / 256 / 256 ^ k = n / 256 ^ (k + 1) := by
      rw [Int.ediv_ediv_of_nonneg (by omega), Int.pow_succ, Int.mul_comm]
    rw [show le n (k + 1 + 1) = by8 (n % 256) :: le (n / 256) (k + 1) from rfl, ih, e]
    rfl

/-- A varint, with fuel: so many bytes at most behind the first. -/
def varF : Nat → Int → List UInt8
  | 0, n => [by8 n]
  | f + 1, n => if n < 128 then [by8 n] else by8 (n % 128 + 128) :: varF f (n / 128)
/-- A number's varint (of numbers below 2 to the 64). -/
def var (n : Int) : List UInt8 := varF 9 n
theorem varF_short (f : Nat) (n : Int) (h : n < 128) : varF f n = [by8 n] := by
  cases f with
  | zero => rfl
  | succ f => simp [varF, h]
theorem varF_long (f : Nat) (n : Int) (h : ¬ n < 128) : varF (f + 1) n = by8 (n % 128 + 128) :: varF f (n / 128) := by
  simp [varF, h]
/-- More fuel than is wanted changes nothing. -/
theorem varF_more (f : Nat) : ∀ n : Int, n < 128 ^ (f + 1) → varF (f + 1) n = varF f n := by
  induction f with
  | zero => intro n h; simp at h; rw [varF_short _ _ h, varF_short _ _ h]
  | succ f ih =>
    intro n h
    by_cases hs : n < 128
    · rw [varF_short _ _ hs, varF_short _ _ hs]
    · have hp : (128 : Int) ^ (f + 1 + 1) = 128 ^ (f + 1) * 128 := Int.pow_succ ..
      rw [varF_long _ _ hs, varF_long _ _ hs, ih _ (by rw [hp] at h; omega)]
/-- One byte more of a varint. -/
theorem var_step (f : Nat) (q : Int) (h : q < 128 ^ (f + 1)) (hs : ¬ q < 128) :
    ∃ f', f = f' + 1 ∧ q / 128 < 128 ^ (f' + 1) ∧ varF f q = by8 (q % 128 + 128) :: varF f' (q / 128) := by
  cases f with
  | zero => simp at h; omega
  | succ f =>
    have hp : (128 : Int) ^ (f + 1 + 1) = 128 ^ (f + 1) * 128 := Int.pow_succ ..
    exact ⟨f, rfl, by rw [hp] at h; omega, varF_long _ _ hs⟩
theorem varF_length (f : Nat) : ∀ n : Int, 1 ≤ (varF f n).length ∧ (varF f n).length ≤ f + 1 := by
  induction f with
  | zero => intro n; simp [varF]
  | succ f ih =>
    intro n
    by_cases hs : n < 128
    · rw [varF_short _ _ hs]; simp
    · rw [varF_long _ _ hs]; have := ih (n / 128); simp; omega
theorem var_length (n : Int) : 1 ≤ (var n).length ∧ (var n).length ≤ 10 := varF_length 9 n
theorem var_short (n : Int) (h : n < 128) : var n = [by8 n] := varF_short 9 n h
theorem var_two (n : Int) (h : ¬ n < 128) (h2 : n < 16384) : var n = [by8 (n % 128 + 128), by8 (n / 128)] := by
  unfold var; rw [varF_long _ _ h, varF_short _ _ (by omega)]

/-! ### frames -/
/-- The body of an example: its label, its text. -/
def body (l : Int) (t : List UInt8) : List UInt8 := by8 l :: t
theorem body_length (l : Int) (t : List UInt8) : (body l t).length = t.length + 1 := by simp [body]
/-- The frame of a body. -/
def frameB (b : List UInt8) : List UInt8 := 213 :: (var (b.length : Int) ++ (b ++ le (crc b) 4))
def frame (l : Int) (t : List UInt8) : List UInt8 := frameB (body l t)

theorem ls_cut (s : ByteArray) (a b : Nat) : ls (s.extract a b) = ((ls s).drop a).take (b - a) := by
  show (s.extract a b).data.toList = (s.data.toList.drop a).take (b - a)
  rw [ByteArray.data_extract, Array.toList_extract, List.extract_eq_take_drop]
end Go.Proofs.YtfpodnleimhohabGreatDoor
