/-
  WALKS: the mark of a run (the program's).
-/
import Derived.Test.YtfpodnleimhohabMathS
import Derived.Test.YtfpodnleimhohabWalks3
import Derived.Test.YtfpodnleimhohabGen
namespace Go.Proofs.Ytfpodnleimhohab
open Go.RowKit
set_option linter.unusedVariables false

theorem le8 (a : Int) : le (a % 4294967296) 4 ++ le (a / 4294967296) 4 = le a 8 := by
  have e0 : a % 4294967296 % 256 = a % 256 := by omega
  have e1 : a % 4294967296 / 256 % 256 = a / 256 % 256 := by omega
  have e2 : a % 4294967296 / 256 / 256 % 256 = a / 256 / 256 % 256 := by omega
  have e3 : a % 4294967296 / 256 / 256 / 256 % 256 = a / 256 / 256 / 256 % 256 := by omega
  have e4 : a / 4294967296 = a / 256 / 256 / 256 / 256 := by omega
  simp only [le, List.cons_append, List.nil_append, e0, e1, e2, e3]
  rw [e4]
theorem mark_bytes {cf : Cf} {s A B C D E F : ByteArray} (hA : bs (le ((cf.seed : Int) % 4294967296) 4) = A) (hB : bs (le ((cf.seed : Int) / 4294967296) 4) = B) (hC : bs [by8 (cf.batch : Int)] = C) (hD : bs (le (cf.rate : Int) 4) = D) (hE : bs (le (cf.mom : Int) 4) = E) (hF : bs [by8 (cf.decay : Int)] = F) :
    ls (A ++ B ++ C ++ D ++ E ++ F ++ s) = markL cf (ls s) := by
  simp only [ls_append, ← hA, ← hB, ← hC, ← hD, ← hE, ← hF, ls_bs]
  unfold markL
  rw [← le8]
  simp

set_option maxRecDepth 100000 in
set_option maxHeartbeats 2000000 in
theorem progMark_any (cf : Cf) (hcf : cf.Ok) (s : ByteArray) (hs : s.size ≤ 600) (w : World) :
    Calls Try.prog 28 #[.agg #[.int .u64 cf.seed, .int .u8 cf.batch, .int .i32 cf.rate, .int .i32 cf.mom, .int .u8 cf.decay], .string s] w fun e w' => e = .returned (.string (markB cf s)) ∧ Below w.heap.size w w' := by
  have kc := conv1
  obtain ⟨A, HA, hAz⟩ : ∃ A, Hid (bs (le ((cf.seed : Int) % 4294967296) 4) = A) ∧ A.size = 4 := ⟨_, (rfl : _ = _), by rw [bs_size, le_length]⟩
  obtain ⟨B, HB, hBz⟩ : ∃ B, Hid (bs (le ((cf.seed : Int) / 4294967296) 4) = B) ∧ B.size = 4 := ⟨_, (rfl : _ = _), by rw [bs_size, le_length]⟩
  obtain ⟨C, HC, hCz⟩ : ∃ C, Hid (bs [by8 (cf.batch : Int)] = C) ∧ C.size = 1 := ⟨_, (rfl : _ = _), by rw [bs_size]; rfl⟩
  obtain ⟨D, HD, hDz⟩ : ∃ D, Hid (bs (le (cf.rate : Int) 4) = D) ∧ D.size = 4 := ⟨_, (rfl : _ = _), by rw [bs_size, le_length]⟩
  obtain ⟨E, HE, hEz⟩ : ∃ E, Hid (bs (le (cf.mom : Int) 4) = E) ∧ E.size = 4 := ⟨_, (rfl : _ = _), by rw [bs_size, le_length]⟩
  obtain ⟨F, HF, hFz⟩ : ∃ F, Hid (bs [by8 (cf.decay : Int)] = F) ∧ F.size = 1 := ⟨_, (rfl : _ = _), by rw [bs_size]; rfl⟩
  have HM : Hid (markB cf s = bs (le (crc (ls (A ++ B ++ C ++ D ++ E ++ F ++ s))) 4)) := by
    show _ = _
    rw [mark_bytes HA.out HB.out HC.out HD.out HE.out HF.out]
    rfl
  rw [HM.out]
  have hsd := hcf.seed
  have hbt := hcf.batch8
  have hra := hcf.rate
  have hmo := hcf.mom
  have hde := hcf.decay
  obtain ⟨sd, bt, ra, mo, de⟩ := cf
  simp only at *
  clear HM
  go_enter Try.func28, Try.ntmps28
  go_wp2_with fail
  obtain ⟨w0, Hw0⟩ : ∃ w0, Hid (w.alloc (.cells #[.int .u64 sd, .int .u8 bt, .int .i32 ra, .int .i32 mo, .int .u8 de] 24) = w0) := ⟨_, (rfl : _ = _)⟩
  rw [Hw0.out]
  have HB0 : Hid (Below w.heap.size w w0) := by rw [← Hw0.out]; exact (Below.refl _ _).alloc (Nat.le_refl _) _
  have HC0 : Hid (CellsAt w0 w.heap.size 24 [.int .u64 sd, .int .u8 bt, .int .i32 ra, .int .i32 mo, .int .u8 de]) := by rw [← Hw0.out]; exact CellsAt.new w _ _ _ rfl rfl
  clear Hw0
  refine (lowFirst_any _ (by omega) (by omega) _).mono ?_
  rintro e w1 ⟨rfl, hb1⟩
  rw [HA.out]
  have HB1 : Hid (Below w.heap.size w w1) := HB0.out.trans (hb1.mono HB0.out.size)
  have HC1 : Hid (CellsAt w1 w.heap.size 24 [.int .u64 sd, .int .u8 bt, .int .i32 ra, .int .i32 mo, .int .u8 de]) := CellsAt.later HC0.out hb1
  clear hb1 HB0 HC0
  have c0 := CellsAt.cell HC1.out 0
  simp only [List.getElem?_cons_zero] at c0
  go_wp2_with fail
  refine (lowFirst_any _ (by omega) (by omega) _).mono ?_
  rintro e w2 ⟨rfl, hb2⟩
  rw [HB.out]
  have HB2 : Hid (Below w.heap.size w w2) := HB1.out.trans (hb2.mono HB1.out.size)
  have HC2 : Hid (CellsAt w2 w.heap.size 24 [.int .u64 sd, .int .u8 bt, .int .i32 ra, .int .i32 mo, .int .u8 de]) := CellsAt.later HC1.out hb2
  clear hb2 HB1 HC1 c0
  have hz2 := CellsAt.lt HC2.out
  have c1 := CellsAt.cell HC2.out 1
  have c2 := CellsAt.cell HC2.out 2
  simp only [List.getElem?_cons_zero, List.getElem?_cons_succ] at c1 c2
  go_wp2_with fail
  rw [HC.out]
  have HB3 : Hid (Below w.heap.size w (w2.alloc (.cells #[.int .u8 bt] 5))) := HB2.out.alloc HB2.out.size _
  have HC3 : Hid (CellsAt (w2.alloc (.cells #[.int .u8 bt] 5)) w.heap.size 24 [.int .u64 sd, .int .u8 bt, .int .i32 ra, .int .i32 mo, .int .u8 de]) := CellsAt.alloc HC2.out _
  generalize w2.alloc (.cells #[.int .u8 bt] 5) = w3 at *
  clear HB2 HC2 c1 c2 hz2
  refine (lowFirst_any _ (by omega) (by omega) _).mono ?_
  rintro e w4 ⟨rfl, hb4⟩
  rw [HD.out]
  have HB4 : Hid (Below w.heap.size w w4) := HB3.out.trans (hb4.mono HB3.out.size)
  have HC4 : Hid (CellsAt w4 w.heap.size 24 [.int .u64 sd, .int .u8 bt, .int .i32 ra, .int .i32 mo, .int .u8 de]) := CellsAt.later HC3.out hb4
  clear hb4 HB3 HC3
  have c3 := CellsAt.cell HC4.out 3
  simp only [List.getElem?_cons_zero, List.getElem?_cons_succ] at c3
  go_wp2_with fail
  refine (lowFirst_any _ (by omega) (by omega) _).mono ?_
  rintro e w5 ⟨rfl, hb5⟩
  rw [HE.out]
  have HB5 : Hid (Below w.heap.size w w5) := HB4.out.trans (hb5.mono HB4.out.size)
  have HC5 : Hid (CellsAt w5 w.heap.size 24 [.int .u64 sd, .int .u8 bt, .int .i32 ra, .int .i32 mo, .int .u8 de]) := CellsAt.later HC4.out hb5
  clear hb5 HB4 HC4 c3
  have c4 := CellsAt.cell HC5.out 4
  simp only [List.getElem?_cons_zero, List.getElem?_cons_succ] at c4
  have q1 : (A ++ B).size = 8 := by rw [ByteArray.size_append]; omega
  have q2 : (A ++ B ++ C).size = 9 := by rw [ByteArray.size_append]; omega
  have q3 : (A ++ B ++ C ++ D).size = 13 := by rw [ByteArray.size_append]; omega
  have q4 : (A ++ B ++ C ++ D ++ E).size = 17 := by rw [ByteArray.size_append]; omega
  have q5 : (A ++ B ++ C ++ D ++ E ++ F).size = 18 := by rw [ByteArray.size_append]; omega
  have q6 : (A ++ B ++ C ++ D ++ E ++ F ++ s).size = 18 + s.size := by rw [ByteArray.size_append]; omega
  have kf : ∀ (w : World) (g : Nat), g = w.heap.size → _ := fun w g hg => HF.out ▸ conv1 w g hg (de : Int)
  clear kc
  go_wp2_with fail
  have HB6 : Hid (Below w.heap.size w (w5.alloc (.cells #[.int .u8 de] 5))) := HB5.out.alloc HB5.out.size _
  generalize w5.alloc (.cells #[.int .u8 de] 5) = w6 at *
  refine (sumBytes_any _ (by unfold maxLen; omega) _).mono ?_
  rintro e w7 ⟨rfl, hb7⟩
  have HB7 : Hid (Below w.heap.size w w7) := HB6.out.trans (hb7.mono HB6.out.size)
  clear hb7 HB6 HB5 HC5
  go_wp2
  go_ret
  exact ⟨rfl, HB7.out⟩
end Go.Proofs.Ytfpodnleimhohab
