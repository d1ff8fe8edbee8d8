import Derived.Test.YtfpodnleimhohabWalksSG
import Derived.Test.YtfpodnleimhohabGB
import Derived.Test.YtfpodnleimhohabMath
import Derived.Laws.BitsAllLaws
import Derived.Test.YtfpodnleimhohabMathS
/-
  WALKS: Load (the program's).
-/
namespace Go.Proofs.Ytfpodnleimhohab
open Go.RowKit
set_option linter.unusedVariables false
set_option linter.unusedSimpArgs false

/-- How a run stands by a save. -/
def svSt (S : Sv) : St := ⟨S.n, fun c b => S.w (c * 32 + b), fun c b => S.v (c * 32 + b)⟩
theorem flat_un (f : Nat → Int) : flat (fun c b => f (c * 32 + b)) = f := by
  funext i
  show f (i / 32 * 32 + i % 32) = f i
  congr 1
  omega
theorem svSt_ok {S : Sv} (h : S.Ok) : (svSt S).Ok := ⟨h.n, fun c b hc hb => h.w _ (by omega), fun c b hc hb => h.v _ (by omega)⟩
theorem rdCells_st (S : Sv) : rdCells S = stCells (bs S.m4) (svSt S) := by
  unfold rdCells stCells svHead lrnCells svSt
  simp only [flat_un]
/-- What Load answers, where New gives a run. -/
def LoadIs (w w' : World) (e : Ending) (cf : Cf) (s : ByteArray) (sv : ByteArray) (is : Nat → St → Prop) : Prop :=
  (pRead (ls sv) = none ∧ e = .returned (.tuple #[.pointer none, .int .i64 8])) ∨
  (∃ S, pRead (ls sv) = some S ∧ bs S.m4 ≠ markB cf s ∧ e = .returned (.tuple #[.pointer none, .int .i64 9])) ∨
  (∃ S g, pRead (ls sv) = some S ∧ bs S.m4 = markB cf s ∧ e = .returned (.tuple #[.pointer (some ⟨g, 0, none⟩), .int .i64 0]) ∧ w.heap.size ≤ g ∧ is g (svSt S))

set_option maxRecDepth 100000 in
set_option maxHeartbeats 8000000 in
theorem progLoad_any (cf : Cf) (hcf : cf.Ok) (s : ByteArray) (hs : s.size ≤ 600) (hne : 0 < (recs (ls s)).length) (sv : ByteArray) (hsv : sv.size ≤ maxLen) (w : World) :
    Calls Try.prog 10 #[.agg #[.int .u64 cf.seed, .int .u8 cf.batch, .int .i32 cf.rate, .int .i32 cf.mom, .int .u8 cf.decay], .string s, .string sv] w fun e w' => LoadIs w w' e cf s sv (fun g st => RunIs w' g cf (markB cf s) (exsOf (recs (ls s))) st) ∧ Below w.heap.size w w' := by
  have HNew : Hid (∀ w1, Calls Try.prog 16 #[.agg #[.int .u64 cf.seed, .int .u8 cf.batch, .int .i32 cf.rate, .int .i32 cf.mom, .int .u8 cf.decay], .string s] w1 fun e w' => ∃ g aX cX, e = .returned (.tuple #[.pointer (some ⟨g, 0, none⟩), .int .i64 0]) ∧ w1.heap.size ≤ g ∧ ProgRun w' g cf (markB cf s) (.slice aX (exsOf (recs (ls s))).length cX) St.zero ∧ w'.ownsRow w1.heap.size 72 2 (.slice aX (exsOf (recs (ls s))).length cX) (exsOf (recs (ls s))).length (exNsCells (exsOf (recs (ls s)))) ∧ Below w1.heap.size w1 w') := fun w1 => by
    have q := progNew_ok cf.raw (Cf.raw_wf hcf) (Cf.raw_ok hcf) s hs hne w1
    rw [Cf.raw_cf] at q
    refine Calls.mono q ?_
    rintro e w' ⟨g, vX, rfl, hg, hP, hO, hb⟩
    obtain ⟨aX, cX, rfl, _, _, _⟩ := own_read hO
    have el : (exsOf (recs (ls s))).length = (recs (ls s)).length := by simp [exsOf]
    refine ⟨g, aX, cX, rfl, hg, ?_, ?_, hb⟩
    · rw [el]; exact hP
    · rw [el]; exact hO
  have HRd : Hid (∀ w1, _) := fun w1 => read_any sv hsv w1
  obtain ⟨mk, Hmk⟩ : ∃ mk, Hid (markB cf s = mk) := ⟨_, (rfl : _ = _)⟩
  obtain ⟨X, HX⟩ : ∃ X, Hid (exsOf (recs (ls s)) = X) := ⟨_, (rfl : _ = _)⟩
  rw [Hmk.out, HX.out] at HNew
  unfold LoadIs
  rw [Hmk.out, HX.out]
  obtain ⟨O, HO⟩ : ∃ O, Hid (pRead (ls sv) = O) := ⟨_, (rfl : _ = _)⟩
  have HOk : Hid (∀ S, O = some S → S.Ok) := fun S hS => (pRead_some (HO.out.trans hS)).1
  rw [HO.out] at HRd ⊢
  clear hcf hs hne hsv HO
  obtain ⟨sd, bt, ra, mo, de⟩ := cf
  simp only at HNew ⊢
  obtain ⟨w0, Hw0⟩ : ∃ w0, Hid (w.alloc (.cells #[.int .u64 sd, .int .u8 bt, .int .i32 ra, .int .i32 mo, .int .u8 de] 24) = w0) := ⟨_, (rfl : _ = _)⟩
  have HB0 : Hid (Below w.heap.size w w0) := by rw [← Hw0.out]; exact (Below.refl _ _).alloc (Nat.le_refl _) _
  have HC0 : Hid (CellsAt w0 w.heap.size 24 [.int .u64 sd, .int .u8 bt, .int .i32 ra, .int .i32 mo, .int .u8 de]) := by rw [← Hw0.out]; exact CellsAt.new w _ _ _ rfl rfl
  have hz0 := HB0.out.size
  have c0 := CellsAt.cell HC0.out 0
  have c1 := CellsAt.cell HC0.out 1
  have c2 := CellsAt.cell HC0.out 2
  have c3 := CellsAt.cell HC0.out 3
  have c4 := CellsAt.cell HC0.out 4
  simp only [List.getElem?_cons_zero, List.getElem?_cons_succ] at c0 c1 c2 c3 c4
  go_enter Try.func10, Try.ntmps10
  go_wp2_with fail
  rw [Hw0.out]
  refine (HNew.out _).mono ?_
  rintro e w1 ⟨g, aX, cX, rfl, hg, hP, hO, hb1⟩
  have HP1 : Hid (ProgRun w1 g ⟨sd, bt, ra, mo, de⟩ mk (.slice aX X.length cX) St.zero) := hP
  have HO1 : Hid (w1.ownsRow w0.heap.size 72 2 (.slice aX X.length cX) X.length (exNsCells X)) := hO
  have HB1 : Hid (Below w.heap.size w w1) := HB0.out.trans (hb1.mono HB0.out.size)
  have Hg : Hid (w.heap.size ≤ g) := Nat.le_trans hz0 hg
  clear hP hO hb1 hg c0 c1 c2 c3 c4 HC0 HB0 Hw0
  go_wp2_with fail
  refine (HRd.out _).mono ?_
  rintro e w2 ⟨hcase, hb2⟩
  have HP2 : Hid (ProgRun w2 g ⟨sd, bt, ra, mo, de⟩ mk (.slice aX X.length cX) St.zero) := CellsAt.later HP1.out hb2
  have HO2 : Hid (w2.ownsRow w0.heap.size 72 2 (.slice aX X.length cX) X.length (exNsCells X)) := ownsRow_below HO1.out hb2
  have HB2 : Hid (Below w.heap.size w w2) := HB1.out.trans (hb2.mono HB1.out.size)
  clear hb2 HP1 HO1 HB1
  rcases hcase with ⟨S, hS, rfl⟩ | ⟨hS, zc, hzl, hzo, rfl⟩
  case inr =>
    have HzL : Hid (zc.length = 258) := hzl
    have HzO : Hid (∀ u ∈ zc, u.oneCell' = true) := hzo
    have HzI : Hid ((Try.prog.info? 61).map (·.size) = some zc.length) := by show _ = _; rw [HzL.out]; exact info_state
    have HzZ : Hid (Try.zeroCells61.size = zc.length) := by show _ = _; rw [zero_state, List.size_toArray, HzL.out]; simp [svHead, lrnCells_length]
    have Hno : Hid (O = none) := hS
    clear hzl hzo hS
    have HB3 : Hid (Below w.heap.size w (w2.alloc (.cells zc.toArray 61))) := HB2.out.alloc HB2.out.size _
    go_wp2_with (refine wpList_store_new rfl 61 (.tmp 10) (.tmp 24) rfl _ zc rfl rfl HzI.out HzZ.out HzO.out ?_)
    go_ret2
    exact ⟨.inl ⟨Hno.out, rfl⟩, HB3.out⟩
  have HSo : Hid (S.Ok) := HOk.out S hS
  have HS : Hid (O = some S) := hS
  clear hS
  rw [rdCells_st]
  obtain ⟨st, Hst⟩ : ∃ st, Hid (svSt S = st) := ⟨_, (rfl : _ = _)⟩
  obtain ⟨m, Hm⟩ : ∃ m, Hid (bs S.m4 = m) := ⟨_, (rfl : _ = _)⟩
  rw [Hst.out, Hm.out]
  have hmz : m.size = 4 := by rw [← Hm.out, bs_size]; exact HSo.out.m4
  have hst4 : st.steps ≤ 400 := by rw [← Hst.out]; exact HSo.out.n
  obtain ⟨zc, Hzc⟩ : ∃ zc, Hid (stCells m st = zc) := ⟨_, (rfl : _ = _)⟩
  have HzL : Hid (zc.length = 258) := by show _ = _; rw [← Hzc.out]; simp [stCells, svHead, lrnCells_length]
  have HzO : Hid (∀ u ∈ zc, u.oneCell' = true) := by
    show ∀ u ∈ zc, _
    rw [← Hzc.out]
    refine cells_one (lrnCells st) (fun u hu => ?_) _ _
    unfold lrnCells at hu
    rcases List.mem_append.1 hu with hu | hu
    · exact tabw_one _ _ u hu
    · exact tab_one _ _ u hu
  have HzI : Hid ((Try.prog.info? 61).map (·.size) = some zc.length) := by show _ = _; rw [HzL.out]; exact info_state
  have HzZ : Hid (Try.zeroCells61.size = zc.length) := by show _ = _; rw [zero_state, List.size_toArray, HzL.out]; simp [svHead, lrnCells_length]
  rw [Hzc.out]
  have HB3 : Hid (Below w.heap.size w (w2.alloc (.cells zc.toArray 61))) := HB2.out.alloc HB2.out.size _
  have HP3 : Hid (ProgRun (w2.alloc (.cells zc.toArray 61)) g ⟨sd, bt, ra, mo, de⟩ mk (.slice aX X.length cX) St.zero) := CellsAt.alloc HP2.out _
  have HO3 : Hid ((w2.alloc (.cells zc.toArray 61)).ownsRow w0.heap.size 72 2 (.slice aX X.length cX) X.length (exNsCells X)) := ownsRow_below HO2.out ((Below.refl _ _).alloc (Nat.le_refl _) _)
  have HZ3 : Hid (SvAt (w2.alloc (.cells zc.toArray 61)) w2.heap.size m st) := by
    have h := CellsAt.new w2 zc.toArray zc 61 rfl rfl
    rw [← Hzc.out] at h ⊢
    exact h
  have hgne : Hid (g ≠ w2.heap.size) := by have := CellsAt.lt HP2.out; show g ≠ w2.heap.size; omega
  clear HB2 HP2 HO2
  go_wp2_with (refine wpList_store_new rfl 61 (.tmp 10) (.tmp 24) rfl _ zc rfl rfl HzI.out HzZ.out HzO.out ?_)
  generalize w2.alloc (.cells zc.toArray 61) = w3 at *
  generalize w2.heap.size = gT at *
  have e0 : w3.cell? ⟨gT, 0, none⟩ = some (.string m) := CellsAt.cell HZ3.out 0
  have e5 : w3.cell? ⟨g, 5, none⟩ = some (.string mk) := CellsAt.cell HP3.out 5
  by_cases hmm : m = mk
  case neg =>
    have hne : (!m.toList == mk.toList) = true := by
      rw [str_beq, decide_eq_false (fun h => hmm (ls_inj h))]
      rfl
    have Hne : Hid (bs S.m4 ≠ mk) := by show _ ≠ _; rw [Hm.out]; exact hmm
    clear hmm
    go_quiet (fail)
    go_wp2
    go_ret2
    exact ⟨.inr (.inl ⟨S, HS.out, Hne.out, rfl⟩), below_drewN HB3.out _⟩
  have HEq : Hid (bs S.m4 = mk) := by show _ = _; rw [Hm.out]; exact hmm
  have heq : (!m.toList == mk.toList) = false := by rw [hmm]; simp
  clear hmm
  go_quiet (fail)
  have HB4 : Hid (Below w.heap.size w (w3.drewN nq)) := below_drewN HB3.out _
  have HP4 : Hid (ProgRun (w3.drewN nq) g ⟨sd, bt, ra, mo, de⟩ mk (.slice aX X.length cX) St.zero) := HP3.out
  have HO4 : Hid ((w3.drewN nq).ownsRow w0.heap.size 72 2 (.slice aX X.length cX) X.length (exNsCells X)) := HO3.out
  have HZ4 : Hid (SvAt (w3.drewN nq) gT m st) := HZ3.out
  generalize w3.drewN nq = w4 at *
  clear HB3 HP3 HO3 HZ3 e0 e5 heq
  have e1 : w4.cell? ⟨gT, 1, none⟩ = some (.int .i64 st.steps) := CellsAt.cell HZ4.out 1
  have e7 : w4.cell? ⟨g, 7, none⟩ = some (.int .i64 0) := CellsAt.cell HP4.out 7
  have f7 : w4.frozen? ⟨g, 7, none⟩ = false := CellsAt.frozen HP4.out 7
  obtain ⟨lc, Hlc⟩ : ∃ lc, Hid (lrnCells st = lc) := ⟨_, (rfl : _ = _)⟩
  have HlL : Hid (lc.length = 256) := by show _ = _; rw [← Hlc.out]; exact lrnCells_length st
  have HlI : Hid ((Try.prog.info? 57).map (·.size) = some lc.length) := by show _ = _; rw [HlL.out]; exact info_lrn
  have HlO : Hid (∀ u ∈ lc, u.oneCell' = true) := by
    show ∀ u ∈ lc, _
    rw [← Hlc.out]
    intro u hu
    unfold lrnCells at hu
    rcases List.mem_append.1 hu with hu | hu
    · exact tabw_one _ _ u hu
    · exact tab_one _ _ u hu
  have HP5 : Hid (CellsAt (w4.setCell ⟨g, 7, none⟩ (.int .i64 st.steps)) g 59 (prHead ⟨sd, bt, ra, mo, de⟩ mk (.slice aX X.length cX) st.steps ++ (lrnCells St.zero ++ []))) := by
    have h := CellsAt.set HP4.out 7 (.int .i64 st.steps)
    rw [pr_steps] at h
    exact h
  have HR5 : Hid ((w4.setCell ⟨g, 7, none⟩ (.int .i64 st.steps)).rangeAt gT 2 lc) := by
    have h := CellsAt.rangeAt (A := svHead m st.steps) (B := lrnCells st) (C := []) (CellsAt.other HZ4.out (fun e => hgne.out e.symm) 7 (.int .i64 st.steps))
    rw [Hlc.out] at h
    exact h
  have HT5 : Hid ((w4.setCell ⟨g, 7, none⟩ (.int .i64 st.steps)).there g 8 lc.toArray.size) := by
    show World.there _ _ _ lc.length
    rw [HlL.out]
    exact CellsAt.thereAt HP5.out 8 256 (by simp [prHead, lrnCells_length])
  have HP6 : Hid (ProgRun ((w4.setCell ⟨g, 7, none⟩ (.int .i64 st.steps)).setCells g 8 lc) g ⟨sd, bt, ra, mo, de⟩ mk (.slice aX X.length cX) st) := by
    have h := CellsAt.sets lc (prHead ⟨sd, bt, ra, mo, de⟩ mk (.slice aX X.length cX) st.steps) (lrnCells St.zero) [] (by rw [lrnCells_length, HlL.out]) HP5.out
    rw [← Hlc.out] at h ⊢
    exact h
  have HB6 : Hid (Below w.heap.size w ((w4.setCell ⟨g, 7, none⟩ (.int .i64 st.steps)).setCells g 8 lc)) := below_sets (HB4.out.setCell (p := ⟨g, 7, none⟩) Hg.out _) Hg.out 8 lc
  have HO6 : Hid (((w4.setCell ⟨g, 7, none⟩ (.int .i64 st.steps)).setCells g 8 lc).ownsRow w0.heap.size 72 2 (.slice aX X.length cX) X.length (exNsCells X)) := by
    have hne : ∀ j, (Value.slice aX X.length cX).ownBlock = some j → ¬ j = g := fun j hj e => by
      subst e
      exact own_ne HO4.out HP4.out (by decide) hj
    exact ownsRow_spared (S := fun j => j = g) HO4.out ((Spared.of_set w4 g 7 (.int .i64 st.steps)).trans (spared_sets g lc 8 _) (fun _ _ h => h)) hne
  generalize st.steps = sp at *
  go_wp2_with (first
    | (refine wpList_load_mid rfl 57 (.tmp 41) rfl _ _ rfl lc _ HR5.out Try.underlying57 rfl HlI.out ?_)
    | (refine wpList_store_mid rfl 57 (.tmp 44) (.tmp 42) rfl _ _ lc.toArray rfl rfl HT5.out (by rw [List.size_toArray]; exact HlI.out) (all_oneCell_toArray HlO.out) ?_))
  go_ret2
  refine ⟨.inr (.inr ⟨S, g, HS.out, HEq.out, rfl, Hg.out, ?_⟩), HB6.out⟩
  rw [Hst.out]
  exact ⟨aX, cX, w0.heap.size, HP6.out, HO6.out⟩
end Go.Proofs.Ytfpodnleimhohab

/-
  PLAIN MATHEMATICS: the sum tells every change within one byte.
-/
namespace Go.Proofs.Ytfpodnleimhohab
open Go.RowKit

theorem xor32 (a b : Int) (h1 : 0 ≤ a) (h2 : a ≤ 4294967295) (h3 : 0 ≤ b) (h4 : b ≤ 4294967295) : bits BinOp.xor IntKind.u32 a b = ((a.toNat ^^^ b.toNat : Nat) : Int) := u32_xor a b h1 (by omega) h3 (by omega)
theorem xor_cancel_right {a b c : Nat} (h : a ^^^ c = b ^^^ c) : a = b := by
  have := congrArg (· ^^^ c) h
  simpa [Nat.xor_assoc, Nat.xor_self] using this
theorem xor_cancel_left {a b c : Nat} (h : c ^^^ a = c ^^^ b) : a = b := by
  rw [Nat.xor_comm c a, Nat.xor_comm c b] at h
  exact xor_cancel_right h
/-- The mask has the highest bit. -/
theorem mask_high (x : Nat) (h : x < 2147483648) : 2147483648 ≤ x ^^^ 3988292384 := by
  have h31 : (x ^^^ 3988292384).testBit 31 = true := by
    rw [Nat.testBit_xor, Nat.testBit_lt_two_pow (show x < 2 ^ 31 by simpa using h)]
    decide
  have := Nat.ge_two_pow_of_testBit h31
  simpa using this
theorem bitStep_inj {y z : Int} (hy : 0 ≤ y) (hy2 : y ≤ 4294967295) (hz : 0 ≤ z) (hz2 : z ≤ 4294967295) (e : bitStep y = bitStep z) : y = z := by
  have oy : ∀ v : Int, 0 ≤ v → v ≤ 4294967295 → bitStep v = if v % 2 = 1 then (((v / 2).toNat ^^^ 3988292384 : Nat) : Int) else v / 2 := by
    intro v h1 h2
    unfold bitStep
    by_cases hv : v % 2 = 1
    · rw [if_pos (by simp [hv]), if_pos hv, xor32 (v / 2) 3988292384 (by omega) (by omega) (by omega) (by omega)]
      rfl
    · rw [if_neg (by simpa using hv), if_neg hv]
  rw [oy y hy hy2, oy z hz hz2] at e
  have my := mask_high (y / 2).toNat (by omega)
  have mz := mask_high (z / 2).toNat (by omega)
  by_cases h1 : y % 2 = 1
  · by_cases h2 : z % 2 = 1
    · rw [if_pos h1, if_pos h2] at e
      have e2 : (y / 2).toNat = (z / 2).toNat := xor_cancel_right (c := 3988292384) (Int.ofNat.inj e)
      omega
    · rw [if_pos h1, if_neg h2] at e
      omega
  · by_cases h2 : z % 2 = 1
    · rw [if_neg h1, if_pos h2] at e
      omega
    · rw [if_neg h1, if_neg h2] at e
      omega
theorem bitsUp_inj {y z : Int} (hy : 0 ≤ y) (hy2 : y ≤ 4294967295) (hz : 0 ≤ z) (hz2 : z ≤ 4294967295) : ∀ n, bitsUp y n = bitsUp z n → y = z
  | 0, e => e
  | n + 1, e => by
    have a := bitsUp_bd y hy hy2 n
    have b := bitsUp_bd z hz hz2 n
    exact bitsUp_inj hy hy2 hz hz2 n (bitStep_inj a.1 a.2 b.1 b.2 e)
theorem crcByte_inj {x y : Int} (hx : 0 ≤ x) (hx2 : x ≤ 4294967295) (hy : 0 ≤ y) (hy2 : y ≤ 4294967295) (c : UInt8) (e : crcByte x c = crcByte y c) : x = y := by
  have hc := c.toNat_lt
  have q := bitsUp_inj (bits_bd _ _ _).1 (bits_bd _ _ _).2 (bits_bd _ _ _).1 (bits_bd _ _ _).2 8 e
  rw [xor32 x _ hx hx2 (by omega) (by omega), xor32 y _ hy hy2 (by omega) (by omega)] at q
  have := xor_cancel_right (Int.ofNat.inj q)
  omega
theorem crcByte_inj2 {x : Int} (hx : 0 ≤ x) (hx2 : x ≤ 4294967295) {c d : UInt8} (e : crcByte x c = crcByte x d) : c = d := by
  have hc := c.toNat_lt
  have hd := d.toNat_lt
  have q := bitsUp_inj (bits_bd _ _ _).1 (bits_bd _ _ _).2 (bits_bd _ _ _).1 (bits_bd _ _ _).2 8 e
  rw [xor32 x _ hx hx2 (by omega) (by omega), xor32 x _ hx hx2 (by omega) (by omega)] at q
  have := xor_cancel_left (Int.ofNat.inj q)
  simp at this
  exact UInt8.toNat_inj.1 this
theorem foldl_crc_inj (r : List UInt8) : ∀ x y : Int, 0 ≤ x → x ≤ 4294967295 → 0 ≤ y → y ≤ 4294967295 → r.foldl crcByte x = r.foldl crcByte y → x = y := by
  induction r with
  | nil => intro x y _ _ _ _ e; exact e
  | cons c r ih =>
    intro x y a b p q e
    exact crcByte_inj a b p q c (ih _ _ (crcByte_bd x c).1 (crcByte_bd x c).2 (crcByte_bd y c).1 (crcByte_bd y c).2 e)
/-- Two texts that part in one byte alone have two sums. -/
theorem crc_byte (l r : List UInt8) (c d : UInt8) (e : crc (l ++ c :: r) = crc (l ++ d :: r)) : c = d := by
  have hb := crcRaw_bd l
  have e1 : crcRaw (l ++ c :: r) = crcRaw (l ++ d :: r) := by
    have a := crcRaw_bd (l ++ c :: r)
    have b := crcRaw_bd (l ++ d :: r)
    unfold crc at e
    rw [xor32 _ _ a.1 a.2 (by omega) (by omega), xor32 _ _ b.1 b.2 (by omega) (by omega)] at e
    have := xor_cancel_right (Int.ofNat.inj e)
    omega
  unfold crcRaw at e1 hb
  rw [List.foldl_append, List.foldl_append, List.foldl_cons, List.foldl_cons] at e1
  exact crcByte_inj2 hb.1 hb.2 (foldl_crc_inj r _ _ (crcByte_bd _ c).1 (crcByte_bd _ c).2 (crcByte_bd _ d).1 (crcByte_bd _ d).2 e1)
theorem le_inj (k : Nat) : ∀ a b : Int, 0 ≤ a → 0 ≤ b → a < 256 ^ k → b < 256 ^ k → le a k = le b k → a = b := by
  induction k with
  | zero => intro a b ha hb ha2 hb2 _; simp at ha2 hb2; omega
  | succ k ih =>
    intro a b ha hb ha2 hb2 e
    have hp : (256 : Int) ^ (k + 1) = 256 ^ k * 256 := Int.pow_succ ..
    rw [hp] at ha2 hb2
    simp only [le, List.cons.injEq] at e
    have e1 : a % 256 = b % 256 := by
      have t1 := by8_toNat (a % 256) (by omega) (by omega)
      have t2 := by8_toNat (b % 256) (by omega) (by omega)
      rw [e.1] at t1
      omega
    have e2 := ih (a / 256) (b / 256) (by omega) (by omega) (by omega) (by omega) e.2
    omega
end Go.Proofs.Ytfpodnleimhohab

/-
  PLAIN MATHEMATICS: a save that is spoilt is none.
-/
namespace Go.Proofs.Ytfpodnleimhohab
open Go.RowKit

theorem crc_lt (l : List UInt8) : crc l < 256 ^ 4 := by
  have := (crc_bd l).2
  have e : (256 : Int) ^ 4 = 4294967296 := by decide
  omega
theorem crc_le_inj {a b : List UInt8} (h : le (crc a) 4 = le (crc b) 4) : crc a = crc b := le_inj 4 _ _ (crc_bd a).1 (crc_bd b).1 (crc_lt a) (crc_lt b) h
/-- Two texts with their sums, of one length, that part in one byte at most, are one. -/
theorem summed_byte {B B' L R : List UInt8} {a c : UInt8} (h : B ++ le (crc B) 4 = L ++ a :: R) (h' : B' ++ le (crc B') 4 = L ++ c :: R) : a = c := by
  have hl : B'.length = B.length := by
    have e1 := congrArg List.length h
    have e2 := congrArg List.length h'
    simp only [List.length_append, List.length_cons, le_length] at e1 e2
    omega
  rcases Nat.lt_or_ge L.length B.length with hi | hi
  · have t1 : B = L ++ a :: R.take (B.length - L.length - 1) := by
      have e := congrArg (List.take B.length) h
      rw [List.take_left, List.take_append, List.take_of_length_le (by omega)] at e
      rw [show B.length - L.length = (B.length - L.length - 1) + 1 by omega, List.take_succ_cons] at e
      exact e
    have t2 : B' = L ++ c :: R.take (B.length - L.length - 1) := by
      have e := congrArg (List.take B'.length) h'
      rw [List.take_left, hl, List.take_append, List.take_of_length_le (by omega)] at e
      rw [show B.length - L.length = (B.length - L.length - 1) + 1 by omega, List.take_succ_cons] at e
      exact e
    have d1 : le (crc B) 4 = R.drop (B.length - L.length - 1) := by
      have e := congrArg (List.drop B.length) h
      rw [List.drop_left, List.drop_append, List.drop_eq_nil_of_le (by omega), List.nil_append] at e
      rw [show B.length - L.length = (B.length - L.length - 1) + 1 by omega, List.drop_succ_cons] at e
      exact e
    have d2 : le (crc B') 4 = R.drop (B.length - L.length - 1) := by
      have e := congrArg (List.drop B'.length) h'
      rw [List.drop_left, hl, List.drop_append, List.drop_eq_nil_of_le (by omega), List.nil_append] at e
      rw [show B.length - L.length = (B.length - L.length - 1) + 1 by omega, List.drop_succ_cons] at e
      exact e
    have hc := crc_le_inj (d1.trans d2.symm)
    generalize R.take (B.length - L.length - 1) = X at t1 t2
    rw [t1, t2] at hc
    exact crc_byte _ _ _ _ hc
  · have t1 : B = L.take B.length := by
      have e := congrArg (List.take B.length) h
      rw [List.take_left, List.take_append_of_le_length hi] at e
      exact e
    have t2 : B' = L.take B.length := by
      have e := congrArg (List.take B'.length) h'
      rw [List.take_left, hl, List.take_append_of_le_length hi] at e
      exact e
    have hB : B = B' := t1.trans t2.symm
    subst hB
    have e := h.symm.trans h'
    simpa using e
theorem spoilt_byte {s : Sv} {L R : List UInt8} {a c : UInt8} (h : saveL s = L ++ a :: R) (hc : c ≠ a) : pRead (L ++ c :: R) = none := by
  cases hp : pRead (L ++ c :: R) with
  | none => rfl
  | some s' =>
    obtain ⟨_, e⟩ := pRead_some hp
    exact absurd (summed_byte (a := a) (c := c) h e.symm).symm hc
theorem save_pre {s s' : Sv} (h : s.Ok) (h' : s'.Ok) {r : List UInt8} (e : saveL s = saveL s' ++ r) : r = [] := by
  have d1 := (save_head s h (le (crc (bodyL s)) 4)).2.2
  have d2 := (save_head s' h' (le (crc (bodyL s')) 4 ++ r)).2.2
  unfold saveL at e
  rw [List.append_assoc] at e
  rw [e] at d1
  have q := d1.symm.trans d2
  have q1 := congrArg rdNums q
  rw [rdNums_nums h.n h.w h.v h.wz h.vz, rdNums_nums h'.n h'.w h'.v h'.wz h'.vz] at q1
  simp only [Option.some.injEq, Prod.mk.injEq] at q1
  have q2 := congrArg List.length q1.2.2.2
  simp only [List.length_append, le_length] at q2
  exact List.eq_nil_of_length_eq_zero (by omega)
theorem spoilt_cut {s : Sv} (h : s.Ok) {i : Nat} (hi : i < (saveL s).length) : pRead ((saveL s).take i) = none := by
  cases hp : pRead ((saveL s).take i) with
  | none => rfl
  | some s' =>
    obtain ⟨h', e⟩ := pRead_some hp
    have q := save_pre h h' (r := (saveL s).drop i) (by rw [← e, List.take_append_drop])
    have := congrArg List.length q
    simp at this
    omega
theorem spoilt_more {s : Sv} (h : s.Ok) (c : UInt8) : pRead (saveL s ++ [c]) = none := by
  cases hp : pRead (saveL s ++ [c]) with
  | none => rfl
  | some s' =>
    obtain ⟨h', e⟩ := pRead_some hp
    have q := save_pre h' h e.symm
    simp at q
/-- The seed with its lowest bit turned. -/
theorem xor_one (x : Nat) : (x ^^^ 1) / 2 = x / 2 ∧ (x ^^^ 1) % 2 ≠ x % 2 := by
  refine ⟨by rw [Nat.xor_div_two]; simp, ?_⟩
  intro e
  have h := Nat.testBit_xor x 1 0
  simp only [Nat.testBit_zero] at h
  rw [e] at h
  by_cases h2 : x % 2 = 1 <;> simp [h2] at h
theorem mark_seed {c d : Cf} (hd : d = ⟨c.seed ^^^ 1, c.batch, c.rate, c.mom, c.decay⟩) (s : ByteArray) : markB d s ≠ markB c s := by
  subst hd
  intro e
  unfold markB at e
  have e2 := crc_le_inj (bs_inj e)
  obtain ⟨x1, x2⟩ := xor_one c.seed
  unfold markL at e2
  rw [show (8 : Nat) = 7 + 1 from rfl] at e2
  simp only [le, List.cons_append] at e2
  have h7 : (((c.seed ^^^ 1 : Nat) : Int)) / 256 = (c.seed : Int) / 256 := by omega
  rw [h7] at e2
  have e3 := crc_byte [] _ _ _ e2
  have t1 := by8_toNat (((c.seed ^^^ 1 : Nat) : Int) % 256) (by omega) (by omega)
  have t2 := by8_toNat ((c.seed : Int) % 256) (by omega) (by omega)
  rw [e3] at t1
  omega
end Go.Proofs.Ytfpodnleimhohab

/-
  WALKS: runs saved and loaded, as the statements hold them.
-/
namespace Go.Proofs.Ytfpodnleimhohab
open Go.RowKit
set_option linter.unusedVariables false
variable {mk : ByteArray}

theorem begun_full (cf : Cf) (hcf : cf.Ok) (a0 : Option Addr) (len0 cap0 : Nat) (L0 : Nat → Int) (T0 : Nat → ByteArray) (a1 : Option Addr) (len1 cap1 : Nat) (T1 : Nat → ByteArray) (w : World)
    (h0 : IsExs w a0 len0 cap0 L0 T0) (hm0 : len0 ≤ maxLen) (h1 : IsStrs w a1 len1 cap1 T1) (hm1 : len1 ≤ maxLen) :
    Calls Try.prog 6 #[.agg #[.int .u64 cf.seed, .int .u8 cf.batch, .int .i32 cf.rate, .int .i32 cf.mom, .int .u8 cf.decay], .slice a0 len0 cap0, .slice a1 len1 cap1] w fun e w' => ∃ g s, e = .returned (.tuple #[.pointer (some ⟨g, 0, none⟩), .string s, .int .i64 ((exs len0 L0 T0).length : Nat)]) ∧ w.heap.size ≤ g ∧
      RunIs w' g cf (markB cf s) (exNat (exs len0 L0 T0)) St.zero ∧ (s.size ≤ 600 ∧ exsOf (recs (ls s)) = exNat (exs len0 L0 T0)) ∧ Below w.heap.size w w' := by
  have h := begun_any cf.raw (Cf.raw_wf hcf) (Cf.raw_ok hcf) a0 len0 cap0 L0 T0 a1 len1 cap1 T1 w h0 hm0 h1 hm1
  rw [Cf.raw_cf] at h
  have hX8 := exs_len len0 L0 T0
  have hl1 := layFrom_len (noiseL T1 len1) (noiseL_le T1 len1) (framesL (exs len0 L0 T0)) 0 (framesL_le (exs_ok len0 L0 T0))
  have hl2 : (framesL (exs len0 L0 T0)).length = (exs len0 L0 T0).length := by simp [framesL]
  obtain ⟨hrl1, hrl2⟩ := lay_recs (noiseL T1 len1) (noiseL_213 T1 len1) (exs len0 L0 T0) (exs_ok len0 L0 T0)
  refine h.mono ?_
  rintro e w' ⟨g, vX, rfl, hg, hP, hO, hb⟩
  obtain ⟨aX, cX, rfl, _, _, _⟩ := own_read hO
  refine ⟨g, _, rfl, hg, ⟨aX, cX, w.heap.size, ?_, ?_⟩, ⟨?_, ?_⟩, hb⟩
  · rw [exNat_length]; exact hP
  · rw [exNat_length]; exact hO
  · rw [bs_size]; omega
  · rw [ls_bs]; exact hrl1
theorem save_run (g : Nat) (cf : Cf) (hmk : mk.size ≤ 100) (X : List Ex) (st : St) (hst : st.Ok) (w : World) (hR : RunIs w g cf mk X st) :
    Calls Try.prog 9 #[.pointer (some ⟨g, 0, none⟩)] w fun e w' => e = .returned (.string (bs (saveL (svOf mk st)))) ∧ Below w.heap.size w w' := by
  obtain ⟨aX, cX, bX, h1, _⟩ := hR
  exact progSave_any g cf hmk _ st hst w h1
/-- What a save of a run is read back as. -/
def svCut (mk : ByteArray) (st : St) : Sv := ⟨ls mk, st.steps, cut128 (flat st.w), cut128 (flat st.v)⟩
theorem svCut_ok {st : St} (hst : st.Ok) (h4 : mk.size = 4) : (svCut mk st).Ok := by
  refine ⟨by show (ls mk).length = 4; rw [ls_length]; exact h4, hst.steps, fun x hx => ?_, fun x hx => ?_, fun x hx => if_neg (by omega), fun x hx => if_neg (by omega)⟩
  · show -16777216 ≤ cut128 _ x ∧ cut128 _ x ≤ 16777216
    unfold cut128
    rw [if_pos hx]
    exact flat_bd hst.w x hx
  · show -1073741824 ≤ cut128 _ x ∧ cut128 _ x ≤ 1073741824
    unfold cut128
    rw [if_pos hx]
    exact flat_bd hst.v x hx
theorem svCut_save (mk : ByteArray) (st : St) : saveL (svOf mk st) = saveL (svCut mk st) := (saveL_cut _ _ _ _).symm
theorem svCut_read {st : St} (hst : st.Ok) (h4 : mk.size = 4) : pRead (saveL (svOf mk st)) = some (svCut mk st) := by
  rw [svCut_save]; exact pRead_save (svCut_ok hst h4)
theorem svCut_st {w : World} {g : Nat} {cf : Cf} {m : ByteArray} {X : List Ex} {st : St} (h : RunIs w g cf m X (svSt (svCut mk st))) : RunIs w g cf m X st := by
  obtain ⟨a, c, b, h1, h2⟩ := h
  refine ⟨a, c, b, ?_, h2⟩
  have e : lrnCells (svSt (svCut mk st)) = lrnCells st := by
    obtain ⟨n, tw, tv⟩ := st
    refine lrn_tabs _ _ (fun c b hc hb => ?_) (fun c b hc hb => ?_)
    · show cut128 (flat tw) (c * 32 + b) = tw c b
      unfold cut128
      rw [if_pos (by omega), flat_at _ hb]
    · show cut128 (flat tv) (c * 32 + b) = tv c b
      unfold cut128
      rw [if_pos (by omega), flat_at _ hb]
  have h3 : CellsAt w g 59 (prHead cf m (.slice a X.length c) st.steps ++ (lrnCells (svSt (svCut mk st)) ++ [])) := h1
  rw [e] at h3
  exact h3
theorem load_run (cf : Cf) (hcf : cf.Ok) (s : ByteArray) (hs : s.size ≤ 600) (X : List Ex) (hX : exsOf (recs (ls s)) = X) (hn1 : 1 ≤ X.length) (st : St) (hst : st.Ok) (w : World) :
    Calls Try.prog 10 #[.agg #[.int .u64 cf.seed, .int .u8 cf.batch, .int .i32 cf.rate, .int .i32 cf.mom, .int .u8 cf.decay], .string s, .string (bs (saveL (svOf (markB cf s) st)))] w fun e w' => ∃ g, e = .returned (.tuple #[.pointer (some ⟨g, 0, none⟩), .int .i64 0]) ∧ w.heap.size ≤ g ∧ RunIs w' g cf (markB cf s) X st ∧ Below w.heap.size w w' := by
  have hm := markB_size cf s
  have hr := svCut_read (mk := markB cf s) hst hm
  have hl := saveL_length _ (svCut_ok (mk := markB cf s) hst hm)
  rw [← svCut_save] at hl
  have hne : 0 < (recs (ls s)).length := by
    have : (exsOf (recs (ls s))).length = (recs (ls s)).length := by simp [exsOf]
    rw [hX] at this
    omega
  refine (progLoad_any cf hcf s hs hne (bs (saveL (svOf (markB cf s) st))) (by rw [bs_size]; unfold maxLen; omega) w).mono ?_
  rintro e w' ⟨h, hb⟩
  unfold LoadIs at h
  rw [ls_bs, hr, hX] at h
  rcases h with ⟨h, _⟩ | ⟨S, h, hne, _⟩ | ⟨S, g, h, _, rfl, hg, hR⟩
  · simp at h
  · simp only [Option.some.injEq] at h
    subst h
    exact absurd (bs_ls _) hne
  · simp only [Option.some.injEq] at h
    subst h
    exact ⟨g, rfl, hg, svCut_st hR, hb⟩
theorem load_bad (cf : Cf) (hcf : cf.Ok) (s : ByteArray) (hs : s.size ≤ 600) (X : List Ex) (hX : exsOf (recs (ls s)) = X) (hn1 : 1 ≤ X.length) (sv : ByteArray) (hsv : sv.size ≤ maxLen) (hp : pRead (ls sv) = none) (w : World) :
    Calls Try.prog 10 #[.agg #[.int .u64 cf.seed, .int .u8 cf.batch, .int .i32 cf.rate, .int .i32 cf.mom, .int .u8 cf.decay], .string s, .string sv] w fun e w' => e = .returned (.tuple #[.pointer none, .int .i64 8]) ∧ Below w.heap.size w w' := by
  have hne : 0 < (recs (ls s)).length := by
    have : (exsOf (recs (ls s))).length = (recs (ls s)).length := by simp [exsOf]
    rw [hX] at this
    omega
  refine (progLoad_any cf hcf s hs hne sv hsv w).mono ?_
  rintro e w' ⟨h, hb⟩
  unfold LoadIs at h
  rw [hp] at h
  rcases h with ⟨_, rfl⟩ | ⟨S, h, _⟩ | ⟨S, g, h, _⟩
  · exact ⟨rfl, hb⟩
  · simp at h
  · simp at h
theorem load_other (cf : Cf) (hcf : cf.Ok) (s : ByteArray) (hs : s.size ≤ 600) (X : List Ex) (hX : exsOf (recs (ls s)) = X) (hn1 : 1 ≤ X.length) (h4 : mk.size = 4) (hmk : mk ≠ markB cf s) (st : St) (hst : st.Ok) (w : World) :
    Calls Try.prog 10 #[.agg #[.int .u64 cf.seed, .int .u8 cf.batch, .int .i32 cf.rate, .int .i32 cf.mom, .int .u8 cf.decay], .string s, .string (bs (saveL (svOf mk st)))] w fun e w' => e = .returned (.tuple #[.pointer none, .int .i64 9]) ∧ Below w.heap.size w w' := by
  have hr := svCut_read (mk := mk) hst h4
  have hl := saveL_length _ (svCut_ok (mk := mk) hst h4)
  rw [← svCut_save] at hl
  have hne : 0 < (recs (ls s)).length := by
    have : (exsOf (recs (ls s))).length = (recs (ls s)).length := by simp [exsOf]
    rw [hX] at this
    omega
  refine (progLoad_any cf hcf s hs hne (bs (saveL (svOf mk st))) (by rw [bs_size]; unfold maxLen; omega) w).mono ?_
  rintro e w' ⟨h, hb⟩
  unfold LoadIs at h
  rw [ls_bs, hr] at h
  rcases h with ⟨h, _⟩ | ⟨S, h, _, rfl⟩ | ⟨S, g, h, he, _⟩
  · simp at h
  · exact ⟨rfl, hb⟩
  · simp only [Option.some.injEq] at h
    subst h
    exact absurd ((bs_ls mk).symm.trans he) hmk
end Go.Proofs.Ytfpodnleimhohab

/-
  THE STATEMENT 'Spoilt': the walk of the law, and its row.
-/
namespace Go.Proofs.Ytfpodnleimhohab
open Go.ChangeShapes Go.WideShapes Go.ChangeAt Go.RowKit
set_option linter.unusedVariables false
set_option linter.unusedSimpArgs false

theorem u8_turn (c : UInt8) (p : Nat) (h1 : 1 ≤ p) (h2 : p ≤ 255) : 0 ≤ bits BinOp.xor IntKind.u8 (c.toNat : Int) (p : Int) ∧ bits BinOp.xor IntKind.u8 (c.toNat : Int) (p : Int) ≤ 255 ∧ by8 (bits BinOp.xor IntKind.u8 (c.toNat : Int) (p : Int)) ≠ c := by
  have hc := c.toNat_lt
  have e : bits BinOp.xor IntKind.u8 (c.toNat : Int) (p : Int) = ((c.toNat ^^^ p : Nat) : Int) := u8_xor (c.toNat : Int) (p : Int) (by omega) (by omega) (by omega) (by omega)
  have hx : c.toNat ^^^ p < 2 ^ 8 := Nat.xor_lt_two_pow (by omega) (by omega)
  rw [e]
  refine ⟨by omega, by omega, fun h => ?_⟩
  have t := by8_toNat ((c.toNat ^^^ p : Nat) : Int) (by omega) (by omega)
  rw [h] at t
  have q : c.toNat ^^^ p = c.toNat ^^^ 0 := by simp only [Nat.xor_zero]; omega
  have := xor_cancel_left q
  omega
/-- A block of one byte, just laid, as a string; .. behind a draw. -/
theorem conv1d (w : World) (g : Nat) (hg : g = w.heap.size) (a : Int) :
    (convert 42 9 (.slice (some ⟨g, 0, none⟩) 1 1)).run Try.prog (w.alloc (.cells #[.int .u8 a] 5)).drew = .ok (.string (bs [by8 a])) (w.alloc (.cells #[.int .u8 a] 5)).drew := by
  subst hg
  refine (run_convert_bytes_arg (P := Try.prog) (w.alloc (.cells #[.int .u8 a] 5)).drew 42 5 Try.underlying42 Try.underlying5 w.heap.size 0 1 1 [a] rfl ?_ 9 Try.underlying9)
  intro i hi
  obtain rfl : i = 0 := by omega
  simp [go_sem]

set_option maxRecDepth 100000 in
set_option maxHeartbeats 8000000 in
theorem spoilt_walk (r : Raw) (hw : r.Wf) (a0 : Option Addr) (len0 cap0 : Nat) (L0 : Nat → Int) (T0 : Nat → ByteArray) (ca ct cy : Int) (ha0 : -9223372036854775808 ≤ ca) (ha1 : ca ≤ 9223372036854775807) (ht0 : -9223372036854775808 ≤ ct) (ht1 : ct ≤ 9223372036854775807) (hy0 : -9223372036854775808 ≤ cy) (hy1 : cy ≤ 9223372036854775807) (w : World)
    (h0 : IsExs w a0 len0 cap0 L0 T0) (hm0 : len0 ≤ maxLen) :
    Calls Try.prog 4 #[.agg r.cells.toArray, .slice a0 len0 cap0, .int .i64 ca, .int .i64 ct, .int .i64 cy] w fun e w' => e = .returned (.bool true) ∧ Below w.heap.size w w' := by
  have HSet : Hid (∀ w1, _) := fun w1 => settings_any r hw w1
  have HcOk : Hid (setN r).Ok := setN_ok r hw
  obtain ⟨cf, Hcf⟩ : ∃ cf, Hid (setN r = cf) := ⟨_, (rfl : _ = _)⟩
  rw [Hcf.out] at HSet HcOk
  have HBeg : Hid (∀ w1 aS lS cS TS, IsExs w1 a0 len0 cap0 L0 T0 → IsStrs w1 aS lS cS TS → lS ≤ maxLen → _) := fun w1 aS lS cS TS h1 h2 h3 => begun_full cf HcOk.out a0 len0 cap0 L0 T0 aS lS cS TS w1 h1 hm0 h2 h3
  have hX8 := exs_len len0 L0 T0
  have HXok : Hid _ := exNat_ok (exs_ok len0 L0 T0)
  have hXl := exNat_length (exs len0 L0 T0)
  obtain ⟨X, HXe⟩ : ∃ X, Hid (exNat (exs len0 L0 T0) = X) := ⟨_, (rfl : _ = _)⟩
  rw [HXe.out] at HXok HBeg hXl
  have hX1 : 1 ≤ X.length ∧ X.length ≤ 600 := by omega
  clear hX8 hXl
  have H0 : Hid (IsExs w a0 len0 cap0 L0 T0) := h0
  generalize (exs len0 L0 T0).length = nX at *
  clear h0 hw Hcf HXe
  obtain ⟨sd, bt, ra, mo, de⟩ := r
  show Calls Try.prog 4 #[.agg #[.int .u64 sd, .int .u8 bt, .int .i32 ra, .int .i32 mo, .int .u8 de], .slice a0 len0 cap0, .int .i64 ca, .int .i64 ct, .int .i64 cy] w _
  go_enter Try.func4, Try.ntmps4
  go_wp2_with fail
  obtain ⟨w0, Hw0⟩ : ∃ w0, Hid (w.alloc (.cells #[.int .u64 sd, .int .u8 bt, .int .i32 ra, .int .i32 mo, .int .u8 de] 24) = w0) := ⟨_, (rfl : _ = _)⟩
  rw [Hw0.out]
  have HB0 : Hid (Below w.heap.size w w0) := by rw [← Hw0.out]; exact (Below.refl _ _).alloc (Nat.le_refl _) _
  clear Hw0
  refine (HSet.out _).mono ?_
  rintro e w1 ⟨rfl, hb1⟩
  have HB1 : Hid (Below w.heap.size w w1) := HB0.out.trans (hb1.mono HB0.out.size)
  clear hb1 HB0
  have HCe : Hid (cf.raw.cells.toArray = #[.int .u64 cf.seed, .int .u8 cf.batch, .int .i32 cf.rate, .int .i32 cf.mom, .int .u8 cf.decay]) := rfl
  rw [HCe.out]
  go_wp2_with fail
  have HB2 : Hid (Below w.heap.size w (w1.alloc (.cells #[.int .u64 cf.seed, .int .u8 cf.batch, .int .i32 cf.rate, .int .i32 cf.mom, .int .u8 cf.decay] 24))) := HB1.out.alloc HB1.out.size _
  have HC2 : Hid (CellsAt (w1.alloc (.cells #[.int .u64 cf.seed, .int .u8 cf.batch, .int .i32 cf.rate, .int .i32 cf.mom, .int .u8 cf.decay] 24)) w1.heap.size 24 [.int .u64 cf.seed, .int .u8 cf.batch, .int .i32 cf.rate, .int .i32 cf.mom, .int .u8 cf.decay]) := CellsAt.new _ _ _ _ rfl rfl
  generalize w1.alloc (.cells #[.int .u64 cf.seed, .int .u8 cf.batch, .int .i32 cf.rate, .int .i32 cf.mom, .int .u8 cf.decay] 24) = w2 at *
  generalize w1.heap.size = gC at *
  clear HB1
  refine (HBeg.out _ none 0 0 (fun _ => ByteArray.empty) (H0.out.later HB2.out) (.inl rfl) (Nat.zero_le _)).mono ?_
  rintro e w3 ⟨g1, s1, rfl, hg1, hR1, hss, hb3⟩
  have HB3 : Hid (Below w.heap.size w w3) := HB2.out.trans (hb3.mono HB2.out.size)
  have HC3 : Hid (CellsAt w3 gC 24 [.int .u64 cf.seed, .int .u8 cf.batch, .int .i32 cf.rate, .int .i32 cf.mom, .int .u8 cf.decay]) := CellsAt.later HC2.out hb3
  have HG1 : Hid (w.heap.size ≤ g1) := Nat.le_trans HB2.out.size hg1
  have HR3 : Hid (RunIs w3 g1 cf (markB cf s1) X St.zero) := hR1
  have HSz : Hid (s1.size ≤ 600) := hss.1
  have HSx : Hid (exsOf (recs (ls s1)) = X) := hss.2
  clear hg1 hR1 hb3 hss HB2 HC2
  have c0 := CellsAt.cell HC3.out 0
  have c1 := CellsAt.cell HC3.out 1
  have c2 := CellsAt.cell HC3.out 2
  have c3 := CellsAt.cell HC3.out 3
  have c4 := CellsAt.cell HC3.out 4
  simp only [List.getElem?_cons_zero, List.getElem?_cons_succ] at c0 c1 c2 c3 c4
  have hp := pickN_lt ca (n := 20) (by decide)
  obtain ⟨k, Hk⟩ : ∃ k, Hid (pickN ca 20 = k) := ⟨_, (rfl : _ = _)⟩
  rw [Hk.out] at hp
  obtain ⟨stE, HstE⟩ : ∃ stE, Hid (itN cf X St.zero k = stE) := ⟨_, (rfl : _ = _)⟩
  have HEok : Hid stE.Ok := by rw [← HstE.out]; exact itN_ok cf X St.zero St.zero_ok k (by show 0 + k ≤ 400; omega)
  have HEst : Hid (stE.steps ≤ 20) := by show _ ≤ _; rw [← HstE.out, itN_steps]; show 0 + k ≤ 20; omega
  have HSt : Hid (Calls Try.prog 7 #[.pointer (some ⟨g1, 0, none⟩), .agg #[.int .u64 cf.seed, .int .u8 cf.batch, .int .i32 cf.rate, .int .i32 cf.mom, .int .u8 cf.decay], .slice none 0 0, .int .i64 k] w3.drew fun e w' => ∃ v, e = .returned (.tuple #[v, .bool true]) ∧ RunIs w' g1 cf (markB cf s1) X stE ∧ Spared w3.drew w' (fun j => j = g1)) := by
    have h := steps_run (mk := markB cf s1) g1 cf HcOk.out X HXok.out hX1.1 hX1.2 St.zero St.zero_ok k (by show 0 + k ≤ 400; omega) none 0 0 (fun _ => 0) w3.drew (.inl rfl) (fun h => absurd rfl h) HR3.out
    refine Calls.mono h ?_
    rintro e w' ⟨v, rfl, _, h2, h3⟩
    rw [HstE.out] at h2
    exact ⟨v, rfl, h2, h3⟩
  have HCk : Hid (∀ w', Spared w3.drew w' (fun j => j = g1) → CellsAt w' gC 24 [.int .u64 cf.seed, .int .u8 cf.batch, .int .i32 cf.rate, .int .i32 cf.mom, .int .u8 cf.decay]) := fun w' hs => conf_other (show CellsAt w3.drew gC 24 _ from HC3.out) hs (show RunIs w3.drew g1 cf (markB cf s1) X St.zero from HR3.out)
  have HKp : Hid (∀ w', Spared w3.drew w' (fun j => j = g1) → w'.cell? ⟨gC, 0, none⟩ = some (.int .u64 cf.seed) ∧ w'.cell? ⟨gC, 1, none⟩ = some (.int .u8 cf.batch) ∧ w'.cell? ⟨gC, 2, none⟩ = some (.int .i32 cf.rate) ∧ w'.cell? ⟨gC, 3, none⟩ = some (.int .i32 cf.mom) ∧ w'.cell? ⟨gC, 4, none⟩ = some (.int .u8 cf.decay)) := fun w' hs => by
    have h := HCk.out w' hs
    exact ⟨CellsAt.cell h 0, CellsAt.cell h 1, CellsAt.cell h 2, CellsAt.cell h 3, CellsAt.cell h 4⟩
  go_wp2_with fail
  go_region_held_law (fun w' => w'.cell? ⟨gC, 0, none⟩ = some (.int .u64 cf.seed) ∧ w'.cell? ⟨gC, 1, none⟩ = some (.int .u8 cf.batch) ∧ w'.cell? ⟨gC, 2, none⟩ = some (.int .i32 cf.rate) ∧ w'.cell? ⟨gC, 3, none⟩ = some (.int .i32 cf.mom) ∧ w'.cell? ⟨gC, 4, none⟩ = some (.int .u8 cf.decay)) (first | exact HKp.out _ hS4 | go_keep) (first | (go_at_call 8; refine (pick_any ca 20 ha0 ha1 (by omega) (by omega) _).mono ?_; rintro e w' ⟨rfl, rfl⟩; rw [Hk.out]) | (go_at_call 7; refine HSt.out.mono ?_; rintro e w4 ⟨vA, rfl, hR4, hS4⟩))
  have HR4 : Hid (RunIs w4 g1 cf (markB cf s1) X stE) := hR4
  have HC4 : Hid (CellsAt w4 gC 24 [.int .u64 cf.seed, .int .u8 cf.batch, .int .i32 cf.rate, .int .i32 cf.mom, .int .u8 cf.decay]) := HCk.out _ hS4
  have HB4 : Hid (Below w.heap.size w w4) := HB3.out.trans ((Spared.below (show Spared w3 w4 (fun j => j = g1) from ⟨hS4.os, hS4.tape, hS4.output, hS4.size, hS4.block⟩) (fun j hj => by have := HG1.out; have e' : j = g1 := hj; omega) HB3.out.size))
  clear hR4 hS4 HSt HCk HKp c0 c1 c2 c3 c4 HR3 HC3 HB3
  have hmz : (markB cf s1).size ≤ 100 := by rw [markB_size]; omega
  have hm4 : (markB cf s1).size = 4 := markB_size cf s1
  obtain ⟨SV, HSV⟩ : ∃ SV, Hid (bs (saveL (svOf (markB cf s1) stE)) = SV) := ⟨_, (rfl : _ = _)⟩
  have HSl : Hid (12 ≤ SV.size ∧ SV.size ≤ 2600) := by
    show _ ∧ _
    rw [← HSV.out, bs_size, svCut_save]
    exact saveL_length _ (svCut_ok HEok.out hm4)
  go_wp2_with fail
  refine (save_run g1 cf hmz X stE HEok.out _ HR4.out).mono ?_
  rintro e w5 ⟨rfl, hb5⟩
  rw [HSV.out]
  have HR5 : Hid (RunIs w5 g1 cf (markB cf s1) X stE) := HR4.out.later hb5
  have HC5 : Hid (CellsAt w5 gC 24 [.int .u64 cf.seed, .int .u8 cf.batch, .int .i32 cf.rate, .int .i32 cf.mom, .int .u8 cf.decay]) := CellsAt.later HC4.out hb5
  have HB5 : Hid (Below w.heap.size w w5) := HB4.out.trans (hb5.mono HB4.out.size)
  clear hb5 HR4 HC4 HB4
  have hz12 := HSl.out.1
  have hz26 := HSl.out.2
  have hi := pickN_lt ct (n := SV.size) (by omega)
  obtain ⟨i, Hi⟩ : ∃ i, Hid (pickN ct SV.size = i) := ⟨_, (rfl : _ = _)⟩
  rw [Hi.out] at hi
  have hp2 := pickN_lt cy (n := 255) (by decide)
  obtain ⟨p, Hp⟩ : ∃ p, Hid (1 + pickN cy 255 = p) := ⟨_, (rfl : _ = _)⟩
  have hpp : 1 ≤ p ∧ p ≤ 255 := by rw [← Hp.out]; omega
  have hpi : (1 : Int) + (pickN cy 255 : Int) = (p : Int) := by rw [← Hp.out]; omega
  have hpw : IntKind.u8.wrap (p : Int) = (p : Int) := by rw [IntKind.wrap_u8]; omega
  obtain ⟨py, Hpy⟩ : ∃ py, Hid (pickN cy 255 = py) := ⟨_, (rfl : _ = _)⟩
  rw [Hpy.out] at hp2 hpi
  have HWr : Hid (IntKind.u8.wrap (IntKind.i64.wrap (1 + (py : Int))) = (p : Int)) := by
    show _ = _
    rw [hpi, wrap_small _ (by omega) (by omega), hpw]
  clear hpi hpw
  go_wp2_with fail
  refine (pick_any ct SV.size ht0 ht1 (by omega) (by omega) _).mono ?_
  rintro e w6 ⟨rfl, hw⟩
  have hw' := hw.symm
  clear hw
  subst hw'
  rw [Hi.out]
  obtain ⟨c, hcR⟩ : ∃ c, SV[i] = c := ⟨_, rfl⟩
  obtain ⟨tu0, tu1, tu2⟩ := u8_turn c p hpp.1 hpp.2
  obtain ⟨tb, Htb⟩ : ∃ tb, Hid (bits BinOp.xor IntKind.u8 (c.toNat : Int) (p : Int) = tb) := ⟨_, (rfl : _ = _)⟩
  rw [Htb.out] at tu0 tu1 tu2
  have Htu : Hid (by8 tb ≠ c) := tu2
  have htb : bits BinOp.xor IntKind.u8 (c.toNat : Int) (p : Int) = tb := Htb.out
  clear tu2
  go_wp2_with fail
  go_cut [19] (fun tv wc => tv = .int .u8 tb ∧ Hid (Below w5.heap.size w5 wc))
  case first =>
    go_region_held_law (fun w' => Hid (Below w5.heap.size w5 w')) (first | exact (Below.refl _ _).drew | assumption) (first | (go_at_call 8; refine (pick_any cy 255 hy0 hy1 (by omega) (by omega) _).mono ?_; rintro e w' ⟨rfl, rfl⟩; rw [Hpy.out]))
    all_goals
      rw [HWr.out, htb]
      go_wp2_with fail
      go_meet
      case rel => exact ⟨rfl, (Below.refl _ _).drew⟩
  case rest =>
    obtain ⟨rfl, HBc⟩ := hcut
    rename World => wk
    have HR6 : Hid (CellsAt wk gC 24 [.int .u64 cf.seed, .int .u8 cf.batch, .int .i32 cf.rate, .int .i32 cf.mom, .int .u8 cf.decay]) := CellsAt.later HC5.out HBc.out
    have HB6 : Hid (Below w.heap.size w wk) := HB5.out.trans (HBc.out.mono HB5.out.size)
    obtain ⟨i1, Hi1⟩ : ∃ i1, Hid (i + 1 = i1) := ⟨_, (rfl : _ = _)⟩
    have hi1 : (i : Int) + 1 = (i1 : Int) := by rw [← Hi1.out]; rfl
    have hi1l : i1 ≤ SV.size := by rw [← Hi1.out]; omega
    have HLs : Hid (ls SV = saveL (svCut (markB cf s1) stE)) := by show _ = _; rw [← HSV.out, ls_bs, svCut_save]
    have HSo : Hid ((svCut (markB cf s1) stE).Ok) := svCut_ok HEok.out hm4
    have HEq : Hid (ls SV = (ls SV).take i ++ c :: (ls SV).drop i1) := by
      show _ = _
      have h := drop_getElem SV i hi
      rw [hcR, Hi1.out] at h
      rw [← h, List.take_append_drop]
    have HL1 : Hid (∀ w1, Calls Try.prog 10 #[.agg #[.int .u64 cf.seed, .int .u8 cf.batch, .int .i32 cf.rate, .int .i32 cf.mom, .int .u8 cf.decay], .string s1, .string (SV.extract 0 i ++ bs [by8 tb] ++ SV.extract i1 SV.size)] w1 fun e w' => e = .returned (.tuple #[.pointer none, .int .i64 8]) ∧ Below w1.heap.size w1 w') := fun w1 => by
      refine load_bad cf HcOk.out s1 HSz.out X HSx.out hX1.1 _ ?_ ?_ w1
      · rw [ByteArray.size_append, ByteArray.size_append, bs_size, ByteArray.size_extract, ByteArray.size_extract]
        unfold maxLen
        simp only [List.length_cons, List.length_nil]
        omega
      · rw [ls_append, ls_append, ls_bs, ls_extract, ls_cut]
        simp only [List.drop_zero, Nat.sub_zero, List.append_assoc, List.singleton_append]
        exact spoilt_byte (s := svCut (markB cf s1) stE) (HLs.out.symm.trans HEq.out) Htu.out
    have q1 : (SV.extract 0 i).size = i := by rw [ByteArray.size_extract]; omega
    have q2 : (bs [by8 tb]).size = 1 := bs_size _
    have q3 : (SV.extract i1 SV.size).size = SV.size - i1 := by rw [ByteArray.size_extract]; omega
    have q4 : (SV.extract 0 i ++ bs [by8 tb]).size = i + 1 := by rw [ByteArray.size_append]; omega
    have kc := conv1 (a := tb)
    have kd := conv1d (a := tb)
    have c0 := CellsAt.cell HR6.out 0
    have c1 := CellsAt.cell HR6.out 1
    have c2 := CellsAt.cell HR6.out 2
    have c3 := CellsAt.cell HR6.out 3
    have c4 := CellsAt.cell HR6.out 4
    simp only [List.getElem?_cons_zero, List.getElem?_cons_succ] at c0 c1 c2 c3 c4
    have hwi1 : IntKind.i64.wrap (i1 : Int) = (i1 : Int) := wrap_small _ (by omega) (by omega)
    have hwi0 : IntKind.i64.wrap (i : Int) = (i : Int) := wrap_small _ (by omega) (by omega)
    have hj1 : ¬ ((i1 : Int) < 0) := by omega
    have hj2 : ¬ ((SV.size : Int) < (i1 : Int)) := by omega
    have hj3 : decide ((i1 : Int) < 0) = false := decide_eq_false (by omega)
    have hj4 : decide ((SV.size : Int) < (i1 : Int)) = false := decide_eq_false (by omega)
    have hj5 : ¬ ((i : Int) < 0) := by omega
    have hj6 : ¬ ((SV.size : Int) < (i : Int)) := by omega
    have hj7 : decide ((i : Int) < 0) = false := decide_eq_false (by omega)
    have hj8 : decide ((SV.size : Int) < (i : Int)) = false := decide_eq_false (by omega)
    have HK6 : Hid (∀ w', Below wk.heap.size wk w' → Hid (Below wk.heap.size wk w') ∧ w'.cell? ⟨gC, 0, none⟩ = some (.int .u64 cf.seed) ∧ w'.cell? ⟨gC, 1, none⟩ = some (.int .u8 cf.batch) ∧ w'.cell? ⟨gC, 2, none⟩ = some (.int .i32 cf.rate) ∧ w'.cell? ⟨gC, 3, none⟩ = some (.int .i32 cf.mom) ∧ w'.cell? ⟨gC, 4, none⟩ = some (.int .u8 cf.decay)) := fun w' hb => by
      have h := CellsAt.later HR6.out hb
      exact ⟨hb, CellsAt.cell h 0, CellsAt.cell h 1, CellsAt.cell h 2, CellsAt.cell h 3, CellsAt.cell h 4⟩
    go_wp2_with fail
    go_cut [20, 21] (fun qv ev wd => qv = .pointer none ∧ ev = .int .i64 8 ∧ Hid (Below wk.heap.size wk wd))
    case first =>
      go_region_held_law (fun w' => Hid (Below wk.heap.size wk w') ∧ w'.cell? ⟨gC, 0, none⟩ = some (.int .u64 cf.seed) ∧ w'.cell? ⟨gC, 1, none⟩ = some (.int .u8 cf.batch) ∧ w'.cell? ⟨gC, 2, none⟩ = some (.int .i32 cf.rate) ∧ w'.cell? ⟨gC, 3, none⟩ = some (.int .i32 cf.mom) ∧ w'.cell? ⟨gC, 4, none⟩ = some (.int .u8 cf.decay)) (first | exact HK6.out _ hB.out | exact HK6.out _ (Below.refl _ _).drew | exact HK6.out _ ((Below.refl _ _).alloc (Nat.le_refl _) _).drew | exact HK6.out _ ((Below.refl _ _).drew.alloc (Nat.le_refl _) _) | go_keep) (first | (go_at_call 10; refine (HL1.out _).mono ?_; rintro e w' ⟨rfl, hb⟩; have hB : Hid (Below wk.heap.size wk w') := (‹Hid (Below wk.heap.size wk _) ∧ _›).1.out.trans (hb.mono (‹Hid (Below wk.heap.size wk _) ∧ _›).1.out.size); clear hb))
      all_goals
        go_wp2_with fail
        go_meet
        case rel => exact ⟨rfl, rfl, by assumption⟩
    case rest =>
    obtain ⟨rfl, rfl, HBd⟩ := hcut
    rename World => wd
    clear HK6 c0 c1 c2 c3 c4
    have HR7 : Hid (CellsAt wd gC 24 [.int .u64 cf.seed, .int .u8 cf.batch, .int .i32 cf.rate, .int .i32 cf.mom, .int .u8 cf.decay]) := CellsAt.later HR6.out HBd.out
    have HB7 : Hid (Below w.heap.size w wd) := HB6.out.trans (HBd.out.mono HB6.out.size)
    clear HBd HR6 HB6
    have HK7 : Hid (∀ w', Below wd.heap.size wd w' → Hid (Below wd.heap.size wd w') ∧ w'.cell? ⟨gC, 0, none⟩ = some (.int .u64 cf.seed) ∧ w'.cell? ⟨gC, 1, none⟩ = some (.int .u8 cf.batch) ∧ w'.cell? ⟨gC, 2, none⟩ = some (.int .i32 cf.rate) ∧ w'.cell? ⟨gC, 3, none⟩ = some (.int .i32 cf.mom) ∧ w'.cell? ⟨gC, 4, none⟩ = some (.int .u8 cf.decay)) := fun w' hb => by
      have h := CellsAt.later HR7.out hb
      exact ⟨hb, CellsAt.cell h 0, CellsAt.cell h 1, CellsAt.cell h 2, CellsAt.cell h 3, CellsAt.cell h 4⟩
    have HL2 : Hid (∀ w1, Calls Try.prog 10 #[.agg #[.int .u64 cf.seed, .int .u8 cf.batch, .int .i32 cf.rate, .int .i32 cf.mom, .int .u8 cf.decay], .string s1, .string (SV.extract 0 i)] w1 fun e w' => e = .returned (.tuple #[.pointer none, .int .i64 8]) ∧ Below w1.heap.size w1 w') := fun w1 => by
      refine load_bad cf HcOk.out s1 HSz.out X HSx.out hX1.1 _ ?_ ?_ w1
      · rw [ByteArray.size_extract]
        unfold maxLen
        omega
      · rw [ls_cut]
        simp only [List.drop_zero, Nat.sub_zero]
        rw [HLs.out]
        refine spoilt_cut HSo.out ?_
        rw [← HLs.out, ls_length]
        exact hi
    have c0 := CellsAt.cell HR7.out 0
    have c1 := CellsAt.cell HR7.out 1
    have c2 := CellsAt.cell HR7.out 2
    have c3 := CellsAt.cell HR7.out 3
    have c4 := CellsAt.cell HR7.out 4
    simp only [List.getElem?_cons_zero, List.getElem?_cons_succ] at c0 c1 c2 c3 c4
    go_wp2_with fail
    go_cut [22, 23] (fun qv ev we => qv = .pointer none ∧ ev = .int .i64 8 ∧ Hid (Below wd.heap.size wd we))
    case first =>
      go_region_held_law (fun w' => Hid (Below wd.heap.size wd w') ∧ w'.cell? ⟨gC, 0, none⟩ = some (.int .u64 cf.seed) ∧ w'.cell? ⟨gC, 1, none⟩ = some (.int .u8 cf.batch) ∧ w'.cell? ⟨gC, 2, none⟩ = some (.int .i32 cf.rate) ∧ w'.cell? ⟨gC, 3, none⟩ = some (.int .i32 cf.mom) ∧ w'.cell? ⟨gC, 4, none⟩ = some (.int .u8 cf.decay)) (first | exact HK7.out _ hB.out | exact HK7.out _ (Below.refl _ _).drew | go_keep) (first | (go_at_call 10; refine (HL2.out _).mono ?_; rintro e w' ⟨rfl, hb⟩; have hB : Hid (Below wd.heap.size wd w') := (‹Hid (Below wd.heap.size wd _) ∧ _›).1.out.trans (hb.mono (‹Hid (Below wd.heap.size wd _) ∧ _›).1.out.size); clear hb))
      all_goals
        go_wp2_with fail
        go_meet
        case rel => exact ⟨rfl, rfl, by assumption⟩
    case rest =>
    obtain ⟨rfl, rfl, HBe⟩ := hcut
    rename World => we
    clear HK7 c0 c1 c2 c3 c4
    have HR8 : Hid (CellsAt we gC 24 [.int .u64 cf.seed, .int .u8 cf.batch, .int .i32 cf.rate, .int .i32 cf.mom, .int .u8 cf.decay]) := CellsAt.later HR7.out HBe.out
    have HB8 : Hid (Below w.heap.size w we) := HB7.out.trans (HBe.out.mono HB7.out.size)
    clear HBe HR7 HB7
    have q5 : (SV ++ bs [by8 tb]).size = SV.size + 1 := by rw [ByteArray.size_append]; omega
    have HL3 : Hid (∀ w1, Calls Try.prog 10 #[.agg #[.int .u64 cf.seed, .int .u8 cf.batch, .int .i32 cf.rate, .int .i32 cf.mom, .int .u8 cf.decay], .string s1, .string (SV ++ bs [by8 tb])] w1 fun e w' => e = .returned (.tuple #[.pointer none, .int .i64 8]) ∧ Below w1.heap.size w1 w') := fun w1 => by
      refine load_bad cf HcOk.out s1 HSz.out X HSx.out hX1.1 _ ?_ ?_ w1
      · rw [q5]
        unfold maxLen
        omega
      · rw [ls_append, ls_bs, HLs.out]
        exact spoilt_more HSo.out _
    have c0 := CellsAt.cell HR8.out 0
    have c1 := CellsAt.cell HR8.out 1
    have c2 := CellsAt.cell HR8.out 2
    have c3 := CellsAt.cell HR8.out 3
    have c4 := CellsAt.cell HR8.out 4
    simp only [List.getElem?_cons_zero, List.getElem?_cons_succ] at c0 c1 c2 c3 c4
    clear kd
    go_wp2_with fail
    have HB9 : Hid (Below w.heap.size w (we.alloc (.cells #[.int .u8 tb] 5))) := HB8.out.alloc HB8.out.size _
    have HR9 : Hid (CellsAt (we.alloc (.cells #[.int .u8 tb] 5)) gC 24 [.int .u64 cf.seed, .int .u8 cf.batch, .int .i32 cf.rate, .int .i32 cf.mom, .int .u8 cf.decay]) := CellsAt.alloc HR8.out _
    generalize we.alloc (.cells #[.int .u8 tb] 5) = wf at *
    clear HB8 HR8 kc c0 c1 c2 c3 c4
    refine (HL3.out _).mono ?_
    rintro e wg ⟨rfl, hbg⟩
    have HBg : Hid (Below w.heap.size w wg) := HB9.out.trans (hbg.mono HB9.out.size)
    have HRg : Hid (CellsAt wg gC 24 [.int .u64 cf.seed, .int .u8 cf.batch, .int .i32 cf.rate, .int .i32 cf.mom, .int .u8 cf.decay]) := CellsAt.later HR9.out hbg
    clear hbg HB9 HR9
    have c0 := CellsAt.cell HRg.out 0
    have c1 := CellsAt.cell HRg.out 1
    have c2 := CellsAt.cell HRg.out 2
    have c3 := CellsAt.cell HRg.out 3
    have c4 := CellsAt.cell HRg.out 4
    simp only [List.getElem?_cons_zero, List.getElem?_cons_succ] at c0 c1 c2 c3 c4
    have hgl := CellsAt.lt HRg.out
    have hsd := HcOk.out.seed
    have hbx : bits BinOp.xor IntKind.u64 (cf.seed : Int) 1 = ((cf.seed ^^^ 1 : Nat) : Int) := u64_xor_nat cf.seed 1 hsd (by omega)
    obtain ⟨sx, Hsx⟩ : ∃ sx, Hid (cf.seed ^^^ 1 = sx) := ⟨_, (rfl : _ = _)⟩
    rw [Hsx.out] at hbx
    have hsx : sx < 18446744073709551616 := by
      rw [← Hsx.out]
      exact Nat.xor_lt_two_pow (n := 64) (by omega) (by omega)
    have HOx : Hid ((⟨sx, cf.batch, cf.rate, cf.mom, cf.decay⟩ : Cf).Ok) := ⟨hsx, HcOk.out.batch1, HcOk.out.batch8, HcOk.out.rate, HcOk.out.mom, HcOk.out.decay⟩
    have HL4 : Hid (∀ w1, Calls Try.prog 10 #[.agg #[.int .u64 sx, .int .u8 cf.batch, .int .i32 cf.rate, .int .i32 cf.mom, .int .u8 cf.decay], .string s1, .string SV] w1 fun e w' => e = .returned (.tuple #[.pointer none, .int .i64 9]) ∧ Below w1.heap.size w1 w') := fun w1 => by
      have h := load_other (mk := markB cf s1) ⟨sx, cf.batch, cf.rate, cf.mom, cf.decay⟩ HOx.out s1 HSz.out X HSx.out hX1.1 hm4 (fun e => mark_seed (c := cf) (d := ⟨sx, cf.batch, cf.rate, cf.mom, cf.decay⟩) (by rw [Hsx.out]) s1 e.symm) stE HEok.out w1
      rw [HSV.out] at h
      exact h
    go_wp2_with fail
    have HBh : Hid (Below w.heap.size w (wg.alloc (.cells #[.int .u64 sx, .int .u8 cf.batch, .int .i32 cf.rate, .int .i32 cf.mom, .int .u8 cf.decay] 24))) := HBg.out.alloc HBg.out.size _
    generalize wg.alloc (.cells #[.int .u64 sx, .int .u8 cf.batch, .int .i32 cf.rate, .int .i32 cf.mom, .int .u8 cf.decay] 24) = wh at *
    refine (HL4.out _).mono ?_
    rintro e wj ⟨rfl, hbj⟩
    have HBj : Hid (Below w.heap.size w wj) := HBh.out.trans (hbj.mono HBh.out.size)
    clear hbj HBh HBg HRg c0 c1 c2 c3 c4 HL1 HL2 HL3 HL4
    go_wp2
    go_ret
    exact ⟨rfl, HBj.out⟩

set_option maxRecDepth 100000 in
theorem spoilt_lifted (os : Os) (started : os.Started) (H : Type) (enc : TypeId × Value → H) :
    ReturnsInHanded {} Try.checked os 4 .any (Rows.spoiltSpec.pre6 enc Try.prog Try.f4 Rows.spoiltRow.domain false) (Rows.spoiltSpec.post enc Try.prog Try.f4 false true false false) := by
  refine returnsInHanded_of_change (C := Try.checked) own started (by kernel_rfl) Try.func4
    (ChangeSpec.witness6 (enc := enc) (C := Try.checked) false ⟨#[], #[.agg #[.int .u64 0, .int .u8 0, .int .i32 0, .int .i32 0, .int .u8 0], .slice none 0 0, .int .i64 0, .int .i64 0, .int .i64 0], []⟩ 8 (by kernel_rfl) (by kernel_rfl) (by kernel_rfl) (by kernel_rfl)) ?_
  intro W base args ds gs before hval0 hW hcnd _
  have hval : ∀ (j : Nat) t v, Try.f4.params[j]? = some t → args[j]? = some v → Value.okWide Try.prog W .any base t v := hval0
  have hW' := hW
  obtain ⟨p, q, hA0, hV, rfl, hfz, hnd⟩ := hW
  have hA : DataW.TrodAll enc Try.prog W 0 (fun _ => true) true Try.f4.params.toList args.toList ds p := hA0
  rw [Try.params4] at hA hval
  obtain ⟨v0, vs0, d0, ds0, p0, q0, hargs, rfl, rfl, h0, r0⟩ := trodAll_cons hA
  obtain ⟨v1, vs1, d1, ds1, p1, q1, rfl, rfl, rfl, h1, r1⟩ := trodAll_cons r0
  obtain ⟨v2, vs2, d2, ds2, p2, q2, rfl, rfl, rfl, h2, r2⟩ := trodAll_cons r1
  obtain ⟨v3, vs3, d3, ds3, p3, q3, rfl, rfl, rfl, h3, r3⟩ := trodAll_cons r2
  obtain ⟨v4, vs4, d4, ds4, p4, q4, rfl, rfl, rfl, h4, r4⟩ := trodAll_cons r3
  obtain ⟨rfl, rfl, rfl⟩ := trodAll_nil r4
  obtain rfl : args = #[v0, v1, v2, v3, v4] := by cases args; simp_all
  obtain ⟨rfl, rfl⟩ := trodVars_none hV
  obtain ⟨cs, rfl, hcs⟩ := okWide_struct Try.underlying24 (hval 0 24 v0 rfl rfl)
  rw [show Try.prog.cellsOf 24 = 5 by kernel_rfl] at hcs
  obtain ⟨a1, len1, cap1, rfl⟩ := okWide_slice Try.underlying25 (hval 1 25 v1 rfl rfl)
  have k0 := h0
  have k1 := h1
  have lt0 : ∀ x ∈ p0, x.block < W.heap.size := by obtain ⟨m, hm⟩ := k0; exact DataW.trod_lt m _ _ _ hm
  have lt1 : ∀ x ∈ p1, x.block < W.heap.size := by obtain ⟨m, hm⟩ := k1; exact DataW.trod_lt m _ _ _ hm
  obtain ⟨r, hr, hrc⟩ : ∃ r : Raw, r.Wf ∧ cs.toList = r.cells := by
    obtain ⟨fuel, hf⟩ := h0
    exact open_config (by simpa using hcs) (by simpa [Value.cells] using hf)
  obtain rfl : cs = r.cells.toArray := by rw [← hrc]
  obtain ⟨L, T, hx⟩ : ∃ L T, IsExs W a1 len1 cap1 L T := by
    obtain ⟨fuel, hf⟩ := h1
    exact open_exs (by simpa [Value.cells] using hf)
  obtain ⟨n2, rfl, rfl, rfl, wf2⟩ := open_int Try.underlying3 (hval 2 3 v2 rfl rfl) h2
  obtain ⟨n3, rfl, rfl, rfl, wf3⟩ := open_int Try.underlying3 (hval 3 3 v3 rfl rfl) h3
  obtain ⟨n4, rfl, rfl, rfl, wf4⟩ := open_int Try.underlying3 (hval 4 3 v4 rfl rfl) h4
  clear hA0 hval0
  have b2 := bounds_i64 wf2
  have b3 := bounds_i64 wf3
  have b4 := bounds_i64 wf4
  refine (spoilt_walk r hr a1 len1 cap1 L T n2 n3 n4 (by omega) (by omega) (by omega) (by omega) (by omega) (by omega) W hx hx.len).mono fun e W' ⟨he, bel⟩ => ?_
  subst he
  exact ⟨_, rfl, _, _, _, [], _, [], hW', trodAll_mk1 (shut_bool Try.underlying4 _), (trodAll_cons_mk (Below.trod laidOut (by kernel_rfl) (of_decide_eq_true (by kernel_rfl)) k0 bel lt0) (trodAll_cons_mk (Below.trod laidOut (by kernel_rfl) (of_decide_eq_true (by kernel_rfl)) k1 bel lt1) (trodAll_cons_mk (shut_int Try.underlying3 wf2) (trodAll_cons_mk (shut_int Try.underlying3 wf3) (trodAll_cons_mk (shut_int Try.underlying3 wf4) trodAll_mk0))))), rfl, bel.frame _, fun h => by cases h⟩

theorem spoilt_over : Rows.spoiltRow.holds Try.pinned (OpenSpec.ofChange Rows.spoiltSpec) :=
  OpenClaim.holds_of_wide 4 Try.f4 rfl rfl rfl rfl rfl rfl rfl ⟨rfl, rfl, rfl, rfl, rfl⟩ rfl rfl rfl rfl rfl (by kernel_rfl) Try.func4 (by kernel_rfl)
    (of_decide_eq_true (by kernel_rfl)) (by unfold Func.isWrapper; first | (rw [if_pos (by decide +kernel)]; kernel_rfl) | (rw [if_neg (by decide +kernel)]; exact ⟨rfl, rfl⟩))
    (fun os started H enc _ => spoilt_lifted os started H enc)

theorem spoilt_holds : Rows.SpoiltSaid := spoilt_over
#print axioms spoilt_holds
end Go.Proofs.Ytfpodnleimhohab
