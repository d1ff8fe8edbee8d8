/-
  THE STATEMENT 'Held': the walk of the law, and its row.
-/
import Derived.Test.YtfpodnleimhohaaWalksBO
namespace Go.Proofs.Ytfpodnleimhohaa
open Go.ChangeShapes Go.WideShapes Go.ChangeAt Go.RowKit
set_option linter.unusedVariables false

/-- The settings with the rate 0. -/
def Cf.still (c : Cf) : Cf := ⟨c.seed, c.batch, 0, c.mom, c.decay⟩
/-- .. without momentum and decay, with a rate that 64 divides. -/
def Cf.even (c : Cf) : Cf := ⟨c.seed, c.batch, c.rate / 64 * 64, 0, 0⟩
theorem Cf.still_ok {c : Cf} (h : c.Ok) : c.still.Ok := ⟨h.seed, h.batch1, h.batch8, Nat.zero_le _, h.mom, h.decay⟩
theorem Cf.even_ok {c : Cf} (h : c.Ok) : c.even.Ok := ⟨h.seed, h.batch1, h.batch8, Nat.le_trans (Nat.div_mul_le_self _ _) h.rate, by show 0 < 65536; decide, by show 0 ≤ 31; decide⟩
theorem still_list (c : Cf) (X : List Ex) (hr : c.rate = 0) (k i : Nat) (hi : i < k) : (missL c X St.zero k).getD i 0 = c.batch := by
  unfold missL
  rw [List.getD_eq_getElem?_getD, List.getElem?_map, List.getElem?_range hi]
  show missedN c X (itN c X St.zero i) 0 c.batch = c.batch
  rw [itN_zero]
  exact still_all c X _ (still c X hr i).1 c.batch
theorem sum4_to (f : Nat → Int) : sumTo f 4 = sum4 f := by simp [sumTo, sum4]

set_option maxRecDepth 100000 in
set_option maxHeartbeats 8000000 in
theorem held_walk (r : Raw) (hw : r.Wf) (a0 : Option Addr) (len0 cap0 : Nat) (L0 : Nat → Int) (T0 : Nat → ByteArray) (ct : Int) (he0 : -9223372036854775808 ≤ ct) (he1 : ct ≤ 9223372036854775807) (w : World)
    (h0 : IsExs w a0 len0 cap0 L0 T0) (hm0 : len0 ≤ maxLen) :
    Calls Try.prog 12 #[.agg r.cells.toArray, .slice a0 len0 cap0, .int .i64 ct] w fun e w' => e = .returned (.bool true) ∧ Below w.heap.size w w' := by
  have HSet : Hid (∀ w1, _) := fun w1 => settings_any r hw w1
  have HcOk : Hid (setN r).Ok := setN_ok r hw
  obtain ⟨cf, Hcf⟩ : ∃ cf, Hid (setN r = cf) := ⟨_, (rfl : _ = _)⟩
  rw [Hcf.out] at HSet HcOk
  have HBeg : Hid (∀ c : Cf, c.Ok → ∀ w1, IsExs w1 a0 len0 cap0 L0 T0 → _) := fun c hc w1 h1 => begun_run c hc a0 len0 cap0 L0 T0 none 0 0 (fun _ => ByteArray.empty) w1 h1 hm0 (.inl rfl) (Nat.zero_le _)
  have hX8 := exs_len len0 L0 T0
  have HXok : Hid _ := exNat_ok (exs_ok len0 L0 T0)
  have hXl := exNat_length (exs len0 L0 T0)
  obtain ⟨X, HXe⟩ : ∃ X, Hid (exNat (exs len0 L0 T0) = X) := ⟨_, (rfl : _ = _)⟩
  rw [HXe.out] at HXok HBeg hXl
  have hX1 : 1 ≤ X.length ∧ X.length ≤ 600 := by omega
  clear hX8 hXl
  have H0 : Hid (IsExs w a0 len0 cap0 L0 T0) := h0
  generalize (exs len0 L0 T0).length = nX at *
  clear h0 hw Hcf HXe
  have hra := HcOk.out.rate
  have HSOk : Hid cf.still.Ok := Cf.still_ok HcOk.out
  have HEOk : Hid cf.even.Ok := Cf.even_ok HcOk.out
  obtain ⟨r6, Hr6⟩ : ∃ r6, Hid (cf.rate / 64 = r6) := ⟨_, (rfl : _ = _)⟩
  obtain ⟨e6, He6⟩ : ∃ e6, Hid (r6 * 64 = e6) := ⟨_, (rfl : _ = _)⟩
  have hr61 : (cf.rate : Int) / 64 = (r6 : Int) := by rw [← Hr6.out]; omega
  have hr62 : (cf.rate : Int).tdiv 64 = (r6 : Int) := by rw [Int.tdiv_eq_ediv_of_nonneg (by omega)]; exact hr61
  have hr6b : r6 ≤ 1024 := by rw [← Hr6.out]; omega
  have he61 : (r6 : Int) * 64 = (e6 : Int) := by rw [← He6.out]; omega
  have he6b : e6 ≤ 65536 := by rw [← He6.out]; omega
  have HEv : Hid (cf.even.rate = e6) := by show cf.rate / 64 * 64 = e6; rw [Hr6.out, He6.out]
  have HBegS : Hid (∀ w1, IsExs w1 a0 len0 cap0 L0 T0 → Calls Try.prog 30 #[.agg #[.int .u64 cf.seed, .int .u8 cf.batch, .int .i32 0, .int .i32 cf.mom, .int .u8 cf.decay], .slice a0 len0 cap0, .slice none 0 0] w1 fun e w' => ∃ g s, e = .returned (.tuple #[.pointer (some ⟨g, 0, none⟩), .string s, .int .i64 (nX : Nat)]) ∧ w1.heap.size ≤ g ∧ RunIs w' g cf.still _ X St.zero ∧ Below w1.heap.size w1 w') := fun w1 h => HBeg.out cf.still HSOk.out w1 h
  have HBegE : Hid (∀ w1, IsExs w1 a0 len0 cap0 L0 T0 → Calls Try.prog 30 #[.agg #[.int .u64 cf.seed, .int .u8 cf.batch, .int .i32 e6, .int .i32 0, .int .u8 0], .slice a0 len0 cap0, .slice none 0 0] w1 fun e w' => ∃ g s, e = .returned (.tuple #[.pointer (some ⟨g, 0, none⟩), .string s, .int .i64 (nX : Nat)]) ∧ w1.heap.size ≤ g ∧ RunIs w' g cf.even _ X St.zero ∧ Below w1.heap.size w1 w') := fun w1 h => by
    have h' := HBeg.out cf.even HEOk.out w1 h
    rw [HEv.out] at h'
    exact h'
  obtain ⟨sd, bt, ra, mo, de⟩ := r
  show Calls Try.prog 12 #[.agg #[.int .u64 sd, .int .u8 bt, .int .i32 ra, .int .i32 mo, .int .u8 de], .slice a0 len0 cap0, .int .i64 ct] w _
  go_enter Try.func12, Try.ntmps12
  go_wp2_with fail
  obtain ⟨w0, Hw0⟩ : ∃ w0, Hid (w.alloc (.cells #[.int .u64 sd, .int .u8 bt, .int .i32 ra, .int .i32 mo, .int .u8 de] 70) = w0) := ⟨_, (rfl : _ = _)⟩
  rw [Hw0.out]
  have HB0 : Hid (Below w.heap.size w w0) := by rw [← Hw0.out]; exact (Below.refl _ _).alloc (Nat.le_refl _) _
  clear Hw0
  refine (HSet.out _).mono ?_
  rintro e w1 ⟨rfl, hb1⟩
  have HB1 : Hid (Below w.heap.size w w1) := HB0.out.trans (hb1.mono HB0.out.size)
  clear hb1 HB0
  have HCe : Hid (cf.raw.cells.toArray = #[.int .u64 cf.seed, .int .u8 cf.batch, .int .i32 cf.rate, .int .i32 cf.mom, .int .u8 cf.decay]) := rfl
  rw [HCe.out]
  go_wp2_with fail
  have HB2 : Hid (Below w.heap.size w (w1.alloc (.cells #[.int .u64 cf.seed, .int .u8 cf.batch, .int .i32 cf.rate, .int .i32 cf.mom, .int .u8 cf.decay] 70))) := HB1.out.alloc HB1.out.size _
  have HC2 : Hid (CellsAt (w1.alloc (.cells #[.int .u64 cf.seed, .int .u8 cf.batch, .int .i32 cf.rate, .int .i32 cf.mom, .int .u8 cf.decay] 70)) w1.heap.size 70 [.int .u64 cf.seed, .int .u8 cf.batch, .int .i32 cf.rate, .int .i32 cf.mom, .int .u8 cf.decay]) := CellsAt.new _ _ _ _ rfl rfl
  generalize w1.alloc (.cells #[.int .u64 cf.seed, .int .u8 cf.batch, .int .i32 cf.rate, .int .i32 cf.mom, .int .u8 cf.decay] 70) = w2 at *
  generalize w1.heap.size = gC at *
  clear HB1
  refine (pick_any ct 30 he0 he1 (by omega) (by omega) _).mono ?_
  rintro e w5 ⟨rfl, hw⟩
  have hw' := hw.symm
  clear hw
  subst hw'
  have hp := pickN_lt ct (n := 30) (by decide)
  obtain ⟨k, Hk⟩ : ∃ k, Hid (1 + pickN ct 30 = k) := ⟨_, (rfl : _ = _)⟩
  have hk : 1 ≤ k ∧ k ≤ 30 := by rw [← Hk.out]; omega
  have hki : (1 : Int) + (pickN ct 30 : Int) = (k : Int) := by rw [← Hk.out]; omega
  generalize pickN ct 30 = pk at *
  have c0 := CellsAt.cell HC2.out 0
  have c1 := CellsAt.cell HC2.out 1
  have c2 := CellsAt.cell HC2.out 2
  have c3 := CellsAt.cell HC2.out 3
  have c4 := CellsAt.cell HC2.out 4
  simp only [List.getElem?_cons_zero, List.getElem?_cons_succ] at c0 c1 c2 c3 c4
  go_wp2_with fail
  clear hki
  refine (HBeg.out cf HcOk.out _ (H0.out.later HB2.out)).mono ?_
  rintro e w3 ⟨g1, s1, rfl, hg1, hR1, hb3⟩
  have HB3 : Hid (Below w.heap.size w w3) := HB2.out.trans (hb3.mono HB2.out.size)
  have HC3 : Hid (CellsAt w3 gC 70 [.int .u64 cf.seed, .int .u8 cf.batch, .int .i32 cf.rate, .int .i32 cf.mom, .int .u8 cf.decay]) := CellsAt.later HC2.out hb3
  have HG1 : Hid (w.heap.size ≤ g1) := Nat.le_trans HB2.out.size hg1
  have HR1 : Hid (RunIs w3 g1 cf _ X St.zero) := hR1
  clear hg1 hR1 hb3 HB2 HC2 c0 c1 c2 c3 c4
  have c0 := CellsAt.cell HC3.out 0
  have c1 := CellsAt.cell HC3.out 1
  have c2 := CellsAt.cell HC3.out 2
  have c3 := CellsAt.cell HC3.out 3
  have c4 := CellsAt.cell HC3.out 4
  simp only [List.getElem?_cons_zero, List.getElem?_cons_succ] at c0 c1 c2 c3 c4
  go_wp2_with fail
  have HB4 : Hid (Below w.heap.size w (w3.alloc (.cells #[.int .u64 cf.seed, .int .u8 cf.batch, .int .i32 0, .int .i32 cf.mom, .int .u8 cf.decay] 70))) := HB3.out.alloc HB3.out.size _
  have HC4 : Hid (CellsAt (w3.alloc (.cells #[.int .u64 cf.seed, .int .u8 cf.batch, .int .i32 0, .int .i32 cf.mom, .int .u8 cf.decay] 70)) gC 70 [.int .u64 cf.seed, .int .u8 cf.batch, .int .i32 cf.rate, .int .i32 cf.mom, .int .u8 cf.decay]) := CellsAt.alloc HC3.out _
  have HD4 : Hid (CellsAt (w3.alloc (.cells #[.int .u64 cf.seed, .int .u8 cf.batch, .int .i32 0, .int .i32 cf.mom, .int .u8 cf.decay] 70)) w3.heap.size 70 [.int .u64 cf.seed, .int .u8 cf.batch, .int .i32 0, .int .i32 cf.mom, .int .u8 cf.decay]) := CellsAt.new _ _ _ _ rfl rfl
  have HR14 : Hid (RunIs (w3.alloc (.cells #[.int .u64 cf.seed, .int .u8 cf.batch, .int .i32 0, .int .i32 cf.mom, .int .u8 cf.decay] 70)) g1 cf _ X St.zero) := HR1.out.later ((Below.refl _ _).alloc (Nat.le_refl _) _)
  generalize w3.alloc (.cells #[.int .u64 cf.seed, .int .u8 cf.batch, .int .i32 0, .int .i32 cf.mom, .int .u8 cf.decay] 70) = w4 at *
  generalize w3.heap.size = gS at *
  clear HB3 HC3 HR1 c0 c1 c2 c3 c4
  refine (HBegS.out _ (H0.out.later HB4.out)).mono ?_
  rintro e w5 ⟨g2, s2, rfl, hg2, hR2, hb5⟩
  have HB5 : Hid (Below w.heap.size w w5) := HB4.out.trans (hb5.mono HB4.out.size)
  have HC5 : Hid (CellsAt w5 gC 70 [.int .u64 cf.seed, .int .u8 cf.batch, .int .i32 cf.rate, .int .i32 cf.mom, .int .u8 cf.decay]) := CellsAt.later HC4.out hb5
  have HD5 : Hid (CellsAt w5 gS 70 [.int .u64 cf.seed, .int .u8 cf.batch, .int .i32 0, .int .i32 cf.mom, .int .u8 cf.decay]) := CellsAt.later HD4.out hb5
  have HG2 : Hid (w.heap.size ≤ g2) := Nat.le_trans HB4.out.size hg2
  have HN12 : Hid (g1 ≠ g2) := by have := HR14.out.lt; show g1 ≠ g2; omega
  have HR15 : Hid (RunIs w5 g1 cf _ X St.zero) := HR14.out.later hb5
  have HR25 : Hid (RunIs w5 g2 cf.still _ X St.zero) := hR2
  clear hg2 hR2 hb5 HB4 HC4 HD4 HR14
  have lC := CellsAt.lt HC5.out
  have c0 := CellsAt.cell HC5.out 0
  have c1 := CellsAt.cell HC5.out 1
  have c2 := CellsAt.cell HC5.out 2
  have c3 := CellsAt.cell HC5.out 3
  have c4 := CellsAt.cell HC5.out 4
  simp only [List.getElem?_cons_zero, List.getElem?_cons_succ] at c0 c1 c2 c3 c4
  go_wp2_with fail
  have HB6 : Hid (Below w.heap.size w (w5.alloc (.cells #[.int .u64 cf.seed, .int .u8 cf.batch, .int .i32 e6, .int .i32 0, .int .u8 0] 70))) := HB5.out.alloc HB5.out.size _
  have HC6 : Hid (CellsAt (w5.alloc (.cells #[.int .u64 cf.seed, .int .u8 cf.batch, .int .i32 e6, .int .i32 0, .int .u8 0] 70)) gC 70 [.int .u64 cf.seed, .int .u8 cf.batch, .int .i32 cf.rate, .int .i32 cf.mom, .int .u8 cf.decay]) := CellsAt.alloc HC5.out _
  have HD6 : Hid (CellsAt (w5.alloc (.cells #[.int .u64 cf.seed, .int .u8 cf.batch, .int .i32 e6, .int .i32 0, .int .u8 0] 70)) gS 70 [.int .u64 cf.seed, .int .u8 cf.batch, .int .i32 0, .int .i32 cf.mom, .int .u8 cf.decay]) := CellsAt.alloc HD5.out _
  have HE6 : Hid (CellsAt (w5.alloc (.cells #[.int .u64 cf.seed, .int .u8 cf.batch, .int .i32 e6, .int .i32 0, .int .u8 0] 70)) w5.heap.size 70 [.int .u64 cf.seed, .int .u8 cf.batch, .int .i32 e6, .int .i32 0, .int .u8 0]) := CellsAt.new _ _ _ _ rfl rfl
  have HR16 : Hid (RunIs (w5.alloc (.cells #[.int .u64 cf.seed, .int .u8 cf.batch, .int .i32 e6, .int .i32 0, .int .u8 0] 70)) g1 cf _ X St.zero) := HR15.out.later ((Below.refl _ _).alloc (Nat.le_refl _) _)
  have HR26 : Hid (RunIs (w5.alloc (.cells #[.int .u64 cf.seed, .int .u8 cf.batch, .int .i32 e6, .int .i32 0, .int .u8 0] 70)) g2 cf.still _ X St.zero) := HR25.out.later ((Below.refl _ _).alloc (Nat.le_refl _) _)
  generalize w5.alloc (.cells #[.int .u64 cf.seed, .int .u8 cf.batch, .int .i32 e6, .int .i32 0, .int .u8 0] 70) = w6 at *
  generalize w5.heap.size = gE at *
  clear HB5 HC5 HD5 HR15 HR25 c0 c1 c2 c3 c4 hr61 hr62 he61
  refine (HBegE.out _ (H0.out.later HB6.out)).mono ?_
  rintro e w7 ⟨g3, s3, rfl, hg3, hR3, hb7⟩
  have HB7 : Hid (Below w.heap.size w w7) := HB6.out.trans (hb7.mono HB6.out.size)
  have HC7 : Hid (CellsAt w7 gC 70 [.int .u64 cf.seed, .int .u8 cf.batch, .int .i32 cf.rate, .int .i32 cf.mom, .int .u8 cf.decay]) := CellsAt.later HC6.out hb7
  have HD7 : Hid (CellsAt w7 gS 70 [.int .u64 cf.seed, .int .u8 cf.batch, .int .i32 0, .int .i32 cf.mom, .int .u8 cf.decay]) := CellsAt.later HD6.out hb7
  have HE7 : Hid (CellsAt w7 gE 70 [.int .u64 cf.seed, .int .u8 cf.batch, .int .i32 e6, .int .i32 0, .int .u8 0]) := CellsAt.later HE6.out hb7
  have HG3 : Hid (w.heap.size ≤ g3) := Nat.le_trans HB6.out.size hg3
  have HN13 : Hid (g1 ≠ g3) := by have := HR16.out.lt; show g1 ≠ g3; omega
  have HN23 : Hid (g2 ≠ g3) := by have := HR26.out.lt; show g2 ≠ g3; omega
  have HR17 : Hid (RunIs w7 g1 cf _ X St.zero) := HR16.out.later hb7
  have HR27 : Hid (RunIs w7 g2 cf.still _ X St.zero) := HR26.out.later hb7
  have HR37 : Hid (RunIs w7 g3 cf.even _ X St.zero) := hR3
  clear hg3 hR3 hb7 HB6 HC6 HD6 HE6 HR16 HR26
  have c0 := CellsAt.cell HC7.out 0
  have c1 := CellsAt.cell HC7.out 1
  have c2 := CellsAt.cell HC7.out 2
  have c3 := CellsAt.cell HC7.out 3
  have c4 := CellsAt.cell HC7.out 4
  simp only [List.getElem?_cons_zero, List.getElem?_cons_succ] at c0 c1 c2 c3 c4
  go_wp2_with fail
  have HStO : Hid (∀ c : Cf, (itN c X St.zero k).Ok) := fun c => itN_ok c X St.zero St.zero_ok k (by show 0 + k ≤ 400; omega)
  refine (steps_run g1 cf HcOk.out X HXok.out hX1.1 hX1.2 St.zero St.zero_ok k (by show 0 + k ≤ 400; omega) none 0 0 (fun _ => 0) _ (.inl rfl) (fun h => absurd rfl h) HR17.out).mono ?_
  rintro e w8 ⟨vA, rfl, hA, hR8, hS8⟩
  have HR18 : Hid (RunIs w8 g1 cf _ X (itN cf X St.zero k)) := hR8
  have HR28 : Hid (RunIs w8 g2 cf.still _ X St.zero) := HR27.out.other hS8 (fun e => HN12.out e.symm) HR17.out
  have HR38 : Hid (RunIs w8 g3 cf.even _ X St.zero) := HR37.out.other hS8 (fun e => HN13.out e.symm) HR17.out
  have HC8 : Hid (CellsAt w8 gC 70 [.int .u64 cf.seed, .int .u8 cf.batch, .int .i32 cf.rate, .int .i32 cf.mom, .int .u8 cf.decay]) := conf_other HC7.out hS8 HR17.out
  have HD8 : Hid (CellsAt w8 gS 70 [.int .u64 cf.seed, .int .u8 cf.batch, .int .i32 0, .int .i32 cf.mom, .int .u8 cf.decay]) := conf_other HD7.out hS8 HR17.out
  have HE8 : Hid (CellsAt w8 gE 70 [.int .u64 cf.seed, .int .u8 cf.batch, .int .i32 e6, .int .i32 0, .int .u8 0]) := conf_other HE7.out hS8 HR17.out
  have HB8 : Hid (Below w.heap.size w w8) := HB7.out.trans (hS8.below (fun j hj => by have := HG1.out; have e' : j = g1 := hj; omega) HB7.out.size)
  clear hA hR8 hS8 HB7 HC7 HD7 HE7 HR17 HR27 HR37 c0 c1 c2 c3 c4
  have c0 := CellsAt.cell HD8.out 0
  have c1 := CellsAt.cell HD8.out 1
  have c2 := CellsAt.cell HD8.out 2
  have c3 := CellsAt.cell HD8.out 3
  have c4 := CellsAt.cell HD8.out 4
  simp only [List.getElem?_cons_zero, List.getElem?_cons_succ] at c0 c1 c2 c3 c4
  go_wp2_with fail
  have HStS : Hid (Calls Try.prog 32 #[.pointer (some ⟨g2, 0, none⟩), .agg #[.int .u64 cf.seed, .int .u8 cf.batch, .int .i32 0, .int .i32 cf.mom, .int .u8 cf.decay], .slice none 0 0, .int .i64 k] w8 fun e w' => ∃ v, e = .returned (.tuple #[v, .bool true]) ∧ w'.ownsRow w8.heap.size 3 1 v k (tab k fun i => (((missL cf.still X St.zero k).getD i 0 : Nat) : Int)) ∧ RunIs w' g2 cf.still _ X (itN cf.still X St.zero k) ∧ Spared w8 w' (fun j => j = g2)) := steps_run g2 cf.still HSOk.out X HXok.out hX1.1 hX1.2 St.zero St.zero_ok k (by show 0 + k ≤ 400; omega) none 0 0 (fun _ => 0) w8 (.inl rfl) (fun h => absurd rfl h) HR28.out
  refine (HStS.out).mono ?_
  rintro e w9 ⟨vB, rfl, hA, hR9, hS9⟩
  have HR19 : Hid (RunIs w9 g1 cf _ X (itN cf X St.zero k)) := HR18.out.other hS9 HN12.out HR28.out
  have HR29 : Hid (RunIs w9 g2 cf.still _ X (itN cf.still X St.zero k)) := hR9
  have HR39 : Hid (RunIs w9 g3 cf.even _ X St.zero) := HR38.out.other hS9 (fun e => HN23.out e.symm) HR28.out
  have HC9 : Hid (CellsAt w9 gC 70 [.int .u64 cf.seed, .int .u8 cf.batch, .int .i32 cf.rate, .int .i32 cf.mom, .int .u8 cf.decay]) := conf_other HC8.out hS9 HR28.out
  have HE9 : Hid (CellsAt w9 gE 70 [.int .u64 cf.seed, .int .u8 cf.batch, .int .i32 e6, .int .i32 0, .int .u8 0]) := conf_other HE8.out hS9 HR28.out
  have HB9 : Hid (Below w.heap.size w w9) := HB8.out.trans (hS9.below (fun j hj => by have := HG2.out; have e' : j = g2 := hj; omega) HB8.out.size)
  have HL9 : Hid (w9.ownsRow w8.heap.size 3 1 vB k (tab k fun i => (((missL cf.still X St.zero k).getD i 0 : Nat) : Int))) := hA
  clear hA hR9 hS9 HB8 HC8 HD8 HE8 HR18 HR28 HR38 c0 c1 c2 c3 c4 HStS
  have c0 := CellsAt.cell HE9.out 0
  have c1 := CellsAt.cell HE9.out 1
  have c2 := CellsAt.cell HE9.out 2
  have c3 := CellsAt.cell HE9.out 3
  have c4 := CellsAt.cell HE9.out 4
  simp only [List.getElem?_cons_zero, List.getElem?_cons_succ] at c0 c1 c2 c3 c4
  go_wp2_with fail
  have HStE : Hid (Calls Try.prog 32 #[.pointer (some ⟨g3, 0, none⟩), .agg #[.int .u64 cf.seed, .int .u8 cf.batch, .int .i32 e6, .int .i32 0, .int .u8 0], .slice none 0 0, .int .i64 k] w9 fun e w' => ∃ v, e = .returned (.tuple #[v, .bool true]) ∧ RunIs w' g3 cf.even (markB cf.even s3) X (itN cf.even X St.zero k) ∧ Spared w9 w' (fun j => j = g3)) := by
    have h := steps_run g3 cf.even HEOk.out X HXok.out hX1.1 hX1.2 St.zero St.zero_ok k (by show 0 + k ≤ 400; omega) none 0 0 (fun _ => 0) w9 (.inl rfl) (fun h => absurd rfl h) HR39.out
    rw [HEv.out] at h
    refine Calls.mono h ?_
    rintro e w' ⟨v, rfl, _, h2, h3⟩
    exact ⟨v, rfl, h2, h3⟩
  refine (HStE.out).mono ?_
  rintro e wa ⟨vE, rfl, hRa, hSa⟩
  have HR1a : Hid (RunIs wa g1 cf _ X (itN cf X St.zero k)) := HR19.out.other hSa HN13.out HR39.out
  have HR2a : Hid (RunIs wa g2 cf.still _ X (itN cf.still X St.zero k)) := HR29.out.other hSa HN23.out HR39.out
  have HR3a : Hid (RunIs wa g3 cf.even _ X (itN cf.even X St.zero k)) := hRa
  have HCa : Hid (CellsAt wa gC 70 [.int .u64 cf.seed, .int .u8 cf.batch, .int .i32 cf.rate, .int .i32 cf.mom, .int .u8 cf.decay]) := conf_other HC9.out hSa HR39.out
  have HLa : Hid (wa.ownsRow w8.heap.size 3 1 vB k (tab k fun i => (((missL cf.still X St.zero k).getD i 0 : Nat) : Int))) := ints_other HL9.out hSa HR39.out
  have HBa : Hid (Below w.heap.size w wa) := HB9.out.trans (hSa.below (fun j hj => by have := HG3.out; have e' : j = g3 := hj; omega) HB9.out.size)
  clear hRa hSa HB9 HC9 HE9 HR19 HR29 HR39 HL9 c0 c1 c2 c3 c4 HStE
  go_wp2_with fail
  refine (weights_run g1 cf X _ (HStO.out cf) _ HR1a.out).mono ?_
  rintro e wb ⟨vR, rfl, _, hbb⟩
  have HR2b : Hid (RunIs wb g2 cf.still _ X (itN cf.still X St.zero k)) := HR2a.out.later hbb
  have HR3b : Hid (RunIs wb g3 cf.even _ X (itN cf.even X St.zero k)) := HR3a.out.later hbb
  have HCb : Hid (CellsAt wb gC 70 [.int .u64 cf.seed, .int .u8 cf.batch, .int .i32 cf.rate, .int .i32 cf.mom, .int .u8 cf.decay]) := CellsAt.later HCa.out hbb
  have HLb : Hid (wb.ownsRow w8.heap.size 3 1 vB k (tab k fun i => (((missL cf.still X St.zero k).getD i 0 : Nat) : Int))) := ownsRow_below HLa.out hbb
  have HBb : Hid (Below w.heap.size w wb) := HBa.out.trans (hbb.mono HBa.out.size)
  clear hbb HR1a HR2a HR3a HCa HLa HBa
  go_wp2_with fail
  refine (weights_run g2 cf.still X _ (HStO.out cf.still) _ HR2b.out).mono ?_
  rintro e wc ⟨vW, rfl, hWc, hbc⟩
  have HR3c : Hid (RunIs wc g3 cf.even _ X (itN cf.even X St.zero k)) := HR3b.out.later hbc
  have HCc : Hid (CellsAt wc gC 70 [.int .u64 cf.seed, .int .u8 cf.batch, .int .i32 cf.rate, .int .i32 cf.mom, .int .u8 cf.decay]) := CellsAt.later HCb.out hbc
  have HLc : Hid (wc.ownsRow w8.heap.size 3 1 vB k (tab k fun i => (((missL cf.still X St.zero k).getD i 0 : Nat) : Int))) := ownsRow_below HLb.out hbc
  have HWc : Hid (wc.ownsRow wb.heap.size 21 1 vW 128 (wCells (flat (itN cf.still X St.zero k).w) 128)) := hWc
  have HBc : Hid (Below w.heap.size w wc) := HBb.out.trans (hbc.mono HBb.out.size)
  clear hbc hWc HR2b HR3b HCb HLb HBb
  go_wp2_with fail
  refine (weights_run g3 cf.even X _ (HStO.out cf.even) _ HR3c.out).mono ?_
  rintro e wd ⟨vV, rfl, hVd, hbd⟩
  have HCd : Hid (CellsAt wd gC 70 [.int .u64 cf.seed, .int .u8 cf.batch, .int .i32 cf.rate, .int .i32 cf.mom, .int .u8 cf.decay]) := CellsAt.later HCc.out hbd
  have HLd : Hid (wd.ownsRow w8.heap.size 3 1 vB k (tab k fun i => (((missL cf.still X St.zero k).getD i 0 : Nat) : Int))) := ownsRow_below HLc.out hbd
  have HWd : Hid (wd.ownsRow wb.heap.size 21 1 vW 128 (wCells (flat (itN cf.still X St.zero k).w) 128)) := ownsRow_below HWc.out hbd
  have HVd : Hid (wd.ownsRow wc.heap.size 21 1 vV 128 (wCells (flat (itN cf.even X St.zero k).w) 128)) := hVd
  have HBd : Hid (Below w.heap.size w wd) := HBc.out.trans (hbd.mono HBc.out.size)
  clear hbd hVd HR3c HCc HLc HWc HBc
  obtain ⟨aL, cL, hvL, hL1, hL2, hL3⟩ := own_read HLd.out
  subst hvL
  obtain ⟨gL, haL, _, _, hLc⟩ := hL3 (by omega)
  subst haL
  obtain ⟨aW, cW, hvW, hW1, hW2, hW3⟩ := own_read HWd.out
  subst hvW
  obtain ⟨gW, haW, _, _, hWc⟩ := hW3 (by omega)
  subst haW
  obtain ⟨aV, cV, hvV, hV1, hV2, hV3⟩ := own_read HVd.out
  subst hvV
  obtain ⟨gV, haV, _, _, hVc⟩ := hV3 (by omega)
  subst haV
  have HLz : Hid (∀ i, i < k → wd.cell? ⟨gL, i, none⟩ = some (.int .i64 (cf.batch : Int))) := fun i hi => by
    rw [hLc i (by omega), tab_get _ hi]
    show some (Value.int .i64 (((missL cf.still X St.zero k).getD i 0 : Nat) : Int)) = _
    rw [still_list cf.still X rfl k i hi]; rfl
  have HWz : Hid (∀ i, i < 128 → wd.cell? ⟨gW, i, none⟩ = some (.int .i32 0)) := fun i hi => by
    rw [hWc i (by omega), wCells_get _ hi]
    show some (Value.int .i32 ((itN cf.still X St.zero k).w (i / 32) (i % 32))) = _
    rw [itN_zero, (still cf.still X rfl k).1]
  have HVz : Hid (∀ h b, h < 4 → b < 32 → wd.cell? ⟨gV, h * 32 + b, none⟩ = some (.int .i32 ((runN cf.even X k).w h b))) := fun h b hh hb => by
    rw [hVc (h * 32 + b) (by omega), wCells_get _ (show h * 32 + b < 128 by omega), flat_at _ hb, itN_zero]
  obtain ⟨hev1, hev2⟩ := even_sum cf.even X (fun x hx => (HXok.out x hx).1) r6 (by rw [HEv.out, ← He6.out, Nat.mul_comm]) HEOk.out.rate rfl rfl HEOk.out.batch8 k hk.2
  have HSm : Hid (∀ b, sumTo (fun a => (runN cf.even X k).w a b) 4 = 0) := fun b => by rw [sum4_to]; exact hev1 b
  have HBn : Hid (∀ a b, -1720320 ≤ (runN cf.even X k).w a b ∧ (runN cf.even X k).w a b ≤ 1720320) := fun a b => by
    have := hev2 a b
    omega
  generalize (runN cf.even X k).w = T at *
  have cB := CellsAt.cell HCd.out 1
  simp only [List.getElem?_cons_zero, List.getElem?_cons_succ] at cB
  have hbt := HcOk.out.batch8
  generalize cf.batch = bB at *
  clear hL3 hW3 hV3 hLc hWc hVc hev1 hev2 HLd HWd HVd HCd HStO HBegS HBegE HBeg HSet H0
  unfold maxLen at hL2 hW2 hV2
  go_wp2_with fail
  go_loopw [32] (fun iv wr => ∃ i : Nat, i ≤ 128 ∧ iv = .int .i64 i ∧ wd = wr) (fun i _ => 128 - (intOf i).toNat)
  case atStart => exact ⟨0, by omega, rfl, rfl⟩
  case round =>
    obtain ⟨i, hi, rfl, rfl⟩ := hrel
    by_cases hlt : i < 128
    · have hc := HWz.out i hlt
      have hii : (i : Int) < 128 := by omega
      go_wp2
      go_roundw
      case rel => exact ⟨i + 1, by omega, by go_num, trivial⟩
      case measure => simp [intOf]; omega
    · obtain rfl : i = 128 := by omega
      clear HWz
      go_wp2_with fail
      go_loopw [33] (fun jv wr => ∃ j nq : Nat, j ≤ k ∧ jv = .int .i64 j ∧ wr = wd.drewN nq) (fun j _ => k - (intOf j).toNat)
      case atStart => exact ⟨0, 0, by omega, rfl, rfl⟩
      case round =>
        obtain ⟨j, nq, hj, rfl, rfl⟩ := hrel
        by_cases hjl : j < k
        · have hc := HLz.out j hjl
          have hji : (j : Int) < (k : Int) := by omega
          go_wp2_with fail
          go_quiet (fail)
          go_wp2
          go_roundw
          case rel => exact ⟨j + 1, _, by omega, by go_num, rfl⟩
          case measure => simp [intOf]; omega
        · obtain rfl : j = k := by omega
          have HVy : Hid (∀ h b, h < 4 → b < 32 → (wd.drewN nq).cell? ⟨gV, h * 32 + b, none⟩ = some (.int .i32 (T h b))) := HVz.out
          have HBe : Hid (Below w.heap.size w (wd.drewN nq)) := below_drewN HBd.out nq
          generalize wd.drewN nq = we at *
          clear HLz HVz HBd cB
          go_wp2_with fail
          go_loopw [34] (fun bv wr => ∃ b : Nat, b ≤ 32 ∧ bv = .int .i64 b ∧ we = wr) (fun b _ => 32 - (intOf b).toNat)
          case atStart => exact ⟨0, by omega, rfl, rfl⟩
          case round =>
            obtain ⟨b, hb, rfl, rfl⟩ := hrel
            by_cases hbl : b < 32
            · go_wp2_with fail
              generalize decide ((b : Int) < 32) = q32
              go_loopw [35, 36] (fun sv hv wr => ∃ h : Nat, h ≤ 4 ∧ hv = .int .i64 h ∧ sv = .int .i32 (sumTo (fun a => T a b) h) ∧ we = wr) (fun _ h _ => 4 - (intOf h).toNat)
              case atStart => exact ⟨0, by omega, rfl, rfl, rfl⟩
              case round =>
                obtain ⟨h, hh, rfl, rfl, rfl⟩ := hrel
                by_cases hhl : h < 4
                · have hc := HVy.out h b hhl hbl
                  have hs := sumTo_le (fun a => T a b) 1720320 4 (fun i _ => by have := HBn.out i b; exact ⟨by show -1720320 ≤ T i b; omega, this.2⟩) h hh
                  have hT := HBn.out h b
                  have HSu : Hid (sumTo (fun a => T a b) (h + 1) = sumTo (fun a => T a b) h + T h b) := rfl
                  generalize sumTo (fun a => T a b) h = sm at *
                  generalize T h b = th at *
                  have hs1 : -6881280 ≤ sm := by omega
                  have hs2 : sm ≤ 6881280 := by omega
                  have hhb : (h : Int) * 32 + (b : Int) < 128 := by omega
                  clear hs
                  go_wp2
                  go_roundw
                  case rel => exact ⟨h + 1, by omega, by go_num, by rw [HSu.out], trivial⟩
                  case measure => simp [intOf]; omega
                · obtain rfl : h = 4 := by omega
                  rw [HSm.out b]
                  go_wp2
                  go_roundw
                  case rel => exact ⟨b + 1, by omega, by go_num, trivial⟩
                  case measure => simp [intOf]; omega
            · obtain rfl : b = 32 := by omega
              go_wp2
              go_ret
              exact ⟨rfl, HBe.out⟩

set_option maxRecDepth 100000 in
theorem held_lifted (os : Os) (started : os.Started) (H : Type) (enc : TypeId × Value → H) :
    ReturnsInHanded {} Try.checked os 12 .any (Rows.heldSpec.pre6 enc Try.prog Try.f12 Rows.heldRow.domain false) (Rows.heldSpec.post enc Try.prog Try.f12 false true false false) := by
  refine returnsInHanded_of_change (C := Try.checked) own started (by kernel_rfl) Try.func12
    (ChangeSpec.witness6 (enc := enc) (C := Try.checked) false ⟨#[], #[.agg #[.int .u64 0, .int .u8 0, .int .i32 0, .int .i32 0, .int .u8 0], .slice none 0 0, .int .i64 0], []⟩ 8 (by kernel_rfl) (by kernel_rfl) (by kernel_rfl) (by kernel_rfl)) ?_
  intro W base args ds gs before hval0 hW hcnd _
  have hval : ∀ (j : Nat) t v, Try.f12.params[j]? = some t → args[j]? = some v → Value.okWide Try.prog W .any base t v := hval0
  have hW' := hW
  obtain ⟨p, q, hA0, hV, rfl, hfz, hnd⟩ := hW
  have hA : DataW.TrodAll enc Try.prog W 0 (fun _ => true) true Try.f12.params.toList args.toList ds p := hA0
  rw [Try.params12] at hA hval
  obtain ⟨v0, vs0, d0, ds0, p0, q0, hargs, rfl, rfl, h0, r0⟩ := trodAll_cons hA
  obtain ⟨v1, vs1, d1, ds1, p1, q1, rfl, rfl, rfl, h1, r1⟩ := trodAll_cons r0
  obtain ⟨v2, vs2, d2, ds2, p2, q2, rfl, rfl, rfl, h2, r2⟩ := trodAll_cons r1
  obtain ⟨rfl, rfl, rfl⟩ := trodAll_nil r2
  obtain rfl : args = #[v0, v1, v2] := by cases args; simp_all
  obtain ⟨rfl, rfl⟩ := trodVars_none hV
  obtain ⟨cs, rfl, hcs⟩ := okWide_struct Try.underlying70 (hval 0 70 v0 rfl rfl)
  rw [show Try.prog.cellsOf 70 = 5 by kernel_rfl] at hcs
  obtain ⟨a1, len1, cap1, rfl⟩ := okWide_slice Try.underlying22 (hval 1 22 v1 rfl rfl)
  have k0 := h0
  have k1 := h1
  have lt0 : ∀ x ∈ p0, x.block < W.heap.size := by obtain ⟨m, hm⟩ := k0; exact DataW.trod_lt m _ _ _ hm
  have lt1 : ∀ x ∈ p1, x.block < W.heap.size := by obtain ⟨m, hm⟩ := k1; exact DataW.trod_lt m _ _ _ hm
  obtain ⟨r, hr, hrc⟩ : ∃ r : Raw, r.Wf ∧ cs.toList = r.cells := by
    obtain ⟨fuel, hf⟩ := h0
    exact open_config (by simpa using hcs) (by simpa [Value.cells] using hf)
  obtain rfl : cs = r.cells.toArray := by rw [← hrc]
  obtain ⟨L, T, hx⟩ : ∃ L T, IsExs W a1 len1 cap1 L T := by
    obtain ⟨fuel, hf⟩ := h1
    exact open_exs (by simpa [Value.cells] using hf)
  obtain ⟨n2, rfl, rfl, rfl, wf2⟩ := open_int Try.underlying3 (hval 2 3 v2 rfl rfl) h2
  clear hA0 hval0
  have b2 := bounds_i64 wf2
  refine (held_walk r hr a1 len1 cap1 L T n2 (by omega) (by omega) W hx hx.len).mono fun e W' ⟨he, bel⟩ => ?_
  subst he
  exact ⟨_, rfl, _, _, _, [], _, [], hW', trodAll_mk1 (shut_bool Try.underlying4 _), (trodAll_cons_mk (Below.trod laidOut (by kernel_rfl) (of_decide_eq_true (by kernel_rfl)) k0 bel lt0) (trodAll_cons_mk (Below.trod laidOut (by kernel_rfl) (of_decide_eq_true (by kernel_rfl)) k1 bel lt1) (trodAll_cons_mk (shut_int Try.underlying3 wf2) trodAll_mk0))), rfl, bel.frame _, fun h => by cases h⟩

theorem held_over : Rows.heldRow.holds Try.pinned (OpenSpec.ofChange Rows.heldSpec) :=
  OpenClaim.holds_of_wide 12 Try.f12 rfl rfl rfl rfl rfl rfl rfl ⟨rfl, rfl, rfl, rfl, rfl⟩ rfl rfl rfl rfl rfl (by kernel_rfl) Try.func12 (by kernel_rfl)
    (of_decide_eq_true (by kernel_rfl)) (by unfold Func.isWrapper; first | (rw [if_pos (by decide +kernel)]; kernel_rfl) | (rw [if_neg (by decide +kernel)]; exact ⟨rfl, rfl⟩))
    (fun os started H enc _ => held_lifted os started H enc)

theorem held_holds : Rows.HeldSaid := held_over
#print axioms held_holds
end Go.Proofs.Ytfpodnleimhohaa
