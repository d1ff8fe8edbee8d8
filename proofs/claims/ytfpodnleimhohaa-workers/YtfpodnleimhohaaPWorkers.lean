/-
  THE STATEMENT 'Workers': the walk of the law, and its row.
-/
import Derived.Test.YtfpodnleimhohaaWalksBO
namespace Go.Proofs.Ytfpodnleimhohaa
open Go.ChangeShapes Go.WideShapes Go.ChangeAt Go.RowKit
set_option linter.unusedVariables false

set_option maxRecDepth 100000 in
set_option maxHeartbeats 4000000 in
theorem workers_walk (r : Raw) (hw : r.Wf) (a0 : Option Addr) (len0 cap0 : Nat) (L0 : Nat → Int) (T0 : Nat → ByteArray) (a1 : Option Addr) (len1 cap1 : Nat) (N1 : Nat → Int) (a2 : Option Addr) (len2 cap2 : Nat) (N2 : Nat → Int) (ct : Int) (he0 : -9223372036854775808 ≤ ct) (he1 : ct ≤ 9223372036854775807) (w : World)
    (h0 : IsExs w a0 len0 cap0 L0 T0) (hm0 : len0 ≤ maxLen) (h1 : IsInts w a1 len1 cap1 N1) (h2 : IsInts w a2 len2 cap2 N2) :
    Calls Try.prog 10 #[.agg r.cells.toArray, .slice a0 len0 cap0, .slice a1 len1 cap1, .slice a2 len2 cap2, .int .i64 ct] w fun e w' => e = .returned (.bool true) ∧ Below w.heap.size w w' := by
  have HSet : Hid (∀ w1, _) := fun w1 => settings_any r hw w1
  have HcOk : Hid (setN r).Ok := setN_ok r hw
  obtain ⟨cf, Hcf⟩ : ∃ cf, Hid (setN r = cf) := ⟨_, (rfl : _ = _)⟩
  rw [Hcf.out] at HSet HcOk
  have HBeg : Hid (∀ w1 aS lS cS TS, IsExs w1 a0 len0 cap0 L0 T0 → IsStrs w1 aS lS cS TS → lS ≤ maxLen → _) := fun w1 aS lS cS TS h1 h2 h3 => begun_run cf HcOk.out a0 len0 cap0 L0 T0 aS lS cS TS w1 h1 hm0 h2 h3
  have hX8 := exs_len len0 L0 T0
  have HXok : Hid _ := exNat_ok (exs_ok len0 L0 T0)
  have hXl := exNat_length (exs len0 L0 T0)
  obtain ⟨X, HXe⟩ : ∃ X, Hid (exNat (exs len0 L0 T0) = X) := ⟨_, (rfl : _ = _)⟩
  rw [HXe.out] at HXok HBeg hXl
  have hX1 : 1 ≤ X.length ∧ X.length ≤ 600 := by omega
  have H0 : Hid (IsExs w a0 len0 cap0 L0 T0) := h0
  have H1 : Hid (IsInts w a1 len1 cap1 N1) := h1
  have H2 : Hid (IsInts w a2 len2 cap2 N2) := h2
  have HXl : Hid (X.length = (exs len0 L0 T0).length) := hXl
  generalize (exs len0 L0 T0).length = nX at *
  have hn0X : ((nX : Int) == 0) = false := beq_eq_false_iff_ne.2 (by omega)
  clear h0 h1 h2 hw Hcf HXe hXl hX8
  obtain ⟨sd, bt, ra, mo, de⟩ := r
  show Calls Try.prog 10 #[.agg #[.int .u64 sd, .int .u8 bt, .int .i32 ra, .int .i32 mo, .int .u8 de], .slice a0 len0 cap0, .slice a1 len1 cap1, .slice a2 len2 cap2, .int .i64 ct] w _
  go_enter Try.func10, Try.ntmps10
  go_wp2_with fail
  obtain ⟨w0, Hw0⟩ : ∃ w0, Hid (w.alloc (.cells #[.int .u64 sd, .int .u8 bt, .int .i32 ra, .int .i32 mo, .int .u8 de] 70) = w0) := ⟨_, (rfl : _ = _)⟩
  rw [Hw0.out]
  have HB0 : Hid (Below w.heap.size w w0) := by rw [← Hw0.out]; exact (Below.refl _ _).alloc (Nat.le_refl _) _
  clear Hw0
  refine (HSet.out _).mono ?_
  rintro e w1 ⟨rfl, hb1⟩
  have HB1 : Hid (Below w.heap.size w w1) := HB0.out.trans (hb1.mono HB0.out.size)
  clear hb1 HB0
  have HCe : Hid (cf.raw.cells.toArray = #[.int .u64 cf.seed, .int .u8 cf.batch, .int .i32 cf.rate, .int .i32 cf.mom, .int .u8 cf.decay]) := rfl
  rw [HCe.out]
  go_wp2_with fail
  have HB2 : Hid (Below w.heap.size w (w1.alloc (.cells #[.int .u64 cf.seed, .int .u8 cf.batch, .int .i32 cf.rate, .int .i32 cf.mom, .int .u8 cf.decay] 70))) := HB1.out.alloc HB1.out.size _
  have HC2 : Hid (CellsAt (w1.alloc (.cells #[.int .u64 cf.seed, .int .u8 cf.batch, .int .i32 cf.rate, .int .i32 cf.mom, .int .u8 cf.decay] 70)) w1.heap.size 70 [.int .u64 cf.seed, .int .u8 cf.batch, .int .i32 cf.rate, .int .i32 cf.mom, .int .u8 cf.decay]) := CellsAt.new _ _ _ _ rfl rfl
  generalize w1.alloc (.cells #[.int .u64 cf.seed, .int .u8 cf.batch, .int .i32 cf.rate, .int .i32 cf.mom, .int .u8 cf.decay] 70) = w2 at *
  generalize w1.heap.size = gC at *
  clear HB1
  refine (HBeg.out _ none 0 0 (fun _ => ByteArray.empty) (H0.out.later HB2.out) (.inl rfl) (Nat.zero_le _)).mono ?_
  rintro e w3 ⟨g1, s1, rfl, hg1, hR1, hb3⟩
  have HB3 : Hid (Below w.heap.size w w3) := HB2.out.trans (hb3.mono HB2.out.size)
  have HC3 : Hid (CellsAt w3 gC 70 [.int .u64 cf.seed, .int .u8 cf.batch, .int .i32 cf.rate, .int .i32 cf.mom, .int .u8 cf.decay]) := CellsAt.later HC2.out hb3
  have HG1 : Hid (w.heap.size ≤ g1) := Nat.le_trans HB2.out.size hg1
  have HR1 : Hid (RunIs w3 g1 cf _ X St.zero) := hR1
  clear hg1 hR1 hb3 HB2 HC2
  have c0 := CellsAt.cell HC3.out 0
  have c1 := CellsAt.cell HC3.out 1
  have c2 := CellsAt.cell HC3.out 2
  have c3 := CellsAt.cell HC3.out 3
  have c4 := CellsAt.cell HC3.out 4
  simp only [List.getElem?_cons_zero, List.getElem?_cons_succ] at c0 c1 c2 c3 c4
  go_wp2_with fail
  refine (HBeg.out _ none 0 0 (fun _ => ByteArray.empty) (H0.out.later HB3.out) (.inl rfl) (Nat.zero_le _)).mono ?_
  rintro e w4 ⟨g2, s2, rfl, hg2, hR2, hb4⟩
  have HB4 : Hid (Below w.heap.size w w4) := HB3.out.trans (hb4.mono HB3.out.size)
  have HC4 : Hid (CellsAt w4 gC 70 [.int .u64 cf.seed, .int .u8 cf.batch, .int .i32 cf.rate, .int .i32 cf.mom, .int .u8 cf.decay]) := CellsAt.later HC3.out hb4
  have HG2 : Hid (w.heap.size ≤ g2) := Nat.le_trans HB3.out.size hg2
  have HNe : Hid (g1 ≠ g2) := by have := HR1.out.lt; show g1 ≠ g2; omega
  have HR14 : Hid (RunIs w4 g1 cf _ X St.zero) := HR1.out.later hb4
  have HR24 : Hid (RunIs w4 g2 cf _ X St.zero) := hR2
  clear hg2 hR2 hb4 HB3 HC3 HR1 c0 c1 c2 c3 c4
  go_wp2_with fail
  refine (pick_any ct 20 he0 he1 (by omega) (by omega) _).mono ?_
  rintro e w5 ⟨rfl, hw⟩
  have hw' := hw.symm
  clear hw
  subst hw'
  have hp := pickN_lt ct (n := 20) (by decide)
  obtain ⟨k, Hk⟩ : ∃ k, Hid (1 + pickN ct 20 = k) := ⟨_, (rfl : _ = _)⟩
  have hk : 1 ≤ k ∧ k ≤ 20 := by rw [← Hk.out]; omega
  have hki : (1 : Int) + (pickN ct 20 : Int) = (k : Int) := by rw [← Hk.out]; omega
  generalize pickN ct 20 = pk at *
  have c0 := CellsAt.cell HC4.out 0
  have c1 := CellsAt.cell HC4.out 1
  have c2 := CellsAt.cell HC4.out 2
  have c3 := CellsAt.cell HC4.out 3
  have c4 := CellsAt.cell HC4.out 4
  simp only [List.getElem?_cons_zero, List.getElem?_cons_succ] at c0 c1 c2 c3 c4
  go_wp2_with fail
  clear hki
  obtain ⟨stE, HstE⟩ : ∃ stE, Hid (itN cf X St.zero k = stE) := ⟨_, (rfl : _ = _)⟩
  have HEok : Hid stE.Ok := by rw [← HstE.out]; exact itN_ok cf X St.zero St.zero_ok k (by show 0 + k ≤ 400; omega)
  have HGa : Hid (len1 ≠ 0 → ∀ b o, a1 = some ⟨b, o, none⟩ → b ≠ g1) := fun h b o e => by
    obtain ⟨b', o', e', _, _, hl, _⟩ := H1.out.resolve_left h
    rw [e] at e'
    simp at e'
    have := HG1.out
    omega
  have HGb : Hid (len2 ≠ 0 → ∀ b o, a2 = some ⟨b, o, none⟩ → b ≠ g2) := fun h b o e => by
    obtain ⟨b', o', e', _, _, hl, _⟩ := H2.out.resolve_left h
    rw [e] at e'
    simp at e'
    have := HG2.out
    omega
  refine (steps_run g1 cf HcOk.out X HXok.out hX1.1 hX1.2 St.zero St.zero_ok k (by show 0 + k ≤ 400; omega) a1 len1 cap1 N1 _ (H1.out.later HB4.out) HGa.out HR14.out).mono ?_
  rintro e w5 ⟨vA, rfl, hA, hR5, hS5⟩
  rw [HstE.out] at hR5
  have HA5 : Hid (w5.ownsRow w4.heap.size 3 1 vA k (tab k fun i => (((missL cf X St.zero k).getD i 0 : Nat) : Int))) := hA
  have HR15 : Hid (RunIs w5 g1 cf _ X stE) := hR5
  have HR25 : Hid (RunIs w5 g2 cf _ X St.zero) := HR24.out.other hS5 (fun e => HNe.out e.symm) HR14.out
  have HC5 : Hid (CellsAt w5 gC 70 [.int .u64 cf.seed, .int .u8 cf.batch, .int .i32 cf.rate, .int .i32 cf.mom, .int .u8 cf.decay]) := conf_other HC4.out hS5 HR14.out
  have HB5 : Hid (Below w.heap.size w w5) := HB4.out.trans (hS5.below (fun j hj => by have := HG1.out; have e' : j = g1 := hj; omega) HB4.out.size)
  clear hA hR5 hS5 HB4 HC4 HR14 HR24 c0 c1 c2 c3 c4
  have c0 := CellsAt.cell HC5.out 0
  have c1 := CellsAt.cell HC5.out 1
  have c2 := CellsAt.cell HC5.out 2
  have c3 := CellsAt.cell HC5.out 3
  have c4 := CellsAt.cell HC5.out 4
  simp only [List.getElem?_cons_zero, List.getElem?_cons_succ] at c0 c1 c2 c3 c4
  go_wp2_with fail
  refine (steps_run g2 cf HcOk.out X HXok.out hX1.1 hX1.2 St.zero St.zero_ok k (by show 0 + k ≤ 400; omega) a2 len2 cap2 N2 _ (H2.out.later HB5.out) HGb.out HR25.out).mono ?_
  rintro e w6 ⟨vB, rfl, hA, hR6, hS6⟩
  rw [HstE.out] at hR6
  have HA6 : Hid (w6.ownsRow w4.heap.size 3 1 vA k (tab k fun i => (((missL cf X St.zero k).getD i 0 : Nat) : Int))) := ints_other HA5.out hS6 HR25.out
  have HE6 : Hid (w6.ownsRow w5.heap.size 3 1 vB k (tab k fun i => (((missL cf X St.zero k).getD i 0 : Nat) : Int))) := hA
  have HR16 : Hid (RunIs w6 g1 cf _ X stE) := HR15.out.other hS6 HNe.out HR25.out
  have HR26 : Hid (RunIs w6 g2 cf _ X stE) := hR6
  have HB6 : Hid (Below w.heap.size w w6) := HB5.out.trans (hS6.below (fun j hj => by have := HG2.out; have e' : j = g2 := hj; omega) HB5.out.size)
  have HC6 : Hid (CellsAt w6 gC 70 [.int .u64 cf.seed, .int .u8 cf.batch, .int .i32 cf.rate, .int .i32 cf.mom, .int .u8 cf.decay]) := conf_other HC5.out hS6 HR25.out
  clear hA hR6 hS6 HB5 HC5 HR15 HR25 c0 c1 c2 c3 c4
  go_wp2_with fail
  refine (keepInts_same _ _ vA vB _ k _ HA6.out HE6.out (by omega)).mono ?_
  rintro e w7 ⟨rfl, n7, rfl⟩
  have HR17 : Hid (RunIs (w6.drewN n7) g1 cf _ X stE) := HR16.out
  have HR27 : Hid (RunIs (w6.drewN n7) g2 cf _ X stE) := HR26.out
  have HB7 : Hid (Below w.heap.size w (w6.drewN n7)) := below_drewN HB6.out n7
  have HC7 : Hid (CellsAt (w6.drewN n7) gC 70 [.int .u64 cf.seed, .int .u8 cf.batch, .int .i32 cf.rate, .int .i32 cf.mom, .int .u8 cf.decay]) := HC6.out
  generalize w6.drewN n7 = w7 at *
  clear HA6 HE6 HR16 HR26 HB6 HC6
  have hEs : stE.steps = k := by rw [← HstE.out, itN_steps]; show 0 + k = k; omega
  obtain ⟨n, Hn⟩ : ∃ n, Hid (X.length = n) := ⟨_, (rfl : _ = _)⟩
  have hn18 : 1 ≤ n ∧ n ≤ 600 := by rw [← Hn.out]; exact hX1
  have hbt := HcOk.out.batch8
  obtain ⟨B, HB⟩ : ∃ B, Hid (cf.batch = B) := ⟨_, (rfl : _ = _)⟩
  rw [HB.out] at hbt
  obtain ⟨j, Hj⟩ : ∃ j, Hid (k * B = j) := ⟨_, (rfl : _ = _)⟩
  have hjb : j ≤ 160 := by rw [← Hj.out]; exact Nat.le_trans (Nat.mul_le_mul hk.2 hbt) (by decide)
  have hj1 : (k : Int) * (B : Int) = (j : Int) := by rw [← Hj.out, Int.natCast_mul]
  obtain ⟨q, Hq⟩ : ∃ q, Hid (j / n = q) := ⟨_, (rfl : _ = _)⟩
  obtain ⟨t, Ht⟩ : ∃ t, Hid (j % n = t) := ⟨_, (rfl : _ = _)⟩
  have HSA : Hid (statusAns cf X.length stE = [.int .i64 k, .int .i64 q, .int .i64 t]) := by
    show _ = _
    unfold statusAns
    rw [hEs, HB.out, Hj.out, Hn.out, Hq.out, Ht.out]
  have htn : t < n := by rw [← Ht.out]; exact Nat.mod_lt _ (by omega)
  have hqb : q ≤ 160 := by have := Nat.div_le_self j n; rw [Hq.out] at this; omega
  have hqn : q * n + t = j := by
    have := Nat.div_add_mod j n
    rw [Hq.out, Ht.out, Nat.mul_comm] at this
    exact this
  obtain ⟨m, Hm⟩ : ∃ m, Hid (q * n = m) := ⟨_, (rfl : _ = _)⟩
  have hm1 : (q : Int) * (n : Int) = (m : Int) := by rw [← Hm.out, Int.natCast_mul]
  rw [Hm.out] at hqn
  clear hEs
  go_wp2_with fail
  refine (status_run cf HcOk.out X hX1.1 hX1.2 stE HEok.out g1 _ HR17.out).mono ?_
  rintro e w8 ⟨rfl, hb8⟩
  rw [HSA.out]
  have HB8 : Hid (Below w.heap.size w w8) := HB7.out.trans (hb8.mono HB7.out.size)
  have HR18 : Hid (RunIs w8 g1 cf _ X stE) := HR17.out.later hb8
  have HR28 : Hid (RunIs w8 g2 cf _ X stE) := HR27.out.later hb8
  have HC8 : Hid (CellsAt w8 gC 70 [.int .u64 cf.seed, .int .u8 cf.batch, .int .i32 cf.rate, .int .i32 cf.mom, .int .u8 cf.decay]) := CellsAt.later HC7.out hb8
  clear hb8 HB7 HR17 HR27 HC7
  go_wp2_with fail
  have HB9 : Hid (Below w.heap.size w (w8.alloc (.cells #[.int .i64 k, .int .i64 q, .int .i64 t] 83))) := HB8.out.alloc HB8.out.size _
  have HR19 : Hid (RunIs (w8.alloc (.cells #[.int .i64 k, .int .i64 q, .int .i64 t] 83)) g1 cf _ X stE) := HR18.out.later ((Below.refl _ _).alloc (Nat.le_refl _) _)
  have HR29 : Hid (RunIs (w8.alloc (.cells #[.int .i64 k, .int .i64 q, .int .i64 t] 83)) g2 cf _ X stE) := HR28.out.later ((Below.refl _ _).alloc (Nat.le_refl _) _)
  have HC9 : Hid (CellsAt (w8.alloc (.cells #[.int .i64 k, .int .i64 q, .int .i64 t] 83)) gC 70 [.int .u64 cf.seed, .int .u8 cf.batch, .int .i32 cf.rate, .int .i32 cf.mom, .int .u8 cf.decay]) := CellsAt.alloc HC8.out _
  have HS9 : Hid (CellsAt (w8.alloc (.cells #[.int .i64 k, .int .i64 q, .int .i64 t] 83)) w8.heap.size 83 [.int .i64 k, .int .i64 q, .int .i64 t]) := CellsAt.new _ _ _ _ rfl rfl
  generalize w8.alloc (.cells #[.int .i64 k, .int .i64 q, .int .i64 t] 83) = w9 at *
  generalize w8.heap.size = gT at *
  clear HB8 HR18 HR28 HC8
  refine (together_run cf HcOk.out X hX1.1 hX1.2 stE HEok.out g1 g2 _ HR19.out HR29.out).mono ?_
  rintro e wA ⟨rfl, hbA⟩
  have HBA : Hid (Below w.heap.size w wA) := HB9.out.trans (hbA.mono HB9.out.size)
  have s0 := CellsAt.cell (CellsAt.later HS9.out hbA) 0
  have s1 := CellsAt.cell (CellsAt.later HS9.out hbA) 1
  have s2 := CellsAt.cell (CellsAt.later HS9.out hbA) 2
  have cB := CellsAt.cell (CellsAt.later HC9.out hbA) 1
  simp only [List.getElem?_cons_zero, List.getElem?_cons_succ] at s0 s1 s2 cB
  rw [HB.out] at cB
  obtain rfl : nX = n := by rw [← HXl.out]; exact Hn.out
  have hmt : (m : Int) + (t : Int) = (j : Int) := by omega
  have ht0 : decide ((0 : Int) ≤ (t : Int)) = true := by simp
  have htl : decide ((t : Int) < (nX : Int)) = true := by simp; omega
  clear hbA HS9 HC9 hqn
  go_wp2
  go_ret
  exact ⟨rfl, HBA.out⟩

set_option maxRecDepth 100000 in
theorem workers_lifted (os : Os) (started : os.Started) (H : Type) (enc : TypeId × Value → H) :
    ReturnsInHanded {} Try.checked os 10 .any (Rows.workersSpec.pre6 enc Try.prog Try.f10 Rows.workersRow.domain false) (Rows.workersSpec.post enc Try.prog Try.f10 false true false false) := by
  refine returnsInHanded_of_change (C := Try.checked) own started (by kernel_rfl) Try.func10
    (ChangeSpec.witness6 (enc := enc) (C := Try.checked) false ⟨#[], #[.agg #[.int .u64 0, .int .u8 0, .int .i32 0, .int .i32 0, .int .u8 0], .slice none 0 0, .slice none 0 0, .slice none 0 0, .int .i64 0], []⟩ 8 (by kernel_rfl) (by kernel_rfl) (by kernel_rfl) (by kernel_rfl)) ?_
  intro W base args ds gs before hval0 hW hcnd _
  have hval : ∀ (j : Nat) t v, Try.f10.params[j]? = some t → args[j]? = some v → Value.okWide Try.prog W .any base t v := hval0
  have hW' := hW
  obtain ⟨p, q, hA0, hV, rfl, hfz, hnd⟩ := hW
  have hA : DataW.TrodAll enc Try.prog W 0 (fun _ => true) true Try.f10.params.toList args.toList ds p := hA0
  rw [Try.params10] at hA hval
  obtain ⟨v0, vs0, d0, ds0, p0, q0, hargs, rfl, rfl, h0, r0⟩ := trodAll_cons hA
  obtain ⟨v1, vs1, d1, ds1, p1, q1, rfl, rfl, rfl, h1, r1⟩ := trodAll_cons r0
  obtain ⟨v2, vs2, d2, ds2, p2, q2, rfl, rfl, rfl, h2, r2⟩ := trodAll_cons r1
  obtain ⟨v3, vs3, d3, ds3, p3, q3, rfl, rfl, rfl, h3, r3⟩ := trodAll_cons r2
  obtain ⟨v4, vs4, d4, ds4, p4, q4, rfl, rfl, rfl, h4, r4⟩ := trodAll_cons r3
  obtain ⟨rfl, rfl, rfl⟩ := trodAll_nil r4
  obtain rfl : args = #[v0, v1, v2, v3, v4] := by cases args; simp_all
  obtain ⟨rfl, rfl⟩ := trodVars_none hV
  obtain ⟨cs, rfl, hcs⟩ := okWide_struct Try.underlying70 (hval 0 70 v0 rfl rfl)
  rw [show Try.prog.cellsOf 70 = 5 by kernel_rfl] at hcs
  obtain ⟨a1, len1, cap1, rfl⟩ := okWide_slice Try.underlying22 (hval 1 22 v1 rfl rfl)
  obtain ⟨a2, len2, cap2, rfl⟩ := okWide_slice Try.underlying75 (hval 2 75 v2 rfl rfl)
  obtain ⟨a3, len3, cap3, rfl⟩ := okWide_slice Try.underlying75 (hval 3 75 v3 rfl rfl)
  have k0 := h0
  have k1 := h1
  have k2 := h2
  have k3 := h3
  have lt0 : ∀ x ∈ p0, x.block < W.heap.size := by obtain ⟨m, hm⟩ := k0; exact DataW.trod_lt m _ _ _ hm
  have lt1 : ∀ x ∈ p1, x.block < W.heap.size := by obtain ⟨m, hm⟩ := k1; exact DataW.trod_lt m _ _ _ hm
  have lt2 : ∀ x ∈ p2, x.block < W.heap.size := by obtain ⟨m, hm⟩ := k2; exact DataW.trod_lt m _ _ _ hm
  have lt3 : ∀ x ∈ p3, x.block < W.heap.size := by obtain ⟨m, hm⟩ := k3; exact DataW.trod_lt m _ _ _ hm
  obtain ⟨r, hr, hrc⟩ : ∃ r : Raw, r.Wf ∧ cs.toList = r.cells := by
    obtain ⟨fuel, hf⟩ := h0
    exact open_config (by simpa using hcs) (by simpa [Value.cells] using hf)
  obtain rfl : cs = r.cells.toArray := by rw [← hrc]
  obtain ⟨L, T, hx⟩ : ∃ L T, IsExs W a1 len1 cap1 L T := by
    obtain ⟨fuel, hf⟩ := h1
    exact open_exs (by simpa [Value.cells] using hf)
  obtain ⟨N2, hy⟩ : ∃ N, IsInts W a2 len2 cap2 N := by
    obtain ⟨fuel, hf⟩ := h2
    exact open_ints (by simpa [Value.cells] using hf)
  obtain ⟨N3, hz⟩ : ∃ N, IsInts W a3 len3 cap3 N := by
    obtain ⟨fuel, hf⟩ := h3
    exact open_ints (by simpa [Value.cells] using hf)
  obtain ⟨n4, rfl, rfl, rfl, wf4⟩ := open_int Try.underlying3 (hval 4 3 v4 rfl rfl) h4
  clear hA0 hval0
  have b4 := bounds_i64 wf4
  refine (workers_walk r hr a1 len1 cap1 L T a2 len2 cap2 N2 a3 len3 cap3 N3 n4 (by omega) (by omega) W hx hx.len hy hz).mono fun e W' ⟨he, bel⟩ => ?_
  subst he
  exact ⟨_, rfl, _, _, _, [], _, [], hW', trodAll_mk1 (shut_bool Try.underlying4 _), (trodAll_cons_mk (Below.trod laidOut (by kernel_rfl) (of_decide_eq_true (by kernel_rfl)) k0 bel lt0) (trodAll_cons_mk (Below.trod laidOut (by kernel_rfl) (of_decide_eq_true (by kernel_rfl)) k1 bel lt1) (trodAll_cons_mk (Below.trod laidOut (by kernel_rfl) (of_decide_eq_true (by kernel_rfl)) k2 bel lt2) (trodAll_cons_mk (Below.trod laidOut (by kernel_rfl) (of_decide_eq_true (by kernel_rfl)) k3 bel lt3) (trodAll_cons_mk (shut_int Try.underlying3 wf4) trodAll_mk0))))), rfl, bel.frame _, fun h => by cases h⟩

theorem workers_over : Rows.workersRow.holds Try.pinned (OpenSpec.ofChange Rows.workersSpec) :=
  OpenClaim.holds_of_wide 10 Try.f10 rfl rfl rfl rfl rfl rfl rfl ⟨rfl, rfl, rfl, rfl, rfl⟩ rfl rfl rfl rfl rfl (by kernel_rfl) Try.func10 (by kernel_rfl)
    (of_decide_eq_true (by kernel_rfl)) (by unfold Func.isWrapper; first | (rw [if_pos (by decide +kernel)]; kernel_rfl) | (rw [if_neg (by decide +kernel)]; exact ⟨rfl, rfl⟩))
    (fun os started H enc _ => workers_lifted os started H enc)

theorem workers_holds : Rows.WorkersSaid := workers_over
#print axioms workers_holds
end Go.Proofs.Ytfpodnleimhohaa
