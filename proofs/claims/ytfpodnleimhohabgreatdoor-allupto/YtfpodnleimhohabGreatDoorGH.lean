import Derived.Test.YtfpodnleimhohabGreatDoorGC
import Derived.Test.YtfpodnleimhohabGreatDoorGen
import Derived.Test.YtfpodnleimhohabGreatDoorWalksAC
/-
  WALKS: one Scan held against the document's; what came out is kept.
-/
namespace Go.Proofs.YtfpodnleimhohabGreatDoor
open Go.RowKit
set_option linter.unusedVariables false

theorem gapsF_len (n : Nat) : ∀ (rs : List Rc) (o : Nat), (gapsF o n rs).length ≤ rs.length + 1 := by
  intro rs
  induction rs with
  | nil => intro o; simp only [gapsF]; split <;> simp
  | cons r rs ih =>
    intro o
    have := ih r.to
    simp only [gapsF, List.length_append, List.length_cons]
    split <;> simp <;> omega
theorem gaps_len (l : List UInt8) : (gaps l).length ≤ l.length + 1 := by
  have h1 := gapsF_len l.length (recs l) 0
  have h2 := recs_len l
  unfold gaps
  omega

/-- What Scan answers. -/
def scR (s : ByteArray) : List Rc := if s.size ≤ 600 then recs (ls s) else []
def scG (s : ByteArray) : List (Nat × Nat) := if s.size ≤ 600 then gaps (ls s) else []
def scE (s : ByteArray) : Int := if s.size ≤ 600 then 0 else 2
theorem scR_len (s : ByteArray) : (scR s).length ≤ 600 := by
  unfold scR; split
  · have := recs_len (ls s); rw [ls_length] at this; omega
  · simp
theorem scG_len (s : ByteArray) : (scG s).length ≤ 601 := by
  unfold scG; split
  · have := gaps_len (ls s); rw [ls_length] at this; omega
  · simp
set_option maxHeartbeats 400000 in
theorem refScan_long (s : ByteArray) (hs : 600 < s.size) (hm : s.size ≤ maxLen) (w : World) :
    Calls Tryz.prog 16 #[.string s] w fun e w' => e = .returned (.tuple #[.slice none 0 0, .slice none 0 0, .int .i64 2]) ∧ w' = w := by
  unfold maxLen at hm
  go_enter Tryz.func16, Tryz.ntmps16
  go_wp2
  go_ret3
  exact ⟨rfl, rfl⟩
theorem refScan_all (s : ByteArray) (hs : s.size ≤ maxLen) (w : World) :
    Calls Tryz.prog 16 #[.string s] w fun e w' => ∃ vR vG, e = .returned (.tuple #[vR, vG, .int .i64 (scE s)]) ∧
      w'.ownsRow w.heap.size 99 4 vR (scR s).length (recsCells (scR s)) ∧ w'.ownsRow w.heap.size 103 2 vG (scG s).length (gapsCells (scG s)) ∧ Below w.heap.size w w' := by
  by_cases h : s.size ≤ 600
  · unfold scR scG scE
    rw [if_pos h, if_pos h, if_pos h]
    exact refScan_any s h w
  · unfold scR scG scE
    rw [if_neg h, if_neg h, if_neg h]
    refine (refScan_long s (by omega) hs w).mono ?_
    rintro e w' ⟨rfl, rfl⟩
    exact ⟨_, _, rfl, World.ownsRow_nil _ _ _ _, World.ownsRow_nil _ _ _ _, Below.refl _ _⟩

theorem ownsRow_base {w : World} {base B e size n : Nat} {v : Value} {xs : List Value} (h : w.ownsRow B e size v n xs) (hb : base ≤ B) : w.ownsRow base e size v n xs := by
  refine ⟨h.1, ?_⟩
  rcases h.2 with hn | ⟨g, c, u, e1, e2, r⟩
  · exact .inl hn
  · exact .inr ⟨g, c, u, e1, Nat.le_trans hb e2, r⟩
/-- The Book as it stands between two calls. -/
structure BInv (w : World) (g o base : Nat) (ER EG : List Ent) : Prop where
  bk : ∃ aI cI aW cW aR cR aG cG, BookAt w g o 0 0 ER.length EG.length aI cI aW cW aR cR aG cG ∧ w.ownsRow base 90 5 (.slice aR ER.length cR) ER.length (entsCells ER) ∧ w.ownsRow base 93 5 (.slice aG EG.length cG) EG.length (entsCells EG)
  er : ∀ x ∈ ER, EntIs w base 99 mkR x
  eg : ∀ x ∈ EG, EntIs w base 103 mkG x
  gb : g < base
  bw : base ≤ w.heap.size
theorem BInv.later {w w' : World} {g o base : Nat} {ER EG : List Ent} (h : BInv w g o base ER EG) (hb : Below w.heap.size w w') : BInv w' g o base ER EG := by
  obtain ⟨aI, cI, aW, cW, aR, cR, aG, cG, h1, h2, h3⟩ := h.bk
  have := h.gb
  have := h.bw
  exact ⟨⟨aI, cI, aW, cW, aR, cR, aG, cG, BookAt.below h1 hb (by omega), ownsRow_below h2 hb, ownsRow_below h3 hb⟩, fun x hx => (h.er x hx).later hb, fun x hx => (h.eg x hx).later hb, h.gb, Nat.le_trans h.bw hb.size⟩
theorem full_spared {w w' : World} {S : Nat → Prop} {base e : Nat} {mk : List Value} {v : Value} {p : Nat} (h : Full w base e mk v p) (hs : Spared w w' S) (hv : ∀ k cs, base ≤ k → w.heap[k]? = some (.cells cs e (0, 0)) → ¬ S k) : Full w' base e mk v p :=
  ownsRow_spared h hs (fun k hk => by
    obtain ⟨cs, hh⟩ := own_tag h hk
    exact hv k cs (World.ownsRow.lt h k hk).1 hh)
theorem EntIs.spared {w w' : World} {S : Nat → Prop} {base e : Nat} {mk : Int → List Value} {x : Ent} (h : EntIs w base e mk x) (hs : Spared w w' S) (hv : ∀ k cs, base ≤ k → w.heap[k]? = some (.cells cs e (0, 0)) → ¬ S k) : EntIs w' base e mk x :=
  ⟨full_spared h.l hs hv, full_spared h.a hs hv, full_spared h.b hs hv, full_spared h.c hs hv, h.n⟩
end Go.Proofs.YtfpodnleimhohabGreatDoor

/-
  WALKS: the document's New.
-/
namespace Go.Proofs.YtfpodnleimhohabGreatDoor
open Go.RowKit
set_option linter.unusedVariables false

/-- The cells of a run that begins. -/
theorem zero_run : Tryz.zeroCells69 = (headCells ⟨0, 0, 0, 0, 0⟩ ⟨#[]⟩ (.slice none 0 0) 0 ++ (tab 128 (flat St.zero.w) ++ tab 128 (flat St.zero.v))).toArray := by kernel_rfl
theorem run_new (cf : Cf) (s : ByteArray) (lv : Value) :
    (((((((Tryz.zeroCells69.setIfInBounds 0 (.int .u64 cf.seed)).setIfInBounds 1 (.int .u8 cf.batch)).setIfInBounds 2 (.int .i32 cf.rate)).setIfInBounds 3 (.int .i32 cf.mom)).setIfInBounds 4 (.int .u8 cf.decay)).setIfInBounds 5 (.string s)).setIfInBounds 6 lv) = (runCells cf s lv St.zero).toArray := by
  rw [zero_run, set_left _ (by simp [headCells]), set_left _ (by simp [headCells]), set_left _ (by simp [headCells]), set_left _ (by simp [headCells]), set_left _ (by simp [headCells]), set_left _ (by simp [headCells]), set_left _ (by simp [headCells])]
  rfl

set_option maxRecDepth 100000 in
set_option maxHeartbeats 2000000 in
theorem refNew_ok (r : Raw) (hw : r.Wf) (hr : r.ok = true) (s : ByteArray) (hs : s.size ≤ 600) (hne : 0 < (recs (ls s)).length) (w : World) :
    Calls Tryz.prog 7 #[.agg r.cells.toArray, .string s] w fun e w' => ∃ g vR, e = .returned (.tuple #[.pointer (some ⟨g, 0, none⟩), .int .i64 0]) ∧ w.heap.size ≤ g ∧ RefRun w' g r.cf s vR St.zero ∧ w'.ownsRow w.heap.size 99 4 vR (recs (ls s)).length (recsCells (recs (ls s))) ∧ Below w.heap.size w w' := by
  obtain ⟨sd, bt, ra, mo, de⟩ := r
  simp only [Raw.ok, decide_eq_true_eq] at hr
  obtain ⟨h1, h2, h3, h4, h5, h6, h7⟩ := hr
  obtain ⟨ra', rfl⟩ := Int.eq_ofNat_of_zero_le h3
  obtain ⟨mo', rfl⟩ := Int.eq_ofNat_of_zero_le h5
  obtain ⟨n, Hn⟩ : ∃ n, Hid ((recs (ls s)).length = n) := ⟨_, (rfl : _ = _)⟩
  rw [Hn.out] at hne ⊢
  have hn0 : ((n : Int) == 0) = false := by simp; omega
  clear hw
  have HCf : Hid (Raw.cf ⟨sd, bt, (ra' : Int), (mo' : Int), de⟩ = ⟨sd, bt, ra', mo', de⟩) := rfl
  rw [HCf.out]
  show Calls Tryz.prog 7 #[.agg #[.int .u64 sd, .int .u8 bt, .int .i32 ra', .int .i32 mo', .int .u8 de], .string s] w _
  go_enter Tryz.func7, Tryz.ntmps7
  go_wp2_with fail
  obtain ⟨w0, Hw0⟩ : ∃ w0, Hid (w.alloc (.cells #[.int .u64 sd, .int .u8 bt, .int .i32 ra', .int .i32 mo', .int .u8 de] 24) = w0) := ⟨_, (rfl : _ = _)⟩
  rw [Hw0.out]
  have HB0 : Hid (Below w.heap.size w w0) := by rw [← Hw0.out]; exact (Below.refl _ _).alloc (Nat.le_refl _) _
  have HC0 : Hid (CellsAt w0 w.heap.size 24 [.int .u64 sd, .int .u8 bt, .int .i32 ra', .int .i32 mo', .int .u8 de]) := by rw [← Hw0.out]; exact CellsAt.new w _ _ _ rfl rfl
  clear Hw0
  refine (refScan_any s hs _).mono ?_
  rintro e w1 ⟨vR, vG, rfl, hR, hG, hb1⟩
  rw [Hn.out] at hR
  obtain ⟨aR, cR, rfl, hc1, hc2, _⟩ := own_read hR
  obtain ⟨aG, cG, rfl, hd1, hd2, _⟩ := own_read hG
  unfold maxLen at hc2 hd2
  have HR : Hid (w1.ownsRow w0.heap.size 99 4 (.slice aR n cR) n (recsCells (recs (ls s)))) := hR
  have HB1 : Hid (Below w.heap.size w w1) := HB0.out.trans (hb1.mono HB0.out.size)
  have HC1 : Hid (CellsAt w1 w.heap.size 24 [.int .u64 sd, .int .u8 bt, .int .i32 ra', .int .i32 mo', .int .u8 de]) := CellsAt.later HC0.out hb1
  have hsz := HB0.out.size
  clear hR hG hb1 HB0 HC0
  generalize (gaps (ls s)).length = m at *
  have c0 := CellsAt.cell HC1.out 0
  have c1 := CellsAt.cell HC1.out 1
  have c2 := CellsAt.cell HC1.out 2
  have c3 := CellsAt.cell HC1.out 3
  have c4 := CellsAt.cell HC1.out 4
  simp only [List.getElem?_cons_zero, List.getElem?_cons_succ] at c0 c1 c2 c3 c4
  have e1 : decide ((bt : Int) < 1) = false := by simp; omega
  have e2 : decide ((8 : Int) < (bt : Int)) = false := by simp; omega
  have e3 : decide ((ra' : Int) < 0) = false := by simp
  have e4 : decide ((65536 : Int) < (ra' : Int)) = false := by simp; omega
  have e5 : decide ((mo' : Int) < 0) = false := by simp
  have e6 : decide ((65536 : Int) ≤ (mo' : Int)) = false := by simp; omega
  have e7 : decide ((31 : Int) < (de : Int)) = false := by simp; omega
  have H4 : Hid _ := h4
  have H6 : Hid _ := h6
  clear h4 h6
  go_wp2_with fail
  rw [run_new ⟨sd, bt, ra', mo', de⟩ s (.slice aR n cR)]
  go_ret2
  refine ⟨w1.heap.size, .slice aR n cR, rfl, HB1.out.size, CellsAt.new w1 _ _ _ rfl rfl, ?_, HB1.out.alloc HB1.out.size _⟩
  have := ownsRow_below HR.out ((Below.refl _ _).alloc (Nat.le_refl _) (.cells (runCells ⟨sd, bt, ra', mo', de⟩ s (.slice aR n cR) St.zero).toArray 69))
  exact own_base this hsz
set_option maxRecDepth 100000 in
set_option maxHeartbeats 4000000 in
theorem refNew_bad (r : Raw) (hr : r.ok = false) (s : ByteArray) (hs : s.size ≤ 600) (w : World) :
    Calls Tryz.prog 7 #[.agg r.cells.toArray, .string s] w fun e w' => e = .returned (.tuple #[.pointer none, .int .i64 4]) ∧ Below w.heap.size w w' := by
  obtain ⟨sd, bt, ra, mo, de⟩ := r
  simp only [Raw.ok, decide_eq_false_iff_not] at hr
  have HBad : Hid _ := hr
  clear hr
  obtain ⟨n, Hn⟩ : ∃ n, Hid ((recs (ls s)).length = n) := ⟨_, (rfl : _ = _)⟩
  show Calls Tryz.prog 7 #[.agg #[.int .u64 sd, .int .u8 bt, .int .i32 ra, .int .i32 mo, .int .u8 de], .string s] w _
  go_enter Tryz.func7, Tryz.ntmps7
  go_wp2_with fail
  obtain ⟨w0, Hw0⟩ : ∃ w0, Hid (w.alloc (.cells #[.int .u64 sd, .int .u8 bt, .int .i32 ra, .int .i32 mo, .int .u8 de] 24) = w0) := ⟨_, (rfl : _ = _)⟩
  rw [Hw0.out]
  have HB0 : Hid (Below w.heap.size w w0) := by rw [← Hw0.out]; exact (Below.refl _ _).alloc (Nat.le_refl _) _
  have HC0 : Hid (CellsAt w0 w.heap.size 24 [.int .u64 sd, .int .u8 bt, .int .i32 ra, .int .i32 mo, .int .u8 de]) := by rw [← Hw0.out]; exact CellsAt.new w _ _ _ rfl rfl
  clear Hw0
  refine (refScan_any s hs _).mono ?_
  rintro e w1 ⟨vR, vG, rfl, hR, hG, hb1⟩
  rw [Hn.out] at hR
  obtain ⟨aR, cR, rfl, hc1, hc2, _⟩ := own_read hR
  obtain ⟨aG, cG, rfl, hd1, hd2, _⟩ := own_read hG
  unfold maxLen at hc2 hd2
  have HR : Hid (w1.ownsRow w0.heap.size 99 4 (.slice aR n cR) n (recsCells (recs (ls s)))) := hR
  have HB1 : Hid (Below w.heap.size w w1) := HB0.out.trans (hb1.mono HB0.out.size)
  have HC1 : Hid (CellsAt w1 w.heap.size 24 [.int .u64 sd, .int .u8 bt, .int .i32 ra, .int .i32 mo, .int .u8 de]) := CellsAt.later HC0.out hb1
  have hsz := HB0.out.size
  clear hR hG hb1 HB0 HC0
  generalize (gaps (ls s)).length = m at *
  have c0 := CellsAt.cell HC1.out 0
  have c1 := CellsAt.cell HC1.out 1
  have c2 := CellsAt.cell HC1.out 2
  have c3 := CellsAt.cell HC1.out 3
  have c4 := CellsAt.cell HC1.out 4
  simp only [List.getElem?_cons_zero, List.getElem?_cons_succ] at c0 c1 c2 c3 c4
  go_upto_region 4 with fail
  by_cases hc : (bt : Int) < 1
  · have e1 : decide ((bt : Int) < 1) = true := by simpa using hc
    clear hc HBad
    go_wp2
    go_ret2
    exact ⟨rfl, HB1.out⟩
  have e1 : decide ((bt : Int) < 1) = false := by simpa using hc
  have He1 : Hid (¬ ((bt : Int) < 1)) := hc
  clear hc
  by_cases hc : (8 : Int) < (bt : Int)
  · have e2 : decide ((8 : Int) < (bt : Int)) = true := by simpa using hc
    clear hc HBad
    go_wp2
    go_ret2
    exact ⟨rfl, HB1.out⟩
  have e2 : decide ((8 : Int) < (bt : Int)) = false := by simpa using hc
  have He2 : Hid (¬ ((8 : Int) < (bt : Int))) := hc
  clear hc
  by_cases hc : ra < 0
  · have e3 : decide (ra < 0) = true := by simpa using hc
    clear hc HBad
    go_wp2
    go_ret2
    exact ⟨rfl, HB1.out⟩
  have e3 : decide (ra < 0) = false := by simpa using hc
  have He3 : Hid (¬ (ra < 0)) := hc
  clear hc
  by_cases hc : (65536 : Int) < ra
  · have e4 : decide ((65536 : Int) < ra) = true := by simpa using hc
    clear hc HBad
    go_wp2
    go_ret2
    exact ⟨rfl, HB1.out⟩
  have e4 : decide ((65536 : Int) < ra) = false := by simpa using hc
  have He4 : Hid (¬ ((65536 : Int) < ra)) := hc
  clear hc
  by_cases hc : mo < 0
  · have e5 : decide (mo < 0) = true := by simpa using hc
    clear hc HBad
    go_wp2
    go_ret2
    exact ⟨rfl, HB1.out⟩
  have e5 : decide (mo < 0) = false := by simpa using hc
  have He5 : Hid (¬ (mo < 0)) := hc
  clear hc
  by_cases hc : (65536 : Int) ≤ mo
  · have e6 : decide ((65536 : Int) ≤ mo) = true := by simpa using hc
    clear hc HBad
    go_wp2
    go_ret2
    exact ⟨rfl, HB1.out⟩
  have e6 : decide ((65536 : Int) ≤ mo) = false := by simpa using hc
  have He6 : Hid (¬ ((65536 : Int) ≤ mo)) := hc
  clear hc
  by_cases hc : (31 : Int) < (de : Int)
  · have e7 : decide ((31 : Int) < (de : Int)) = true := by simpa using hc
    clear hc HBad
    go_wp2
    go_ret2
    exact ⟨rfl, HB1.out⟩
  have e7 : decide ((31 : Int) < (de : Int)) = false := by simpa using hc
  have He7 : Hid (¬ ((31 : Int) < (de : Int))) := hc
  clear hc
  exact absurd ⟨by have : ¬ ((bt : Int) < 1) := He1.out; omega, by have : ¬ ((8 : Int) < (bt : Int)) := He2.out; omega, by have : ¬ (ra < 0) := He3.out; omega, by have : ¬ ((65536 : Int) < ra) := He4.out; omega, by have : ¬ (mo < 0) := He5.out; omega, by have : ¬ ((65536 : Int) ≤ mo) := He6.out; omega, by have : ¬ ((31 : Int) < (de : Int)) := He7.out; omega⟩ HBad.out
set_option maxRecDepth 100000 in
set_option maxHeartbeats 2000000 in
theorem refNew_empty (r : Raw) (hr : r.ok = true) (s : ByteArray) (hs : s.size ≤ 600) (hne : (recs (ls s)).length = 0) (w : World) :
    Calls Tryz.prog 7 #[.agg r.cells.toArray, .string s] w fun e w' => e = .returned (.tuple #[.pointer none, .int .i64 5]) ∧ Below w.heap.size w w' := by
  obtain ⟨sd, bt, ra, mo, de⟩ := r
  simp only [Raw.ok, decide_eq_true_eq] at hr
  obtain ⟨h1, h2, h3, h4, h5, h6, h7⟩ := hr
  obtain ⟨n, Hn⟩ : ∃ n, Hid ((recs (ls s)).length = n) := ⟨_, (rfl : _ = _)⟩
  rw [Hn.out] at hne
  subst hne
  have e1 : decide ((bt : Int) < 1) = false := by simp; omega
  have e2 : decide ((8 : Int) < (bt : Int)) = false := by simp; omega
  have e3 : decide (ra < 0) = false := by simp; omega
  have e4 : decide ((65536 : Int) < ra) = false := by simp; omega
  have e5 : decide (mo < 0) = false := by simp; omega
  have e6 : decide ((65536 : Int) ≤ mo) = false := by simp; omega
  have e7 : decide ((31 : Int) < (de : Int)) = false := by simp; omega
  clear h1 h2 h3 h4 h5 h6 h7
  show Calls Tryz.prog 7 #[.agg #[.int .u64 sd, .int .u8 bt, .int .i32 ra, .int .i32 mo, .int .u8 de], .string s] w _
  go_enter Tryz.func7, Tryz.ntmps7
  go_wp2_with fail
  obtain ⟨w0, Hw0⟩ : ∃ w0, Hid (w.alloc (.cells #[.int .u64 sd, .int .u8 bt, .int .i32 ra, .int .i32 mo, .int .u8 de] 24) = w0) := ⟨_, (rfl : _ = _)⟩
  rw [Hw0.out]
  have HB0 : Hid (Below w.heap.size w w0) := by rw [← Hw0.out]; exact (Below.refl _ _).alloc (Nat.le_refl _) _
  have HC0 : Hid (CellsAt w0 w.heap.size 24 [.int .u64 sd, .int .u8 bt, .int .i32 ra, .int .i32 mo, .int .u8 de]) := by rw [← Hw0.out]; exact CellsAt.new w _ _ _ rfl rfl
  clear Hw0
  refine (refScan_any s hs _).mono ?_
  rintro e w1 ⟨vR, vG, rfl, hR, hG, hb1⟩
  rw [Hn.out] at hR
  obtain ⟨aR, cR, rfl, hc1, hc2, _⟩ := own_read hR
  obtain ⟨aG, cG, rfl, hd1, hd2, _⟩ := own_read hG
  unfold maxLen at hc2 hd2
  have HR : Hid (w1.ownsRow w0.heap.size 99 4 (.slice aR 0 cR) 0 (recsCells (recs (ls s)))) := hR
  have HB1 : Hid (Below w.heap.size w w1) := HB0.out.trans (hb1.mono HB0.out.size)
  have HC1 : Hid (CellsAt w1 w.heap.size 24 [.int .u64 sd, .int .u8 bt, .int .i32 ra, .int .i32 mo, .int .u8 de]) := CellsAt.later HC0.out hb1
  have hsz := HB0.out.size
  clear hR hG hb1 HB0 HC0
  generalize (gaps (ls s)).length = m at *
  have c0 := CellsAt.cell HC1.out 0
  have c1 := CellsAt.cell HC1.out 1
  have c2 := CellsAt.cell HC1.out 2
  have c3 := CellsAt.cell HC1.out 3
  have c4 := CellsAt.cell HC1.out 4
  simp only [List.getElem?_cons_zero, List.getElem?_cons_succ] at c0 c1 c2 c3 c4
  go_wp2
  go_ret2
  exact ⟨rfl, HB1.out⟩
set_option maxRecDepth 100000 in
theorem refNew_long (c : List Value) (hc : ∀ u ∈ c, u.oneCell' = true) (s : ByteArray) (hs : 600 < s.size) (hm : s.size ≤ maxLen) (w : World) (r : Raw) (hr : c = r.cells) :
    Calls Tryz.prog 7 #[.agg c.toArray, .string s] w fun e w' => e = .returned (.tuple #[.pointer none, .int .i64 2]) ∧ Below w.heap.size w w' := by
  subst hr
  obtain ⟨sd, bt, ra, mo, de⟩ := r
  show Calls Tryz.prog 7 #[.agg #[.int .u64 sd, .int .u8 bt, .int .i32 ra, .int .i32 mo, .int .u8 de], .string s] w _
  go_enter Tryz.func7, Tryz.ntmps7
  go_wp2_with fail
  refine (refScan_long s hs hm _).mono ?_
  rintro e w1 ⟨rfl, hw⟩
  have hw' := hw.symm
  clear hw
  subst hw'
  go_wp2
  go_ret2
  exact ⟨rfl, (Below.refl _ _).alloc (Nat.le_refl _) _⟩
end Go.Proofs.YtfpodnleimhohabGreatDoor
