/-
  WALKS: one Scan held against the document's; what came out is kept.
-/
import Derived.Test.YtfpodnleimhohaaWalksH
namespace Go.Proofs.Ytfpodnleimhohaa
open Go.RowKit
set_option linter.unusedVariables false

theorem tag_ne {w : World} {base e size n k e' : Nat} {v : Value} {xs : List Value} {cs : Array Value} (h : w.ownsRow base e size v n xs) (hk : w.heap[k]? = some (.cells cs e' (0, 0))) (hne : e ≠ e') : ¬ some k = v.ownBlock := fun hh => own_ne h hk hne hh.symm

set_option maxRecDepth 100000 in
set_option maxHeartbeats 2000000 in
theorem scans_any (g o base : Nat) (ER EG : List Ent) (s : ByteArray) (hs : s.size ≤ maxLen) (w : World) (hI : BInv w g o base ER EG) (h1 : ER.length ≤ 90000000) (h2 : EG.length ≤ 90000000) :
    Calls Try.prog 15 #[.pointer (some ⟨g, o, none⟩), .string s] w fun e w' => e = .returned (.bool true) ∧ ∃ ER' EG', BInv w' g o base ER' EG' ∧ ER'.length = ER.length + 1 ∧ EG'.length = EG.length + 1 ∧ Below g w w' := by
  have HI : Hid (BInv w g o base ER EG) := hI
  have hgb := hI.gb
  have hbw := hI.bw
  clear hI
  have hlR := scR_len s
  have hlG := scG_len s
  go_enter Try.func15, Try.ntmps15
  go_wp2_with fail
  refine (drillScan_all s hs _).mono ?_
  rintro e w1 ⟨vR, vG, rfl, hR, hG, hb1⟩
  have HR : Hid _ := hR
  have HG : Hid _ := hG
  have Hb1 : Hid _ := hb1
  clear hR hG hb1
  go_wp2_with fail
  refine (refScan_all s hs _).mono ?_
  rintro e w2 ⟨vM, vH, rfl, hM, hH, hb2⟩
  have HM : Hid _ := hM
  have HH : Hid _ := hH
  have Hb2 : Hid _ := hb2
  have HR2 : Hid (w2.ownsRow w.heap.size 52 4 vR (scR s).length (recsCells (scR s))) := ownsRow_below HR.out hb2
  have HG2 : Hid (w2.ownsRow w.heap.size 50 2 vG (scG s).length (gapsCells (scG s))) := ownsRow_below HG.out hb2
  clear hM hH hb2 HR HG
  go_wp2_with fail
  refine (sameRecords_any _ _ vR vM (scR s) _ HR2.out HM.out (by omega)).mono ?_
  rintro e w3 ⟨rfl, hw⟩
  have Hb3 : Hid (Below w2.heap.size w2 w3) := (below_of_drewN hw).1
  have HG3 : Hid (w3.ownsRow w.heap.size 50 2 vG (scG s).length (gapsCells (scG s))) := ownsRow_below HG2.out Hb3.out
  have HH3 : Hid (w3.ownsRow w1.heap.size 50 2 vH (scG s).length (gapsCells (scG s))) := ownsRow_below HH.out Hb3.out
  have HR3 : Hid (w3.ownsRow w.heap.size 52 4 vR (scR s).length (recsCells (scR s))) := ownsRow_below HR2.out Hb3.out
  clear hw HG2 HH HR2 HM
  go_wp2_with fail
  refine (sameGaps_any _ _ vG vH (scG s) _ HG3.out HH3.out (by omega)).mono ?_
  rintro e w4 ⟨rfl, hw⟩
  have Hb4 : Hid (Below w3.heap.size w3 w4) := (below_of_drewN hw).1
  have HG4 : Hid (w4.ownsRow w.heap.size 50 2 vG (scG s).length (gapsCells (scG s))) := ownsRow_below HG3.out Hb4.out
  have HH4 : Hid (w4.ownsRow w1.heap.size 50 2 vH (scG s).length (gapsCells (scG s))) := ownsRow_below HH3.out Hb4.out
  have HR4 : Hid (w4.ownsRow w.heap.size 52 4 vR (scR s).length (recsCells (scR s))) := ownsRow_below HR3.out Hb4.out
  have Hw4 : Hid (Below w.heap.size w w4 ∧ w1.heap.size ≤ w4.heap.size ∧ w.heap.size ≤ w1.heap.size) := by
    have a1 := Hb1.out.size
    have a2 := Hb2.out.size
    have a3 := Hb3.out.size
    have a4 := Hb4.out.size
    exact ⟨((Hb1.out.trans (Below.mono Hb2.out a1)).trans (Below.mono Hb3.out (by omega))).trans (Below.mono Hb4.out (by omega)), by omega, a1⟩
  clear hw HG3 HH3 HR3 Hb1 Hb2 Hb3 Hb4
  have HI4 : Hid (BInv w4 g o base ER EG) := BInv.later HI.out Hw4.out.1
  obtain ⟨aI, cI, aW, cW, aR, cR, aG, cG, hB4, hr4, hg4⟩ := HI4.out.bk
  have HB4 : Hid _ := hB4
  have Hr4 : Hid (w4.ownsRow base 123 5 (.slice aR ER.length cR) ER.length (entsCells ER)) := hr4
  have Hg4 : Hid (w4.ownsRow base 125 5 (.slice aG EG.length cG) EG.length (entsCells EG)) := hg4
  have hbw4 : base ≤ w4.heap.size := by have := Hw4.out; omega
  have Hsz : Hid (w.heap.size ≤ w4.heap.size) := Hw4.out.1.size
  clear hB4 hr4 hg4
  go_wp2_with fail
  refine (keepRecords_any g o 0 0 ER.length EG.length aI cI aW cW aR cR aG cG base _ vR _ _ _ HB4.out ⟨by omega, by omega, by omega, by omega⟩ hgb hbw4 (ownsRow_base HR4.out hbw) (by omega) Hr4.out).mono ?_
  rintro e w5 ⟨rfl, aR', cR', va, vb, vc, hB5, hr5, f0, f1, f2, f3, hsp5⟩
  generalize hm1 : (-1000 - ((0 : Nat) : Int) - ((0 : Nat) : Int) - (ER.length : Int) - (EG.length : Int)) = m1 at *
  have vRold : ∀ k, k < w.heap.size → ¬ some k = vR.ownBlock := fun k hk h => by have := (HR4.out.lt k h.symm).1; omega
  have vGold : ∀ k, k < w.heap.size → ¬ some k = vG.ownBlock := fun k hk h => by have := (HG4.out.lt k h.symm).1; omega
  have notG : ∀ (k : Nat) (cs : Array Value) (e : Nat), base ≤ k → w4.heap[k]? = some (.cells cs e (0, 0)) → e ≠ 123 → e ≠ 52 → ¬ (k = g ∨ some k = vR.ownBlock ∨ some k = Value.ownBlock (.slice aR ER.length cR)) := by
    intro k cs e hk hh h1 h2 h
    rcases h with h | h | h
    · omega
    · exact tag_ne HR4.out hh (fun q => h2 q.symm) h
    · exact tag_ne Hr4.out hh (fun q => h1 q.symm) h
  have HG5 : Hid (w5.ownsRow w.heap.size 50 2 vG (scG s).length (gapsCells (scG s))) := ownsRow_spared HG4.out hsp5 (fun k hk => by
    obtain ⟨cs, hh⟩ := own_tag HG4.out hk
    exact notG k cs _ (by have := (HG4.out.lt k hk).1; omega) hh (by decide) (by decide))
  have HH5 : Hid (w5.ownsRow w1.heap.size 50 2 vH (scG s).length (gapsCells (scG s))) := ownsRow_spared HH4.out hsp5 (fun k hk => by
    obtain ⟨cs, hh⟩ := own_tag HH4.out hk
    exact notG k cs _ (by have := (HH4.out.lt k hk).1; have := Hw4.out; omega) hh (by decide) (by decide))
  have Hg5 : Hid (w5.ownsRow base 125 5 (.slice aG EG.length cG) EG.length (entsCells EG)) := ownsRow_spared Hg4.out hsp5 (fun k hk => by
    obtain ⟨cs, hh⟩ := own_tag Hg4.out hk
    exact notG k cs _ (Hg4.out.lt k hk).1 hh (by decide) (by decide))
  have HB5 : Hid _ := hB5
  have Hr5 : Hid _ := hr5
  have HF5 : Hid (EntIs w5 base 52 mkR ⟨vR, va, vb, vc, m1, (scR s).length⟩) := ⟨f0, f1, f2, f3, by show (scR s).length ≤ 1000; omega⟩
  have Hsp5 : Hid _ := hsp5
  clear hB5 hr5 f0 f1 f2 f3 hsp5 notG
  go_wp2_with fail
  refine (sameGaps_any _ _ vG vH (scG s) _ HG5.out HH5.out (by omega)).mono ?_
  rintro e w6 ⟨rfl, hw⟩
  have Hb6 : Hid (Below w5.heap.size w5 w6) := (below_of_drewN hw).1
  clear hw
  have Hz5 : Hid (w4.heap.size ≤ w5.heap.size) := Hsp5.out.size
  have HG6 : Hid (w6.ownsRow w.heap.size 50 2 vG (scG s).length (gapsCells (scG s))) := ownsRow_below HG5.out Hb6.out
  have Hg6 : Hid (w6.ownsRow base 125 5 (.slice aG EG.length cG) EG.length (entsCells EG)) := ownsRow_below Hg5.out Hb6.out
  have HB6 : Hid (BookAt w6 g o 0 0 (ER.length + 1) EG.length aI cI aW cW aR' cR' aG cG) := BookAt.below HB5.out Hb6.out (by have := Hz5.out; omega)
  have Hr6 : Hid (w6.ownsRow base 123 5 (.slice aR' (ER.length + 1) cR') (ER.length + 1) (entsCells ER ++ [vR, va, vb, vc, .int .i64 m1])) := ownsRow_below Hr5.out Hb6.out
  have HF6 : Hid (EntIs w6 base 52 mkR ⟨vR, va, vb, vc, m1, (scR s).length⟩) := EntIs.later HF5.out Hb6.out
  have hbw6 : base ≤ w6.heap.size := by have := Hb6.out.size; have := Hz5.out; omega
  clear HG5 HH5 Hg5 HB5 Hr5 HF5 HH4
  go_wp2_with fail
  refine (keepGaps_any g o 0 0 (ER.length + 1) EG.length aI cI aW cW aR' cR' aG cG base _ vG _ _ _ HB6.out ⟨by omega, by omega, by omega, by omega⟩ hgb hbw6 (ownsRow_base HG6.out hbw) (by omega) Hg6.out).mono ?_
  rintro e w7 ⟨rfl, aG', cG', ga, gb, gc, hB7, hg7, f0, f1, f2, f3, hsp7⟩
  generalize hm2 : (-1000 - ((0 : Nat) : Int) - ((0 : Nat) : Int) - ((ER.length + 1 : Nat) : Int) - (EG.length : Int)) = m2 at *
  have notR : ∀ (k : Nat) (cs : Array Value) (e : Nat), base ≤ k → w6.heap[k]? = some (.cells cs e (0, 0)) → e ≠ 125 → e ≠ 50 → ¬ (k = g ∨ some k = vG.ownBlock ∨ some k = Value.ownBlock (.slice aG EG.length cG)) := by
    intro k cs e hk hh h1 h2 h
    rcases h with h | h | h
    · omega
    · exact tag_ne HG6.out hh (fun q => h2 q.symm) h
    · exact tag_ne Hg6.out hh (fun q => h1 q.symm) h
  have Hr7 : w7.ownsRow base 123 5 (.slice aR' (ER.length + 1) cR') (ER.length + 1) (entsCells ER ++ [vR, va, vb, vc, .int .i64 m1]) := ownsRow_spared Hr6.out hsp7 (fun k hk => by
    obtain ⟨cs, hh⟩ := own_tag Hr6.out hk
    exact notR k cs _ (Hr6.out.lt k hk).1 hh (by decide) (by decide))
  have HF7 : EntIs w7 base 52 mkR ⟨vR, va, vb, vc, m1, (scR s).length⟩ := EntIs.spared HF6.out hsp7 (fun k cs hk hh => notR k cs _ hk hh (by decide) (by decide))
  have HF7g : EntIs w7 base 50 mkG ⟨vG, ga, gb, gc, m2, (scG s).length⟩ := ⟨f0, f1, f2, f3, by show (scG s).length ≤ 1000; omega⟩
  have old : Spared w w7 (fun k => k = g ∨ some k = Value.ownBlock (.slice aR ER.length cR) ∨ some k = Value.ownBlock (.slice aG EG.length cG)) :=
    (((Spared.of_below Hw4.out.1 _).trans Hsp5.out (fun k hk h => by
      rcases h with h | h | h
      · exact .inl h
      · exact absurd h (vRold k hk)
      · exact .inr (.inl h))).trans (Spared.of_below Hb6.out (fun _ => False)) (fun _ _ h => h.elim)).trans hsp7 (fun k hk h => by
      rcases h with h | h | h
      · exact .inl h
      · exact absurd h (vGold k hk)
      · exact .inr (.inr h))
  have same4 : ∀ (k : Nat) (cs : Array Value) (e : Nat), w.heap[k]? = some (.cells cs e (0, 0)) → w4.heap[k]? = some (.cells cs e (0, 0)) := fun k cs e h => (Hw4.out.1.block k (lt_of_block h)).trans h
  have notO : ∀ (k : Nat) (cs : Array Value) (e : Nat), base ≤ k → w.heap[k]? = some (.cells cs e (0, 0)) → e ≠ 125 → e ≠ 123 → ¬ (k = g ∨ some k = Value.ownBlock (.slice aR ER.length cR) ∨ some k = Value.ownBlock (.slice aG EG.length cG)) := by
    intro k cs e hk hh h1 h2 h
    rcases h with h | h | h
    · omega
    · exact tag_ne Hr4.out (same4 k cs e hh) (fun q => h2 q.symm) h
    · exact tag_ne Hg4.out (same4 k cs e hh) (fun q => h1 q.symm) h
  have INV : BInv w7 g o base (ER ++ [⟨vR, va, vb, vc, m1, (scR s).length⟩]) (EG ++ [⟨vG, ga, gb, gc, m2, (scG s).length⟩]) := by
    refine ⟨⟨aI, cI, aW, cW, aR', cR', aG', cG', ?_, ?_, ?_⟩, ?_, ?_, hgb, ?_⟩
    · rw [List.length_append, List.length_append]; exact hB7
    · rw [List.length_append, entsCells_snoc]; exact Hr7
    · rw [List.length_append, entsCells_snoc]; exact hg7
    · intro x hx
      rcases List.mem_append.1 hx with hx | hx
      · exact EntIs.spared (HI.out.er x hx) old (fun k cs hk hh => notO k cs _ hk hh (by decide) (by decide))
      · rw [List.mem_singleton.1 hx]; exact HF7
    · intro x hx
      rcases List.mem_append.1 hx with hx | hx
      · exact EntIs.spared (HI.out.eg x hx) old (fun k cs hk hh => notO k cs _ hk hh (by decide) (by decide))
      · rw [List.mem_singleton.1 hx]; exact HF7g
    · exact Nat.le_trans hbw old.size
  have hBel : Below g w w7 := old.below (fun k h => by
    rcases h with h | h | h
    · omega
    · have := (Hr4.out.lt k h.symm).1; omega
    · have := (Hg4.out.lt k h.symm).1; omega) (by omega)
  have lR : (ER ++ [(⟨vR, va, vb, vc, m1, (scR s).length⟩ : Ent)]).length = ER.length + 1 := by simp
  have lG : (EG ++ [(⟨vG, ga, gb, gc, m2, (scG s).length⟩ : Ent)]).length = EG.length + 1 := by simp
  generalize (ER ++ [(⟨vR, va, vb, vc, m1, (scR s).length⟩ : Ent)]) = ER' at *
  generalize (EG ++ [(⟨vG, ga, gb, gc, m2, (scG s).length⟩ : Ent)]) = EG' at *
  have HINV : Hid (BInv w7 g o base ER' EG') := INV
  have HBel : Hid (Below g w w7 ∧ ER'.length = ER.length + 1 ∧ EG'.length = EG.length + 1) := ⟨hBel, lR, lG⟩
  clear INV hBel lR lG notO notR same4 old HF7 HF7g Hr7 hB7 hg7 f0 f1 f2 f3 hsp7 vRold vGold
  obtain ⟨bI, dI, bW, dW, bR, dR, bG, dG, hBk, hrr, hgg⟩ := HINV.out.bk
  have HBk : Hid _ := hBk
  have Hrr : Hid _ := hrr
  have Hgg : Hid _ := hgg
  clear hBk hrr hgg
  go_wp2_with fail
  refine (looks_any g o bI dI bW dW bR dR bG dG base ER' EG' _ HBk.out Hrr.out Hgg.out HINV.out.er HINV.out.eg (by have := HINV.out.gb; have := HINV.out.bw; omega) (by have := HBel.out; omega) (by have := HBel.out; omega)).mono ?_
  rintro e w8 ⟨rfl, hb8⟩
  go_wp2
  go_ret
  exact ⟨rfl, ER', EG', BInv.later HINV.out hb8, HBel.out.2.1, HBel.out.2.2, HBel.out.1.trans (Below.mono hb8 (by have := HINV.out.gb; have := HINV.out.bw; omega))⟩
end Go.Proofs.Ytfpodnleimhohaa
