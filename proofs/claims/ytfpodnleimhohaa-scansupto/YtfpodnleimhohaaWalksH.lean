/-
  WALKS: one Scan held against the document's; what came out is kept.
-/
import Derived.Test.YtfpodnleimhohaaWalksB
import Derived.Test.YtfpodnleimhohaaWalksC
import Derived.Test.YtfpodnleimhohaaWalksG
namespace Go.Proofs.Ytfpodnleimhohaa
open Go.RowKit
set_option linter.unusedVariables false

theorem gapsF_len (n : Nat) : ∀ (rs : List Rc) (o : Nat), (gapsF o n rs).length ≤ rs.length + 1 := by
  intro rs
  induction rs with
  | nil => intro o; simp only [gapsF]; split <;> simp
  | cons r rs ih =>
    intro o
    have := ih r.to
    simp only [gapsF, List.length_append, List.length_cons]
    split <;> simp <;> omega
theorem gaps_len (l : List UInt8) : (gaps l).length ≤ l.length + 1 := by
  have h1 := gapsF_len l.length (recs l) 0
  have h2 := recs_len l
  unfold gaps
  omega

/-- What Scan answers. -/
def scR (s : ByteArray) : List Rc := if s.size ≤ 600 then recs (ls s) else []
def scG (s : ByteArray) : List (Nat × Nat) := if s.size ≤ 600 then gaps (ls s) else []
def scE (s : ByteArray) : Int := if s.size ≤ 600 then 0 else 2
theorem scR_len (s : ByteArray) : (scR s).length ≤ 600 := by
  unfold scR; split
  · have := recs_len (ls s); rw [ls_length] at this; omega
  · simp
theorem scG_len (s : ByteArray) : (scG s).length ≤ 601 := by
  unfold scG; split
  · have := gaps_len (ls s); rw [ls_length] at this; omega
  · simp
theorem drillScan_all (s : ByteArray) (hs : s.size ≤ maxLen) (w : World) :
    Calls Try.prog 19 #[.string s] w fun e w' => ∃ vR vG, e = .returned (.tuple #[vR, vG, .int .i64 (scE s)]) ∧
      w'.ownsRow w.heap.size 52 4 vR (scR s).length (recsCells (scR s)) ∧ w'.ownsRow w.heap.size 50 2 vG (scG s).length (gapsCells (scG s)) ∧ Below w.heap.size w w' := by
  by_cases h : s.size ≤ 600
  · unfold scR scG scE
    rw [if_pos h, if_pos h, if_pos h]
    exact drillScan_any s h w
  · unfold scR scG scE
    rw [if_neg h, if_neg h, if_neg h]
    refine (drillScan_long s (by omega) hs w).mono ?_
    rintro e w' ⟨rfl, rfl⟩
    exact ⟨_, _, rfl, World.ownsRow_nil _ _ _ _, World.ownsRow_nil _ _ _ _, Below.refl _ _⟩
set_option maxHeartbeats 400000 in
theorem refScan_long (s : ByteArray) (hs : 600 < s.size) (hm : s.size ≤ maxLen) (w : World) :
    Calls Try.prog 41 #[.string s] w fun e w' => e = .returned (.tuple #[.slice none 0 0, .slice none 0 0, .int .i64 2]) ∧ w' = w := by
  unfold maxLen at hm
  go_enter Try.func41, Try.ntmps41
  go_wp2
  go_ret3
  exact ⟨rfl, rfl⟩
theorem refScan_all (s : ByteArray) (hs : s.size ≤ maxLen) (w : World) :
    Calls Try.prog 41 #[.string s] w fun e w' => ∃ vR vG, e = .returned (.tuple #[vR, vG, .int .i64 (scE s)]) ∧
      w'.ownsRow w.heap.size 52 4 vR (scR s).length (recsCells (scR s)) ∧ w'.ownsRow w.heap.size 50 2 vG (scG s).length (gapsCells (scG s)) ∧ Below w.heap.size w w' := by
  by_cases h : s.size ≤ 600
  · unfold scR scG scE
    rw [if_pos h, if_pos h, if_pos h]
    exact refScan_any s h w
  · unfold scR scG scE
    rw [if_neg h, if_neg h, if_neg h]
    refine (refScan_long s (by omega) hs w).mono ?_
    rintro e w' ⟨rfl, rfl⟩
    exact ⟨_, _, rfl, World.ownsRow_nil _ _ _ _, World.ownsRow_nil _ _ _ _, Below.refl _ _⟩

theorem ownsRow_base {w : World} {base B e size n : Nat} {v : Value} {xs : List Value} (h : w.ownsRow B e size v n xs) (hb : base ≤ B) : w.ownsRow base e size v n xs := by
  refine ⟨h.1, ?_⟩
  rcases h.2 with hn | ⟨g, c, u, e1, e2, r⟩
  · exact .inl hn
  · exact .inr ⟨g, c, u, e1, Nat.le_trans hb e2, r⟩
/-- The Book as it stands between two calls. -/
structure BInv (w : World) (g o base : Nat) (ER EG : List Ent) : Prop where
  bk : ∃ aI cI aW cW aR cR aG cG, BookAt w g o 0 0 ER.length EG.length aI cI aW cW aR cR aG cG ∧ w.ownsRow base 123 5 (.slice aR ER.length cR) ER.length (entsCells ER) ∧ w.ownsRow base 125 5 (.slice aG EG.length cG) EG.length (entsCells EG)
  er : ∀ x ∈ ER, EntIs w base 52 mkR x
  eg : ∀ x ∈ EG, EntIs w base 50 mkG x
  gb : g < base
  bw : base ≤ w.heap.size
theorem BInv.later {w w' : World} {g o base : Nat} {ER EG : List Ent} (h : BInv w g o base ER EG) (hb : Below w.heap.size w w') : BInv w' g o base ER EG := by
  obtain ⟨aI, cI, aW, cW, aR, cR, aG, cG, h1, h2, h3⟩ := h.bk
  have := h.gb
  have := h.bw
  exact ⟨⟨aI, cI, aW, cW, aR, cR, aG, cG, BookAt.below h1 hb (by omega), ownsRow_below h2 hb, ownsRow_below h3 hb⟩, fun x hx => (h.er x hx).later hb, fun x hx => (h.eg x hx).later hb, h.gb, Nat.le_trans h.bw hb.size⟩
theorem full_spared {w w' : World} {S : Nat → Prop} {base e : Nat} {mk : List Value} {v : Value} {p : Nat} (h : Full w base e mk v p) (hs : Spared w w' S) (hv : ∀ k cs, base ≤ k → w.heap[k]? = some (.cells cs e (0, 0)) → ¬ S k) : Full w' base e mk v p :=
  ownsRow_spared h hs (fun k hk => by
    obtain ⟨cs, hh⟩ := own_tag h hk
    exact hv k cs (World.ownsRow.lt h k hk).1 hh)
theorem EntIs.spared {w w' : World} {S : Nat → Prop} {base e : Nat} {mk : Int → List Value} {x : Ent} (h : EntIs w base e mk x) (hs : Spared w w' S) (hv : ∀ k cs, base ≤ k → w.heap[k]? = some (.cells cs e (0, 0)) → ¬ S k) : EntIs w' base e mk x :=
  ⟨full_spared h.l hs hv, full_spared h.a hs hv, full_spared h.b hs hv, full_spared h.c hs hv, h.n⟩
end Go.Proofs.Ytfpodnleimhohaa
