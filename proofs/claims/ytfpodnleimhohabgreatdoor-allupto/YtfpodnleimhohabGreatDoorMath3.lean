/-
  PLAIN MATHEMATICS: what the records and gaps of a shard are to one another.
-/
import Derived.Test.YtfpodnleimhohabGreatDoorMath2
namespace Go.Proofs.YtfpodnleimhohabGreatDoor
open Go.RowKit

/-- Records one behind the other, from a place on. -/
def Chain (l : List UInt8) : List Rc → Nat → Prop
  | [], p => p ≤ l.length
  | r :: rs, p => p ≤ r.fr ∧ r.to = r.fr + (frameB r.bd).length ∧ r.to ≤ l.length ∧ bodyOk r.bd = true ∧ frameB r.bd <+: l.drop r.fr ∧ Chain l rs r.to
theorem Chain.down {l : List UInt8} {rs : List Rc} {p q : Nat} (h : Chain l rs q) (hpq : p ≤ q) : Chain l rs p := by
  cases rs with
  | nil => exact Nat.le_trans hpq h
  | cons r rs => exact ⟨Nat.le_trans hpq h.1, h.2⟩
theorem chain_recsAt (l : List UInt8) (m : Nat) : ∀ p, l.length - p ≤ m → p ≤ l.length → Chain l (recsAt l p) p := by
  induction m with
  | zero =>
    intro p h hp
    obtain rfl : p = l.length := by omega
    rw [recsAt_end]; show l.length ≤ l.length; exact Nat.le_refl _
  | succ m ih =>
    intro p h hp
    by_cases hlt : p < l.length
    · cases hs : stand (l.drop p) with
      | none =>
        rw [recsAt_none hlt hs]
        exact (ih (p + 1) (by omega) (by omega)).down (by omega)
      | some b =>
        obtain ⟨hle, e⟩ := recsAt_some hs
        have h6 := frameB_len b
        have hb := (stand_iff _ _).1 hs
        clear hs
        generalize hn : (frameB b).length = n at *
        rw [e]
        clear e
        have hc : Chain l (recsAt l (p + n)) (p + n) := ih _ (by omega) hle
        exact ⟨Nat.le_refl p, by rw [hn], hle, hb.1, hb.2, hc⟩
    · obtain rfl : p = l.length := by omega
      rw [recsAt_end]; show l.length ≤ l.length; exact Nat.le_refl _
theorem chain_recs (l : List UInt8) : Chain l (recs l) 0 := by
  unfold recs
  exact chain_recsAt l l.length 0 (Nat.sub_le _ _) (Nat.zero_le _)
theorem gapsF_from {l : List UInt8} : ∀ (rs : List Rc) (o : Nat), Chain l rs o → ∀ g ∈ gapsF o l.length rs, o ≤ g.1 := by
  intro rs
  induction rs with
  | nil =>
    intro o _ g hg
    simp [gapsF] at hg
    obtain ⟨_, rfl⟩ := hg
    exact Nat.le_refl _
  | cons r rs ih =>
    intro o h g hg
    obtain ⟨h1, h2, h3, h4, h5, h6⟩ := h
    simp only [gapsF, List.mem_append] at hg
    rcases hg with hg | hg
    · simp at hg
      obtain ⟨_, rfl⟩ := hg
      exact Nat.le_refl _
    · have := ih _ h6 g hg
      omega

/-- The state of one who goes through records and gaps. -/
structure PSt (l : List UInt8) (R : List Rc) (G : List (Nat × Nat)) (p k h : Nat) (gp : Bool) : Prop where
  hp : p ≤ l.length
  hk : k ≤ R.length
  hh : h ≤ G.length
  chain : Chain l (R.drop k) p
  gap : G.drop h = gapsF p l.length (R.drop k)
  flag : gp = true → (R.drop k = [] → p = l.length) ∧ ∀ r rs, R.drop k = r :: rs → r.fr = p
theorem PSt.start (l : List UInt8) : PSt l (recs l) (gaps l) 0 0 0 false :=
  ⟨by omega, by omega, by omega, chain_recs l, rfl, by simp⟩
theorem drop_head {α : Type} {L : List α} {k : Nat} {a : α} {as : List α} (h : L.drop k = a :: as) : k < L.length ∧ L[k]? = some a ∧ L.drop (k + 1) = as := by
  have hk : k < L.length := by
    rcases Nat.lt_or_ge k L.length with h' | h'
    · exact h'
    · rw [List.drop_eq_nil_of_le h'] at h; simp at h
  refine ⟨hk, ?_, ?_⟩
  · rw [List.drop_eq_getElem_cons hk] at h
    injection h with h1 h2
    rw [List.getElem?_eq_getElem hk, h1]
  · rw [← List.drop_drop, h]; rfl
theorem PSt.step {l : List UInt8} {R : List Rc} {G : List (Nat × Nat)} {p k h : Nat} {gp : Bool} (s : PSt l R G p k h gp) (hlt : p < l.length) :
    (∃ x, h < G.length ∧ G[h]? = some (p, x) ∧ gp = false ∧ p < x ∧ x ≤ l.length ∧ PSt l R G x k (h + 1) true) ∨
    (∃ r, k < R.length ∧ R[k]? = some r ∧ r.fr = p ∧ p < r.to ∧ r.to ≤ l.length ∧ bodyOk r.bd = true ∧ frameB r.bd = (l.drop p).take (r.to - p) ∧ (∀ g, G[h]? = some g → g.1 ≠ p) ∧ PSt l R G r.to (k + 1) h false) := by
  cases hr : R.drop k with
  | nil =>
    have hg := s.gap
    rw [hr, gapsF, if_pos hlt] at hg
    obtain ⟨a, b, c⟩ := drop_head hg
    refine .inl ⟨l.length, a, b, ?_, hlt, Nat.le_refl _, ?_⟩
    · cases gp with
      | false => rfl
      | true => have := (s.flag rfl).1 hr; omega
    · exact ⟨Nat.le_refl _, s.hk, a, by rw [hr]; exact Nat.le_refl _, by rw [c, hr, gapsF, if_neg (by omega)], fun _ => ⟨fun _ => rfl, fun r rs h => by rw [hr] at h; simp at h⟩⟩
  | cons r rs =>
    have hc := s.chain
    rw [hr] at hc
    obtain ⟨h1, h2, h3, h4, h5, h6⟩ := hc
    have h7 := frameB_len r.bd
    by_cases hf : p < r.fr
    · have hg := s.gap
      rw [hr, gapsF, if_pos hf] at hg
      obtain ⟨a, b, c⟩ := drop_head hg
      refine .inl ⟨r.fr, a, b, ?_, hf, by omega, ?_⟩
      · cases gp with
        | false => rfl
        | true => have := (s.flag rfl).2 r rs hr; omega
      · refine ⟨by omega, s.hk, a, by rw [hr]; exact ⟨Nat.le_refl _, h2, h3, h4, h5, h6⟩, ?_, fun _ => ⟨fun h => by rw [hr] at h; simp at h, fun r' rs' h => by rw [hr] at h; simp at h; rw [← h.1]⟩⟩
        rw [c, hr, gapsF, if_neg (by omega)]; rfl
    · have e : r.fr = p := by omega
      obtain ⟨a, b, c⟩ := drop_head hr
      have hg := s.gap
      rw [hr, gapsF, if_neg hf, List.nil_append] at hg
      refine .inr ⟨r, a, b, e, by omega, h3, h4, ?_, ?_, ?_⟩
      · rw [e] at h5 h2
        rw [h2, show p + (frameB r.bd).length - p = (frameB r.bd).length by omega]
        exact (List.prefix_iff_eq_take.1 h5)
      · intro g hgh
        have hm : g ∈ gapsF r.to l.length rs := by
          rw [← hg]
          rcases Nat.lt_or_ge h G.length with hh | hh
          · rw [List.drop_eq_getElem_cons hh]
            rw [List.getElem?_eq_getElem hh] at hgh
            simp at hgh
            rw [hgh]; exact List.mem_cons_self
          · rw [List.getElem?_eq_none hh] at hgh; simp at hgh
        have := gapsF_from rs r.to h6 g hm
        omega
      · exact ⟨h3, a, s.hh, by rw [c]; exact h6, by rw [c]; exact hg, by simp⟩
theorem PSt.done {l : List UInt8} {R : List Rc} {G : List (Nat × Nat)} {p k h : Nat} {gp : Bool} (s : PSt l R G p k h gp) (hle : l.length ≤ p) : p = l.length ∧ k = R.length ∧ h = G.length := by
  have hp := s.hp
  have e : p = l.length := by omega
  have hr : R.drop k = [] := by
    cases hr : R.drop k with
    | nil => rfl
    | cons r rs =>
      have hc := s.chain
      rw [hr] at hc
      obtain ⟨h1, h2, h3, _⟩ := hc
      have := frameB_len r.bd
      omega
  have hg := s.gap
  rw [hr, gapsF, if_neg (by omega)] at hg
  have a := s.hk
  have b := s.hh
  have c := List.drop_eq_nil_iff.1 hr
  have d := List.drop_eq_nil_iff.1 hg
  exact ⟨e, by omega, by omega⟩
theorem recsF_len (f : Nat) : ∀ (l : List UInt8) (p : Nat), (recsF f l p).length ≤ f := by
  induction f with
  | zero => intro l p; simp [recsF]
  | succ f ih =>
    intro l p
    cases l with
    | nil => simp [recsF]
    | cons c r =>
      simp only [recsF]
      cases hs : stand (c :: r) with
      | none => have := ih r (p + 1); simp only; omega
      | some b =>
        simp only [List.length_cons]
        have := ih ((c :: r).drop (frameB b).length) (p + (frameB b).length)
        omega
theorem recs_len (l : List UInt8) : (recs l).length ≤ l.length := by
  have := recsF_len (l.length - 0) (l.drop 0) 0
  simpa [recs, recsAt] using this
end Go.Proofs.YtfpodnleimhohabGreatDoor
