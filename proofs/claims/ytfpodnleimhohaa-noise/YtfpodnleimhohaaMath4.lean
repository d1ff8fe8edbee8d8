/-
  PLAIN MATHEMATICS: the records and gaps of a shard that was laid of noise and frames.
-/
import Derived.Test.YtfpodnleimhohaaMath3
import Derived.Test.YtfpodnleimhohaaWalks10
namespace Go.Proofs.Ytfpodnleimhohaa
open Go.RowKit

def layRecs (N : Nat → List UInt8) : Nat → Nat → List (List UInt8) → List Rc
  | _, _, [] => []
  | i, p, b :: bs => ⟨p + (N i).length, p + (N i).length + (frameB b).length, b⟩ :: layRecs N (i + 1) (p + (N i).length + (frameB b).length) bs
theorem recsAt_skip (L : List UInt8) : ∀ (n : List UInt8) (p : Nat) (rest : List UInt8), (∀ c ∈ n, c ≠ 213) → p ≤ L.length → L.drop p = n ++ rest → p + n.length ≤ L.length ∧ recsAt L p = recsAt L (p + n.length) ∧ L.drop (p + n.length) = rest := by
  intro n
  induction n with
  | nil => intro p rest _ hp h; exact ⟨hp, rfl, by simpa using h⟩
  | cons c n ih =>
    intro p rest hn hp h
    obtain ⟨hlt, _, hd⟩ := drop_head (show L.drop p = c :: (n ++ rest) from h)
    have hs : stand (L.drop p) = none := by
      rw [h]; exact stand_213 (hn c List.mem_cons_self)
    obtain ⟨e1, e2, e3⟩ := ih (p + 1) rest (fun d hd => hn d (List.mem_cons_of_mem _ hd)) hlt hd
    have e : p + 1 + n.length = p + (c :: n).length := by simp; omega
    rw [e] at e1 e2 e3
    exact ⟨e1, by rw [recsAt_none hlt hs]; exact e2, e3⟩
theorem recsAt_lay (L : List UInt8) (N : Nat → List UInt8) (hN : ∀ i, ∀ c ∈ N i, c ≠ 213) : ∀ (bs : List (List UInt8)) (i p : Nat), (∀ b ∈ bs, bodyOk b = true) → p ≤ L.length → L.drop p = layFrom N i (bs.map frameB) → recsAt L p = layRecs N i p bs := by
  intro bs
  induction bs with
  | nil =>
    intro i p _ hp h
    obtain ⟨e1, e2, e3⟩ := recsAt_skip L (N i) p [] (hN i) hp (by rw [h]; simp [layFrom])
    rw [e2]
    have : p + (N i).length = L.length := by
      have := List.drop_eq_nil_iff.1 e3; omega
    rw [this, recsAt_end]; rfl
  | cons b bs ih =>
    intro i p hb hp h
    obtain ⟨e1, e2, e3⟩ := recsAt_skip L (N i) p (frameB b ++ layFrom N (i + 1) (bs.map frameB)) (hN i) hp (by rw [h]; rfl)
    rw [e2]
    have hs : stand (L.drop (p + (N i).length)) = some b := (stand_iff _ _).2 ⟨hb b List.mem_cons_self, by rw [e3]; exact List.prefix_append _ _⟩
    obtain ⟨h1, h2⟩ := recsAt_some hs
    have h3 : L.drop (p + (N i).length + (frameB b).length) = layFrom N (i + 1) (bs.map frameB) := by
      rw [← List.drop_drop, e3, List.drop_left]
    rw [h2]
    show _ = _ :: layRecs N (i + 1) _ bs
    clear h2 hs e2
    generalize p + (N i).length + (frameB b).length = q at *
    rw [ih (i + 1) q (fun d hd => hb d (List.mem_cons_of_mem _ hd)) h1 h3]

/-- The state of one who goes through what was laid. -/
structure FSt (L : List UInt8) (N : Nat → List UInt8) (bs : List (List UInt8)) (R : List Rc) (G : List (Nat × Nat)) (P K I : Nat) : Prop where
  hP : P ≤ L.length
  hI : I ≤ bs.length
  hlay : L.drop P = layFrom N I ((bs.drop I).map frameB)
  hrec : R.drop I = layRecs N I P (bs.drop I)
  hgap : G.drop K = gapsF P L.length (R.drop I)
  hK : K ≤ G.length
theorem FSt.start (N : Nat → List UInt8) (bs : List (List UInt8)) (L : List UInt8) (hL : L = layFrom N 0 (bs.map frameB)) (hN : ∀ i, ∀ c ∈ N i, c ≠ 213) (hb : ∀ b ∈ bs, bodyOk b = true) :
    FSt L N bs (recs L) (gaps L) 0 0 0 :=
  ⟨by omega, by omega, by simpa using hL, recsAt_lay L N hN bs 0 0 hb (by omega) (by simpa using hL), rfl, by omega⟩
theorem layRecs_length (N : Nat → List UInt8) : ∀ (bs : List (List UInt8)) (i p : Nat), (layRecs N i p bs).length = bs.length := by
  intro bs
  induction bs with
  | nil => intro i p; rfl
  | cons b bs ih =>
    intro i p
    show (layRecs N (i + 1) _ bs).length + 1 = bs.length + 1
    rw [ih]
theorem FSt.step {L : List UInt8} {N : Nat → List UInt8} {bs : List (List UInt8)} {R : List Rc} {G : List (Nat × Nat)} {P K I : Nat} (s : FSt L N bs R G P K I) :
    ∃ K', (0 < (N I).length → K < G.length ∧ G[K]? = some (P, P + (N I).length) ∧ K' = K + 1) ∧ (¬ 0 < (N I).length → K' = K) ∧ K' ≤ G.length ∧ P + (N I).length ≤ L.length ∧
      (∀ b, bs[I]? = some b → I < R.length ∧ R[I]? = some ⟨P + (N I).length, P + (N I).length + (frameB b).length, b⟩ ∧ FSt L N bs R G (P + (N I).length + (frameB b).length) K' (I + 1)) ∧
      (I = bs.length → K' = G.length) := by
  have hP := s.hP
  cases hb : bs.drop I with
  | nil =>
    have hI : I = bs.length := by have := List.drop_eq_nil_iff.1 hb; have := s.hI; omega
    have hr := s.hrec
    rw [hb] at hr
    have hl := s.hlay
    rw [hb] at hl
    have hlen : L.length = P + (N I).length := by
      have := congrArg List.length hl
      simp [layFrom] at this
      omega
    have hg := s.hgap
    rw [hr] at hg
    have hnone : ∀ b, bs[I]? ≠ some b := by
      intro b h
      rw [List.getElem?_eq_none (by omega)] at h
      simp at h
    by_cases hn : 0 < (N I).length
    · have hg2 : G.drop K = (P, P + (N I).length) :: [] := by
        rw [hg, ← hlen]
        show gapsF P L.length [] = _
        simp [gapsF]; omega
      obtain ⟨h1, h2, h3⟩ := drop_head hg2
      have h4 := List.drop_eq_nil_iff.1 h3
      exact ⟨K + 1, fun _ => ⟨h1, h2, rfl⟩, fun h => absurd hn h, h1, by omega, fun b h => absurd h (hnone b), fun _ => by omega⟩
    · have hg2 : G.drop K = [] := by
        rw [hg]
        show gapsF P L.length [] = _
        simp [gapsF]; omega
      have h4 := List.drop_eq_nil_iff.1 hg2
      have := s.hK
      exact ⟨K, fun h => absurd h hn, fun _ => rfl, s.hK, by omega, fun b h => absurd h (hnone b), fun _ => by omega⟩
  | cons b bs' =>
    obtain ⟨hI, hbI, hd⟩ := drop_head hb
    have hr := s.hrec
    rw [hb] at hr
    have hr' : R.drop I = ⟨P + (N I).length, P + (N I).length + (frameB b).length, b⟩ :: layRecs N (I + 1) (P + (N I).length + (frameB b).length) bs' := hr
    obtain ⟨r1, r2, r3⟩ := drop_head hr'
    have hl := s.hlay
    rw [hb] at hl
    have hl' : L.drop P = N I ++ (frameB b ++ layFrom N (I + 1) (bs'.map frameB)) := hl
    have hle : P + (N I).length + (frameB b).length ≤ L.length := by
      have := congrArg List.length hl'
      simp at this
      have h6 := frameB_len b
      generalize (frameB b).length = z at *
      omega
    have hl2 : L.drop (P + (N I).length + (frameB b).length) = layFrom N (I + 1) (bs'.map frameB) := by
      rw [← List.drop_drop, ← List.drop_drop, hl', List.drop_left, List.drop_left]
    have hg := s.hgap
    rw [hr'] at hg
    have nxt : ∀ K', K' ≤ G.length → G.drop K' = gapsF (P + (N I).length + (frameB b).length) L.length (layRecs N (I + 1) (P + (N I).length + (frameB b).length) bs') → FSt L N bs R G (P + (N I).length + (frameB b).length) K' (I + 1) := by
      intro K' h1 h2
      exact ⟨hle, hI, by rw [hd]; exact hl2, by rw [hd]; exact r3, by rw [r3]; exact h2, h1⟩
    have uniq : ∀ b', bs[I]? = some b' → b' = b := by
      intro b' h; rw [hbI] at h; simpa using h.symm
    by_cases hn : 0 < (N I).length
    · rw [gapsF, if_pos (show P < P + (N I).length by omega)] at hg
      obtain ⟨h1, h2, h3⟩ := drop_head (show G.drop K = (P, P + (N I).length) :: _ from hg)
      refine ⟨K + 1, fun _ => ⟨h1, h2, rfl⟩, fun h => absurd hn h, h1, by clear nxt hl2 hl' hl hr hr' r2 r3; generalize (frameB b).length = z at *; omega, fun b' h => ?_, fun h => by omega⟩
      rw [uniq b' h]
      exact ⟨r1, r2, nxt (K + 1) h1 h3⟩
    · rw [gapsF, if_neg (show ¬ P < P + (N I).length by omega), List.nil_append] at hg
      refine ⟨K, fun h => absurd h hn, fun _ => rfl, s.hK, by clear nxt hl2 hl' hl hr hr' r2 r3; generalize (frameB b).length = z at *; omega, fun b' h => ?_, fun h => by omega⟩
      rw [uniq b' h]
      exact ⟨r1, r2, nxt K s.hK hg⟩
theorem FSt.rlen {L : List UInt8} {N : Nat → List UInt8} {bs : List (List UInt8)} {R : List Rc} {G : List (Nat × Nat)} (s : FSt L N bs R G 0 0 0) : R.length = bs.length := by
  have := congrArg List.length s.hrec
  rw [layRecs_length] at this
  simpa using this
end Go.Proofs.Ytfpodnleimhohaa
