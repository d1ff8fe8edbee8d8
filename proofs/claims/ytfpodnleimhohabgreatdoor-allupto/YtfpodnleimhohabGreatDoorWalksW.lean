/-
  WALKS: the document's runes of a text.
-/
import Derived.Test.YtfpodnleimhohabGreatDoorGen
import Derived.Test.YtfpodnleimhohabGreatDoorWalksV
namespace Go.Proofs.YtfpodnleimhohabGreatDoor
open Go.RowKit
set_option linter.unusedVariables false

set_option maxRecDepth 100000 in
set_option maxHeartbeats 1000000 in
theorem runes_any (s : ByteArray) (hs : s.size ≤ 600) (w : World) (hL : LowAt w) :
    Calls Tryz.prog 70 #[.string s] w fun e w' => ∃ v, e = .returned v ∧ w'.ownsRow w.heap.size 3 1 v (runesN (ls s)).length (intCells (runesN (ls s))) ∧ Below w.heap.size w w' := by
  obtain ⟨i0, hi, hz0, hz1, hz2⟩ := info_parts info_int
  have HL : Hid (LowAt w) := hL
  have HLen : Hid ((runesN (ls s)).length ≤ 600) := by have := runesN_len (ls s); rw [ls_length] at this; show _ ≤ _; omega
  obtain ⟨X, HX⟩ : ∃ X, Hid (runesN (ls s) = X) := ⟨_, (rfl : _ = _)⟩
  rw [HX.out] at HLen ⊢
  clear hL
  go_enter Tryz.func70, Tryz.ntmps70
  go_wp2
  go_loopw [0, 3] (fun sv v wr => ∃ (t : ByteArray) (D : List Nat), sv = .string t ∧ t.size ≤ 600 ∧ D.length ≤ 600 ∧ Hid (D ++ runesN (ls t) = X) ∧ wr.ownsRow w.heap.size 3 1 v D.length (intCells D) ∧ Below w.heap.size w wr) (fun sv _ _ => match sv with | .string t => t.size | _ => 0)
  case atStart => exact ⟨s, [], rfl, hs, by simp, HX, World.ownsRow_nil _ _ _ _, Below.refl _ _⟩
  case round =>
    obtain ⟨t, D, rfl, ht, hD, HD, hown, hbel⟩ := hrel
    by_cases h0 : 0 < t.size
    · have hne : ls t ≠ [] := by intro e; have := ls_length t; rw [e] at this; simp at this; omega
      obtain ⟨a1, a2, a3⟩ := firstR_le (ls t) hne
      rw [ls_length] at a3
      have HN : Hid ((D ++ [(firstR (ls t)).1]) ++ runesN ((ls t).drop (firstR (ls t)).2) = X) := by
        show _ = _
        rw [← HD.out, runesN_cons (ls t) hne, List.append_assoc]; rfl
      have HDl : Hid (D.length + 1 ≤ 600) := by
        show _ ≤ _
        have := congrArg List.length HN.out
        rw [List.length_append, List.length_append, List.length_singleton] at this
        have := HLen.out
        omega
      have hr := firstR_lt (ls t)
      obtain ⟨r, HF1⟩ : ∃ r, Hid ((firstR (ls t)).1 = r) := ⟨_, (rfl : _ = _)⟩
      obtain ⟨n, HF2⟩ : ∃ n, Hid ((firstR (ls t)).2 = n) := ⟨_, (rfl : _ = _)⟩
      rw [HF1.out] at HN hr
      rw [HF2.out] at HN a1 a2 a3
      go_wp2_with fail
      refine (refFirst_any t h0 (by unfold maxLen; omega) _ (HL.out.later hbel)).mono ?_
      rintro e w1 ⟨rfl, hw⟩
      have hw' := hw.symm
      clear hw
      subst hw'
      rw [HF1.out, HF2.out]
      have hzs := hbel.size
      have HT : Hid (ls (t.extract n t.size) = (ls t).drop n) := by show _ = _; rw [ls_cut, List.take_of_length_le (by rw [List.length_drop, ls_length]; omega)]
      have hTz : (t.extract n t.size).size = t.size - n := by rw [← ls_length, HT.out, List.length_drop, ls_length]
      have hDl := HDl.out
      go_wp2_with (at_builtin; refine wpList_append_own _ rfl (.tmp 14) (.tmp 16) 73 rfl w.heap.size 3 i0 (.int .i64 0) 1 8 Tryz.underlying73 hi hz0 hz1 hz2 rfl (by decide) _ _ _ rfl (hown.alloc _) ⟨wr.heap.size, 0, none⟩ 1 1 [.int .i64 r] rfl rfl (news_at _ _ rfl _ _ _ rfl) (oneCell_nums _ rfl) (by unfold maxLen; omega) (by omega) (by simp; omega) ?_; intro v' w3 ho3 hgr hxx; clear hxx)
      go_roundw
      case rel =>
        refine ⟨t.extract n t.size, D ++ [r], rfl, by omega, by simpa using hDl, ?_, ?_, (hbel.alloc hzs _).grown hgr (by simp; omega) (fun j hj => (hown.lt j hj).1)⟩
        · show _ = _
          rw [HT.out]; exact HN.out
        · rw [intCells_snoc, List.length_append]; exact ho3
      case measure => show (t.extract n t.size).size < t.size; omega
    · obtain rfl : D = X := by
        have : ls t = [] := by apply List.eq_nil_of_length_eq_zero; rw [ls_length]; omega
        rw [← HD.out, this]; simp [runesN, runesF]
      go_wp2
      go_ret
      exact ⟨_, rfl, hown, hbel⟩
end Go.Proofs.YtfpodnleimhohabGreatDoor
