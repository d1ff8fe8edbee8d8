/-
  WALKS: the document's runes: first, runes.
-/
import Derived.Test.YtfpodnleimhohabGreatDoorGen
import Derived.Test.YtfpodnleimhohabGreatDoorWalksU
import Derived.Test.YtfpodnleimhohabGreatDoorMath
namespace Go.Proofs.YtfpodnleimhohabGreatDoor
open Go.RowKit
set_option linter.unusedVariables false

set_option maxRecDepth 100000 in
set_option maxHeartbeats 4000000 in
theorem refFirst_any (s : ByteArray) (hs0 : 0 < s.size) (hs : s.size ≤ maxLen) (w : World) (hL : LowAt w) :
    Calls Tryz.prog 87 #[.string s] w fun e w' => e = .returned (.tuple #[.int .i64 ((firstR (ls s)).1 : Nat), .int .i64 ((firstR (ls s)).2 : Nat)]) ∧ w' = w := by
  unfold maxLen at hs
  have HL : Hid _ := hL
  obtain ⟨c, hc, HD⟩ : ∃ c, s[0] = c ∧ Hid (ls s = c :: (ls s).drop 1) := ⟨s[0], rfl, drop_getElemV s 0 hs0⟩
  have hc256 := c.toNat_lt
  by_cases h128 : c.toNat < 128
  · have HF : Hid (firstR (ls s) = (c.toNat, 1)) := by
      show _ = _
      rw [HD.out]; simp only [firstR]; rw [if_pos h128]
    rw [HF.out]
    go_enter Tryz.func87, Tryz.ntmps87
    go_wp2
    go_ret2
    exact ⟨rfl, rfl⟩
  · rcases head_cases c.toNat (by omega) with ⟨h1, h2, h3⟩ | ⟨h1, h2, h3⟩ | ⟨h1, h2, h3⟩ | ⟨h1, h2⟩
    · obtain ⟨r0, hr0⟩ : ∃ r0 : Nat, r0 + 192 = c.toNat := ⟨c.toNat - 192, by omega⟩
      rw [show c.toNat - 192 = r0 by omega] at h1
      have hsl : (c.toNat : Int) - 192 = (r0 : Int) := by omega
      by_cases hlen : s.size < 2
      · have HF : Hid _ := firstR_short HD.out h128 h1 hlen
        rw [HF.out]
        clear h1
        go_enter Tryz.func87, Tryz.ntmps87
        go_wp2
        go_ret2
        exact ⟨rfl, rfl⟩
      · obtain ⟨res, Hres⟩ : ∃ res, Hid (contF 1 ((ls s).drop 1) r0 = res) := ⟨_, (rfl : _ = _)⟩
        have HF : Hid _ := firstR_of HD.out h128 h1 (by decide) hlen Hres.out
        rw [HF.out]
        clear h1 HF
        have hlow : w.cell? ⟨0, 2, none⟩ = some (.int .i64 128) := HL.out 2 (by decide)
        have hr32 : r0 < 32 := by omega
        go_enter Tryz.func87, Tryz.ntmps87
        go_wp2_with fail
        generalize decide ((c.toNat : Int) < 128) = q0
        generalize decide ((c.toNat : Int) < 224) = q1
        generalize decide ((c.toNat : Int) < 240) = q2
        generalize decide ((c.toNat : Int) < 248) = q3
        generalize decide ((192 : Int) ≤ (c.toNat : Int)) = q4
        generalize decide ((224 : Int) ≤ (c.toNat : Int)) = q5
        generalize decide ((240 : Int) ≤ (c.toNat : Int)) = q6
        generalize decide ((s.size : Int) < 2) = q7
        generalize decide (s.size < 2) = q8
        go_loopg [6, 7] 1 (fun g rv iv wr => ∃ R k : Nat, k + g = 2 ∧ 1 ≤ k ∧ rv = .int .i64 R ∧ iv = .int .i64 k ∧ ((k = 1 ∧ R < 32) ∨ (k = 2 ∧ R < 2048) ∨ (k = 3 ∧ R < 131072) ∨ (k = 4 ∧ R < 8388608)) ∧ Hid (contF g ((ls s).drop k) R = res) ∧ wr = w)
        case atStart => exact ⟨r0, 1, by omega, by omega, rfl, rfl, .inl ⟨rfl, hr32⟩, Hres, rfl⟩
        case round =>
          obtain ⟨R, k, hkg, hk1, rfl, rfl, hRb, HR, rfl⟩ := hrel
          by_cases hkn : k < 2
          · obtain ⟨g, rfl⟩ : ∃ g, gk = g + 1 := ⟨gk - 1, by omega⟩
            obtain ⟨d, hd, HDk⟩ : ∃ d, s[k]'(by omega) = d ∧ Hid ((ls s).drop k = d :: (ls s).drop (k + 1)) := ⟨s[k]'(by omega), rfl, drop_getElemV s k (by omega)⟩
            have hd256 := d.toNat_lt
            by_cases hbad : d.toNat < 128 ∨ 192 ≤ d.toNat
            · have hres := contF_bad HR.out HDk.out hbad
              subst hres
              have HE : Hid (firstE 2 none = (65533, 1)) := rfl
              rcases hbad with hbad | hbad
              · go_wp2
                rw [HE.out]
                go_ret2
                exact ⟨rfl, rfl⟩
              · go_wp2
                rw [HE.out]
                go_ret2
                exact ⟨rfl, rfl⟩
            · have HN : Hid _ := contF_ok HR.out HDk.out hbad
              go_wp2
              go_roundg g
              case measure => omega
              case rel => exact ⟨64 * R + d.toNat - 128, k + 1, by omega, by omega, by go_num, by go_num, by omega, HN, rfl⟩
          · obtain rfl : k = 2 := by omega
            obtain rfl : gk = 0 := by omega
            have hres : res = some R := HR.out.symm
            subst hres
            by_cases hb : R < 128 ∨ 1114111 < R ∨ (55296 ≤ R ∧ R ≤ 57343)
            · have HE : Hid (firstE 2 (some R) = (65533, 1)) := if_pos hb
              clear HR Hres
              go_wp2
              all_goals rw [HE.out]
              all_goals go_ret2
              all_goals exact ⟨rfl, rfl⟩
            · have HE : Hid (firstE 2 (some R) = (R, 2)) := if_neg hb
              clear HR Hres
              go_wp2
              all_goals rw [HE.out]
              all_goals go_ret2
              all_goals exact ⟨rfl, rfl⟩
    · obtain ⟨r0, hr0⟩ : ∃ r0 : Nat, r0 + 224 = c.toNat := ⟨c.toNat - 224, by omega⟩
      rw [show c.toNat - 224 = r0 by omega] at h1
      have hsl : (c.toNat : Int) - 224 = (r0 : Int) := by omega
      by_cases hlen : s.size < 3
      · have HF : Hid _ := firstR_short HD.out h128 h1 hlen
        rw [HF.out]
        clear h1
        go_enter Tryz.func87, Tryz.ntmps87
        go_wp2
        go_ret2
        exact ⟨rfl, rfl⟩
      · obtain ⟨res, Hres⟩ : ∃ res, Hid (contF 2 ((ls s).drop 1) r0 = res) := ⟨_, (rfl : _ = _)⟩
        have HF : Hid _ := firstR_of HD.out h128 h1 (by decide) hlen Hres.out
        rw [HF.out]
        clear h1 HF
        have hlow : w.cell? ⟨0, 3, none⟩ = some (.int .i64 2048) := HL.out 3 (by decide)
        have hr32 : r0 < 32 := by omega
        go_enter Tryz.func87, Tryz.ntmps87
        go_wp2_with fail
        generalize decide ((c.toNat : Int) < 128) = q0
        generalize decide ((c.toNat : Int) < 224) = q1
        generalize decide ((c.toNat : Int) < 240) = q2
        generalize decide ((c.toNat : Int) < 248) = q3
        generalize decide ((192 : Int) ≤ (c.toNat : Int)) = q4
        generalize decide ((224 : Int) ≤ (c.toNat : Int)) = q5
        generalize decide ((240 : Int) ≤ (c.toNat : Int)) = q6
        generalize decide ((s.size : Int) < 3) = q7
        generalize decide (s.size < 3) = q8
        go_loopg [6, 7] 2 (fun g rv iv wr => ∃ R k : Nat, k + g = 3 ∧ 1 ≤ k ∧ rv = .int .i64 R ∧ iv = .int .i64 k ∧ ((k = 1 ∧ R < 32) ∨ (k = 2 ∧ R < 2048) ∨ (k = 3 ∧ R < 131072) ∨ (k = 4 ∧ R < 8388608)) ∧ Hid (contF g ((ls s).drop k) R = res) ∧ wr = w)
        case atStart => exact ⟨r0, 1, by omega, by omega, rfl, rfl, .inl ⟨rfl, hr32⟩, Hres, rfl⟩
        case round =>
          obtain ⟨R, k, hkg, hk1, rfl, rfl, hRb, HR, rfl⟩ := hrel
          by_cases hkn : k < 3
          · obtain ⟨g, rfl⟩ : ∃ g, gk = g + 1 := ⟨gk - 1, by omega⟩
            obtain ⟨d, hd, HDk⟩ : ∃ d, s[k]'(by omega) = d ∧ Hid ((ls s).drop k = d :: (ls s).drop (k + 1)) := ⟨s[k]'(by omega), rfl, drop_getElemV s k (by omega)⟩
            have hd256 := d.toNat_lt
            by_cases hbad : d.toNat < 128 ∨ 192 ≤ d.toNat
            · have hres := contF_bad HR.out HDk.out hbad
              subst hres
              have HE : Hid (firstE 3 none = (65533, 1)) := rfl
              rcases hbad with hbad | hbad
              · go_wp2
                rw [HE.out]
                go_ret2
                exact ⟨rfl, rfl⟩
              · go_wp2
                rw [HE.out]
                go_ret2
                exact ⟨rfl, rfl⟩
            · have HN : Hid _ := contF_ok HR.out HDk.out hbad
              go_wp2
              go_roundg g
              case measure => omega
              case rel => exact ⟨64 * R + d.toNat - 128, k + 1, by omega, by omega, by go_num, by go_num, by omega, HN, rfl⟩
          · obtain rfl : k = 3 := by omega
            obtain rfl : gk = 0 := by omega
            have hres : res = some R := HR.out.symm
            subst hres
            by_cases hb : R < 2048 ∨ 1114111 < R ∨ (55296 ≤ R ∧ R ≤ 57343)
            · have HE : Hid (firstE 3 (some R) = (65533, 1)) := if_pos hb
              clear HR Hres
              go_wp2
              all_goals rw [HE.out]
              all_goals go_ret2
              all_goals exact ⟨rfl, rfl⟩
            · have HE : Hid (firstE 3 (some R) = (R, 3)) := if_neg hb
              clear HR Hres
              go_wp2
              all_goals rw [HE.out]
              all_goals go_ret2
              all_goals exact ⟨rfl, rfl⟩
    · obtain ⟨r0, hr0⟩ : ∃ r0 : Nat, r0 + 240 = c.toNat := ⟨c.toNat - 240, by omega⟩
      rw [show c.toNat - 240 = r0 by omega] at h1
      have hsl : (c.toNat : Int) - 240 = (r0 : Int) := by omega
      by_cases hlen : s.size < 4
      · have HF : Hid _ := firstR_short HD.out h128 h1 hlen
        rw [HF.out]
        clear h1
        go_enter Tryz.func87, Tryz.ntmps87
        go_wp2
        go_ret2
        exact ⟨rfl, rfl⟩
      · obtain ⟨res, Hres⟩ : ∃ res, Hid (contF 3 ((ls s).drop 1) r0 = res) := ⟨_, (rfl : _ = _)⟩
        have HF : Hid _ := firstR_of HD.out h128 h1 (by decide) hlen Hres.out
        rw [HF.out]
        clear h1 HF
        have hlow : w.cell? ⟨0, 4, none⟩ = some (.int .i64 65536) := HL.out 4 (by decide)
        have hr32 : r0 < 32 := by omega
        go_enter Tryz.func87, Tryz.ntmps87
        go_wp2_with fail
        generalize decide ((c.toNat : Int) < 128) = q0
        generalize decide ((c.toNat : Int) < 224) = q1
        generalize decide ((c.toNat : Int) < 240) = q2
        generalize decide ((c.toNat : Int) < 248) = q3
        generalize decide ((192 : Int) ≤ (c.toNat : Int)) = q4
        generalize decide ((224 : Int) ≤ (c.toNat : Int)) = q5
        generalize decide ((240 : Int) ≤ (c.toNat : Int)) = q6
        generalize decide ((s.size : Int) < 4) = q7
        generalize decide (s.size < 4) = q8
        go_loopg [6, 7] 3 (fun g rv iv wr => ∃ R k : Nat, k + g = 4 ∧ 1 ≤ k ∧ rv = .int .i64 R ∧ iv = .int .i64 k ∧ ((k = 1 ∧ R < 32) ∨ (k = 2 ∧ R < 2048) ∨ (k = 3 ∧ R < 131072) ∨ (k = 4 ∧ R < 8388608)) ∧ Hid (contF g ((ls s).drop k) R = res) ∧ wr = w)
        case atStart => exact ⟨r0, 1, by omega, by omega, rfl, rfl, .inl ⟨rfl, hr32⟩, Hres, rfl⟩
        case round =>
          obtain ⟨R, k, hkg, hk1, rfl, rfl, hRb, HR, rfl⟩ := hrel
          by_cases hkn : k < 4
          · obtain ⟨g, rfl⟩ : ∃ g, gk = g + 1 := ⟨gk - 1, by omega⟩
            obtain ⟨d, hd, HDk⟩ : ∃ d, s[k]'(by omega) = d ∧ Hid ((ls s).drop k = d :: (ls s).drop (k + 1)) := ⟨s[k]'(by omega), rfl, drop_getElemV s k (by omega)⟩
            have hd256 := d.toNat_lt
            by_cases hbad : d.toNat < 128 ∨ 192 ≤ d.toNat
            · have hres := contF_bad HR.out HDk.out hbad
              subst hres
              have HE : Hid (firstE 4 none = (65533, 1)) := rfl
              rcases hbad with hbad | hbad
              · go_wp2
                rw [HE.out]
                go_ret2
                exact ⟨rfl, rfl⟩
              · go_wp2
                rw [HE.out]
                go_ret2
                exact ⟨rfl, rfl⟩
            · have HN : Hid _ := contF_ok HR.out HDk.out hbad
              go_wp2
              go_roundg g
              case measure => omega
              case rel => exact ⟨64 * R + d.toNat - 128, k + 1, by omega, by omega, by go_num, by go_num, by omega, HN, rfl⟩
          · obtain rfl : k = 4 := by omega
            obtain rfl : gk = 0 := by omega
            have hres : res = some R := HR.out.symm
            subst hres
            by_cases hb : R < 65536 ∨ 1114111 < R ∨ (55296 ≤ R ∧ R ≤ 57343)
            · have HE : Hid (firstE 4 (some R) = (65533, 1)) := if_pos hb
              clear HR Hres
              go_wp2
              all_goals rw [HE.out]
              all_goals go_ret2
              all_goals exact ⟨rfl, rfl⟩
            · have HE : Hid (firstE 4 (some R) = (R, 4)) := if_neg hb
              clear HR Hres
              go_wp2
              all_goals rw [HE.out]
              all_goals go_ret2
              all_goals exact ⟨rfl, rfl⟩
    · have HF : Hid (firstR (ls s) = (65533, 1)) := by
        show _ = _
        rw [HD.out]; simp only [firstR]; rw [if_neg h128, h1, if_pos (.inl rfl)]
      rw [HF.out]
      clear h1
      go_enter Tryz.func87, Tryz.ntmps87
      rcases h2 with h2 | h2
      · go_wp2
        go_ret2
        exact ⟨rfl, rfl⟩
      · go_wp2
        go_ret2
        exact ⟨rfl, rfl⟩
end Go.Proofs.YtfpodnleimhohabGreatDoor
