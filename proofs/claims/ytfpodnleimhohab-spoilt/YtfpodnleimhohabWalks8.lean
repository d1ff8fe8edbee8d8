/-
  WALKS: noise; examples and frames out of raw ones; a shard laid of them.
-/
import Derived.Test.YtfpodnleimhohabWalks7
namespace Go.Proofs.Ytfpodnleimhohab
open Go.RowKit
set_option linter.unusedVariables false

/-- Noise in which no frame begins. -/
def quietL (l : List UInt8) : List UInt8 := (l.take 12).filter fun c => c != 213
theorem quietL_le (l : List UInt8) : (quietL l).length ≤ 12 := by
  unfold quietL
  have := List.length_filter_le (fun c : UInt8 => c != 213) (l.take 12)
  rw [List.length_take] at this
  omega
theorem quietL_213 (l : List UInt8) : ∀ c ∈ quietL l, c ≠ 213 := by
  intro c hc
  unfold quietL at hc
  have := (List.mem_filter.1 hc).2
  simpa using this
theorem ext_one (s : ByteArray) (k : Nat) (h : k < s.size) : s.extract k (k + 1) = bs [s[k]] := by
  apply ls_inj
  rw [ls_cut, ls_bs, drop_getElem s k h, show k + 1 - k = 1 by omega]
  rfl
theorem filt_yes (l : List UInt8) (c : UInt8) (h : c ≠ 213) : (l ++ [c]).filter (fun c => c != 213) = l.filter (fun c => c != 213) ++ [c] := by
  simp [List.filter_append, h]
theorem filt_no (l : List UInt8) : (l ++ [213]).filter (fun c => c != 213) = l.filter (fun c => c != 213) := by
  simp [List.filter_append]

set_option maxRecDepth 4000 in
set_option maxHeartbeats 400000 in
theorem quiet_any (s0 : ByteArray) (hs0 : s0.size ≤ maxLen) (w : World) :
    Calls Try.prog 44 #[.string s0] w fun e w' => e = .returned (.string (bs (quietL (ls s0)))) ∧ w' = w := by
  obtain ⟨s, HS, hs⟩ : ∃ s : ByteArray, Hid (bs ((ls s0).take 12) = s) ∧ s.size ≤ 12 := ⟨_, (rfl : _ = _), by rw [bs_size, List.length_take]; omega⟩
  have HQ : Hid (quietL (ls s0) = ((ls s).take s.size).filter fun c => c != 213) := by
    show quietL (ls s0) = _
    rw [take_all, ← HS.out, ls_bs]; rfl
  go_enter Try.func44, Try.ntmps44
  go_wp2_with fail
  refine (some_any s0 12 hs0 (by omega) _).mono ?_
  rintro e w1 ⟨rfl, hw⟩
  subst hw
  rw [HS.out]
  go_wp2
  go_loop [3, 4] (fun o i => ∃ (k : Nat) (S : ByteArray), k ≤ s.size ∧ i = .int .i64 k ∧ o = .string S ∧ S.size ≤ k ∧ Hid (S = bs (((ls s).take k).filter fun c => c != 213))) (fun _ i => s.size - (intOf i).toNat)
  case atStart => exact ⟨0, ⟨#[]⟩, by omega, rfl, rfl, Nat.le_refl _, (rfl : _ = _)⟩
  case round =>
    obtain ⟨k, S, hk, rfl, rfl, hSz, HF⟩ := hrel
    by_cases hlt : k < s.size
    · have HT : Hid ((ls s).take (k + 1) = (ls s).take k ++ [s[k]]) := take_snoc s k hlt
      have HX : Hid (s.extract k (k + 1) = bs [s[k]]) := ext_one s k hlt
      obtain ⟨c, hc⟩ : ∃ c, s[k] = c := ⟨_, rfl⟩
      rw [hc] at HT HX
      have kz : (bs [c]).size = 1 := bs_size _
      by_cases h213 : c = 213
      · have hb : ((c.toNat : Int) != 213) = false := by rw [h213]; rfl
        go_wp2
        go_round
        case rel => exact ⟨k + 1, S, by omega, by go_num, rfl, by omega, by show S = _; rw [HT.out, h213, filt_no]; exact HF.out⟩
        case measure => simp [intOf]; omega
      · have hb : ((c.toNat : Int) != 213) = true := by
          rw [bne_iff_ne]
          intro h
          exact h213 (by rw [← by8_nat c, h]; rfl)
        go_wp2_with (rw [HX.out])
        go_round
        case rel => exact ⟨k + 1, _, by omega, by go_num, rfl, by rw [ByteArray.size_append, kz]; omega, by show _ = _; rw [HT.out, filt_yes _ _ h213, HF.out, bs_append]⟩
        case measure => simp [intOf]; omega
    · obtain rfl : k = s.size := by omega
      go_wp2
      go_ret
      exact ⟨ret_str (by rw [HF.out, HQ.out]), rfl⟩

/-- The k-th piece of noise. -/
def noiseL (T : Nat → ByteArray) (len k : Nat) : List UInt8 := if k < len then quietL (ls (T k)) else []
theorem noiseL_le (T : Nat → ByteArray) (len k : Nat) : (noiseL T len k).length ≤ 12 := by
  unfold noiseL; split
  · exact quietL_le _
  · simp
theorem noiseL_213 (T : Nat → ByteArray) (len k : Nat) : ∀ c ∈ noiseL T len k, c ≠ 213 := by
  unfold noiseL; split
  · exact quietL_213 _
  · simp

set_option maxHeartbeats 400000 in
theorem noise_any (a : Option Addr) (len cap : Nat) (T : Nat → ByteArray) (k : Nat) (hk : k ≤ 1000) (hlm : len ≤ maxLen) (w : World) (h : IsStrs w a len cap T) :
    Calls Try.prog 25 #[.slice a len cap, .int .i64 k] w fun e w' => e = .returned (.string (bs (noiseL T len k))) ∧ w' = w := by
  unfold maxLen at hlm
  by_cases hlt : k < len
  · rcases h with rfl | ⟨b, off, rfl, hl, hc, hb, h⟩
    · omega
    · unfold maxLen at hc
      obtain ⟨d, hz⟩ := h k hlt
      have HE : Hid (noiseL T len k = quietL (ls (T k))) := if_pos hlt
      clear h
      go_enter Try.func25, Try.ntmps25
      go_wp2_with fail
      refine (quiet_any (T k) hz _).mono ?_
      rintro e w1 ⟨rfl, hw⟩
      subst hw
      go_wp2
      go_ret
      exact ⟨ret_str (by rw [HE.out]), rfl⟩
  · have HE : Hid (noiseL T len k = []) := if_neg hlt
    clear h
    go_enter Try.func25, Try.ntmps25
    go_wp2
    go_ret
    exact ⟨ret_str (by rw [HE.out]; rfl), rfl⟩
end Go.Proofs.Ytfpodnleimhohab
