/-
  WALKS: the program's varint; Frame on both sides.
-/
import Derived.Test.YtfpodnleimhohabGreatDoorWalks2
namespace Go.Proofs.YtfpodnleimhohabGreatDoor
open Go.RowKit
set_option linter.unusedVariables false

theorem info_byte : (Tryz.prog.info? 5).map (fun i => (i.zero, i.size, i.bytes)) = some (some (.int .u8 0), 1, 1) := by kernel_rfl

/-- A row of bytes that the call owns, as a string. -/
theorem owned_conv {w : World} {base n : Nat} {v : Value} {xs : List Int} (h : w.ownsRow base 5 1 v n (xs.map (Value.int .u8))) (hn : n ≠ 0) :
    ∃ g cap, v = .slice (some ⟨g, 0, none⟩) n cap ∧ (convert 107 9 (.slice (some ⟨g, 0, none⟩) n cap)).run Tryz.prog w = .ok (.string (bs (xs.map by8))) w := by
  have hl := h.1
  rcases h.2 with ⟨_, h0⟩ | ⟨g, cap, cur, rfl, hb, hh, hnc, hcm, hcs, ht⟩
  · exact absurd h0 hn
  · refine ⟨g, cap, rfl, ?_⟩
    refine (run_convert_bytes_arg (P := Tryz.prog) w 107 5 Tryz.underlying107 Tryz.underlying5 g 0 n cap xs (by simpa using hl) ?_ 9 Tryz.underlying9)
    intro i hi
    have hc := h.cellAt i (by omega)
    rw [Nat.zero_add, hc]
    simp at hl
    rw [List.getElem?_map, List.getElem?_eq_getElem (by omega), List.getD, List.getElem?_eq_getElem (by omega)]
    rfl

set_option maxHeartbeats 1000000 in
theorem Varint_any (a : Int) (h0 : 0 ≤ a) (h1 : a ≤ 18446744073709551615) (w : World) :
    Calls Tryz.prog 92 #[.int .u64 a] w fun e w' => e = .returned (.string (bs (var a))) ∧ Below w.heap.size w w' := by
  obtain ⟨i0, hi, hz0, hz1, hz2⟩ := info_parts info_byte
  have hbig : Hid (a < 128 ^ (9 + 1)) := by
    have : (128 : Int) ^ (9 + 1) = 1180591620717411303424 := by decide
    show a < _
    omega
  go_enter Tryz.func92, Tryz.ntmps92
  go_wp2
  go_loopw [0, 3] (fun n v wr => ∃ (q : Int) (pre : List Int), n = .int .u64 q ∧ 0 ≤ q ∧ q ≤ 18446744073709551615 ∧ wr.ownsRow w.heap.size 5 1 v pre.length (pre.map (Value.int .u8)) ∧ pre.length ≤ 9 ∧ Hid (∃ f, f + pre.length = 9 ∧ q < 128 ^ (f + 1) ∧ pre.map by8 ++ varF f q = var a) ∧ Below w.heap.size w wr) (fun n _ _ => (intOf n).toNat)
  case atStart => exact ⟨a, [], rfl, h0, h1, World.ownsRow_nil _ _ _ _, by simp, ⟨9, rfl, hbig.out, rfl⟩, Below.refl _ _⟩
  case round =>
    obtain ⟨q, pre, rfl, hq0, hq1, hown, hpl, HF, hbel⟩ := hrel
    by_cases hs : 128 ≤ q
    · have hx0 : 0 ≤ q % 128 + 128 := by omega
      go_wp2_with (at_builtin; refine wpList_append_own _ rfl (.tmp 6) (.tmp 11) 107 rfl w.heap.size 5 i0 (.int .u8 0) 1 1 Tryz.underlying107 hi hz0 hz1 hz2 rfl (by decide) _ _ _ rfl (hown.alloc _) ⟨wr.heap.size, 0, none⟩ 1 1 [.int .u8 (q % 128 + 128)] rfl rfl (cell_one_new _ _ _) (ints_oneCell .u8 [q % 128 + 128]) (by unfold maxLen; omega) (by omega) (by have := hbel.size; simp; omega) ?_; intro v' w1 hown' hgrow _)
      go_roundw
      case rel =>
        obtain ⟨f, hf, hlt, he⟩ := HF.out
        obtain ⟨f', rfl, hlt', hv⟩ := var_step f q hlt (by omega)
        refine ⟨q / 128, pre ++ [q % 128 + 128], rfl, by omega, by omega, ?_, by simp; omega, ⟨f', by simp; omega, hlt', ?_⟩, ?_⟩
        · simpa using hown'
        · rw [← he, hv]; simp
        · exact (hbel.alloc hbel.size _).grown hgrow (by have := hbel.size; simp; omega) (fun k hk => (hown.lt k hk).1)
      case measure => simp [intOf]; omega
    · go_wp2_with (at_builtin; refine wpList_append_own _ rfl (.tmp 15) (.tmp 18) 107 rfl w.heap.size 5 i0 (.int .u8 0) 1 1 Tryz.underlying107 hi hz0 hz1 hz2 rfl (by decide) _ _ _ rfl (hown.alloc _) ⟨wr.heap.size, 0, none⟩ 1 1 [.int .u8 q] rfl rfl (cell_one_new _ _ _) (ints_oneCell .u8 [q]) (by unfold maxLen; omega) (by omega) (by have := hbel.size; simp; omega) ?_; intro v' w1 hown' hgrow _; obtain ⟨g, cap, rfl, hconv⟩ := owned_conv (xs := pre ++ [q]) (by simpa using hown') (by omega))
      go_ret
      obtain ⟨f, hf, hlt, he⟩ := HF.out
      refine ⟨ret_str ?_, (hbel.alloc hbel.size _).grown hgrow (by have := hbel.size; simp; omega) (fun k hk => (hown.lt k hk).1)⟩
      rw [← he, varF_short _ _ (by omega)]

/-- What Frame answers. -/
def frameAns (l : Int) (t : ByteArray) : ByteArray × Int :=
  if 4 ≤ l then (bs [], 1) else if 200 < t.size then (bs [], 2) else (bs (frame l (ls t)), 0)
theorem frameAns_label (l : Int) (t : ByteArray) (h : 4 ≤ l) : frameAns l t = (bs [], 1) := by simp [frameAns, h]
theorem frameAns_text (l : Int) (t : ByteArray) (h : ¬ 4 ≤ l) (h2 : 200 < t.size) : frameAns l t = (bs [], 2) := by simp [frameAns, h, h2]
theorem frameAns_ok (l : Int) (t : ByteArray) (h : ¬ 4 ≤ l) (h2 : ¬ 200 < t.size) : frameAns l t = (bs (frame l (ls t)), 0) := by simp [frameAns, h, h2]
theorem ret_ans {l : Int} {t x : ByteArray} {n : Int} (h : frameAns l t = (x, n)) :
    Ending.returned (.tuple #[.string x, .int .i64 n]) = .returned (.tuple #[.string (frameAns l t).1, .int .i64 (frameAns l t).2]) := by rw [h]

theorem bcell {W w1 : World} (hb : Below W.heap.size W w1) : (∀ b o, b < W.heap.size → w1.cell? ⟨b, o, none⟩ = W.cell? ⟨b, o, none⟩) ∧ (∀ b o, b < W.heap.size → w1.frozen? ⟨b, o, none⟩ = W.frozen? ⟨b, o, none⟩) :=
  ⟨fun b o h => hb.cell (p := ⟨b, o, none⟩) h, fun b o h => hb.frozen (p := ⟨b, o, none⟩) h⟩

theorem by8_213 : by8 213 = 213 := by decide
/-- A frame out of its parts. -/
theorem frame_parts {l : Int} {t B V C : ByteArray} (hB : ls B = body l (ls t)) (hV : V = bs (var ((1 + t.size : Nat) : Int))) (hC : C = bs (le (crc (ls B)) 4)) (_hz : B.size = 1 + t.size) :
    bs (frame l (ls t)) = bs [by8 213] ++ V ++ B ++ C := by
  have e1 : ((body l (ls t)).length : Int) = ((1 + t.size : Nat) : Int) := by rw [body_length, ls_length, Nat.add_comm]
  rw [← bs_ls B, hV, hC, hB, bs_append, bs_append, bs_append, by8_213]
  unfold frame frameB
  rw [e1]
  simp

set_option maxHeartbeats 1000000 in
theorem refFrame_any (l : Int) (t : ByteArray) (h0 : 0 ≤ l) (h1 : l ≤ 255) (ht : t.size ≤ maxLen) (w : World) :
    Calls Tryz.prog 62 #[.agg #[.int .u8 l, .string t]] w fun e w' => e = .returned (.tuple #[.string (frameAns l t).1, .int .i64 (frameAns l t).2]) ∧ Below w.heap.size w w' := by
  unfold maxLen at ht
  by_cases hl : 4 ≤ l
  · have H : Hid (frameAns l t = _) := frameAns_label l t hl
    go_enter Tryz.func62, Tryz.ntmps62
    go_wp2
    go_ret2
    exact ⟨ret_ans H.out, (Below.refl _ _).alloc (Nat.le_refl _) _⟩
  by_cases hz : 200 < t.size
  · have H : Hid (frameAns l t = _) := frameAns_text l t hl hz
    go_enter Tryz.func62, Tryz.ntmps62
    go_wp2
    go_ret2
    exact ⟨ret_ans H.out, (Below.refl _ _).alloc (Nat.le_refl _) _⟩
  have H : Hid (frameAns l t = _) := frameAns_ok l t hl hz
  have eL : Hid (le l 1 = [by8 l]) := by
    show [by8 (l % 256)] = [by8 l]
    rw [Int.emod_eq_of_lt (by omega) (by omega)]
  have kz : ∀ x, (bs [x]).size = 1 := fun x => bs_size _
  obtain ⟨B, hB, hBz⟩ : ∃ B : ByteArray, Hid (B = bs [by8 l] ++ t ∧ ls B = body l (ls t)) ∧ B.size = 1 + t.size :=
    ⟨bs [by8 l] ++ t, ⟨rfl, by rw [ls_append, ls_bs]; rfl⟩, by rw [ByteArray.size_append, kz]⟩
  obtain ⟨V, hV, hVz⟩ : ∃ V : ByteArray, Hid (V = bs (var ((1 + t.size : Nat) : Int))) ∧ V.size ≤ 10 := ⟨_, (rfl : _ = _), by rw [bs_size]; exact (var_length _).2⟩
  obtain ⟨C, hC, hCz⟩ : ∃ C : ByteArray, Hid (C = bs (le (crc (ls B)) 4)) ∧ C.size = 4 := ⟨_, (rfl : _ = _), by rw [bs_size, le_length]⟩
  have hcb := crc_bd (ls B)
  have hwr : IntKind.u64.wrap l = l := by rw [IntKind.wrap_u64]; omega
  have hsz : ¬ (9223372036854775807 < 1 + t.size) := by omega
  go_enter Tryz.func62, Tryz.ntmps62
  go_wp2_with fail
  go_region_with (go_at_call 44; refine (little_any _ 1 (by omega) (by omega) (by omega) _).mono ?_; rintro e w1 ⟨rfl, hb1⟩; rw [eL.out]; have hcc := bcell hb1; obtain ⟨hc, hf⟩ := hcc; have hz1 := hb1.size; simp at hz1)
  all_goals
    clear hc hf hwr hsz
    go_wp2_with fail
    rw [← hB.out.1]
    refine (refSum_any B (by unfold maxLen; omega) _).mono ?_
    rintro e w2 ⟨rfl, rfl⟩
    go_wp2_with fail
    refine (little_any _ 1 (by omega) (by omega) (by omega) _).mono ?_
    rintro e w3 ⟨rfl, hb3⟩
    rw [show bs (le 213 1) = bs [by8 213] from rfl]
    go_wp2_with fail
    refine (varint_any _ (by omega) (by omega) _).mono ?_
    rintro e w4 ⟨rfl, hb4⟩
    rw [show bs (var (1 + (t.size : Int))) = V from hV.out.symm]
    go_wp2_with fail
    refine (little_any _ 4 (by omega) (by omega) (by omega) _).mono ?_
    rintro e w5 ⟨rfl, hb5⟩
    rw [← hC.out]
    go_wp2_with fail
    go_ret2
    refine ⟨ret_ans ?_, ?_⟩
    · rw [H.out, frame_parts hB.out.2 hV.out hC.out hBz]
    · have z3 := hb3.size
      have z4 := hb4.size
      exact ((((((Below.refl _ _).alloc (Nat.le_refl _) _).drew).trans (hb1.mono (by simp))).trans (hb3.mono (by omega))).trans (hb4.mono (by omega))).trans (hb5.mono (by omega))
/-- What a walk is told of a []api.Example that came in. -/
def IsExs (w : World) (a : Option Addr) (len cap : Nat) (L : Nat → Int) (T : Nat → ByteArray) : Prop :=
  len = 0 ∨ ∃ b off, a = some ⟨b, off, none⟩ ∧ len ≤ cap ∧ cap ≤ maxLen ∧ b < w.heap.size ∧
    ∀ i, i < len → w.cell? ⟨b, off + i * 2, none⟩ = some (.int .u8 (L i)) ∧ w.cell? ⟨b, off + i * 2 + 1, none⟩ = some (.string (T i)) ∧ 0 ≤ L i ∧ L i ≤ 255 ∧ (T i).size ≤ maxLen

/-- What a walk is told of a []string. -/
def IsStrs (w : World) (a : Option Addr) (len cap : Nat) (T : Nat → ByteArray) : Prop :=
  len = 0 ∨ ∃ b off, a = some ⟨b, off, none⟩ ∧ len ≤ cap ∧ cap ≤ maxLen ∧ b < w.heap.size ∧
    ∀ i, i < len → w.cell? ⟨b, off + i, none⟩ = some (.string (T i)) ∧ (T i).size ≤ maxLen
theorem IsStrs.later {w w' : World} {a : Option Addr} {len cap : Nat} {T : Nat → ByteArray} (h : IsStrs w a len cap T) (hb : Below w.heap.size w w') : IsStrs w' a len cap T := by
  rcases h with h | ⟨b, off, h1, h2, h3, h4, h5⟩
  · exact .inl h
  · exact .inr ⟨b, off, h1, h2, h3, Nat.lt_of_lt_of_le h4 hb.size, fun i hi => ⟨(hb.cell (p := ⟨b, off + i, none⟩) h4).trans (h5 i hi).1, (h5 i hi).2⟩⟩
end Go.Proofs.YtfpodnleimhohabGreatDoor
