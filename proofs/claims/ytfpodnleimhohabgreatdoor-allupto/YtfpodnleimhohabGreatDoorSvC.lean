import Derived.Test.YtfpodnleimhohabGreatDoorSDK
import Derived.Test.YtfpodnleimhohabGreatDoorSvA
import Derived.Test.YtfpodnleimhohabGreatDoorSvB
import Derived.Test.YtfpodnleimhohabGreatDoorGO
import Derived.Test.YtfpodnleimhohabGreatDoorCards
import Derived.Test.YtfpodnleimhohabGreatDoorTie
import Derived.JoinedCond
import Derived.Deep.DeepHandedRow
import Derived.Lib.LaidTab
/-
  WALKS: Save (the document's).
-/
namespace Go.Proofs.YtfpodnleimhohabGreatDoor
open Go.RowKit
set_option linter.unusedVariables false
set_option linter.unusedSimpArgs false

set_option maxHeartbeats 1000000 in
theorem signed_any (x : Int) (h0 : -1073741824 ≤ x) (h1 : x ≤ 1073741824) (w : World) :
    Calls Tryz.prog 46 #[.int .i64 x] w fun e w' => e = .returned (.string (bs (sgL x))) ∧ Below w.heap.size w w' := by
  by_cases hx : x < 0
  · have HE : Hid (sg x = -2 * x - 1) := sg_neg hx
    go_enter Tryz.func46, Tryz.ntmps46
    go_wp2_with fail
    refine (varint_any _ (by omega) (by omega) _).mono ?_
    rintro e w1 ⟨rfl, hb1⟩
    go_wp2
    go_ret
    refine ⟨ret_str ?_, hb1⟩
    unfold sgL
    rw [HE.out]
  · have HE : Hid (sg x = 2 * x) := sg_pos hx
    go_enter Tryz.func46, Tryz.ntmps46
    go_wp2_with fail
    refine (varint_any _ (by omega) (by omega) _).mono ?_
    rintro e w1 ⟨rfl, hb1⟩
    go_wp2
    go_ret
    refine ⟨ret_str ?_, hb1⟩
    unfold sgL
    rw [HE.out]

/-- What stands ahead of the tables. -/
def openL (m : List UInt8) (n : Nat) : List UInt8 := headL ++ (m ++ var (n : Int))
theorem openL_body (m : List UInt8) (n : Nat) (f g : Nat → Int) : openL m n ++ tabL f 128 ++ tabL g 128 = bodyL ⟨m, n, f, g⟩ := by
  unfold openL bodyL numsL
  simp
theorem openL_length (m : List UInt8) (n : Nat) (hm : m.length = 4) : (openL m n).length ≤ 18 := by
  have := var_length (n : Int)
  simp only [openL, headL, List.length_append, List.length_cons, List.length_nil]
  omega
set_option maxRecDepth 100000 in
set_option maxHeartbeats 8000000 in
theorem refSave_any (g : Nat) (cf : Cf) (hcf : cf.Ok) (sh : ByteArray) (hsh : sh.size ≤ 600) (lv : Value) (st : St) (hst : st.Ok) (w : World) (hR : RefRun w g cf sh lv st) :
    Calls Tryz.prog 22 #[.pointer (some ⟨g, 0, none⟩)] w fun e w' => e = .returned (.string (bs (saveL ⟨le (crc (markL cf (ls sh))) 4, st.steps, flat st.w, flat st.v⟩))) ∧ Below w.heap.size w w' := by
  have HMk : Hid (∀ w1, _) := fun w1 => refMark_any cf hcf sh hsh w1
  have HMb : Hid _ := crc_bd (markL cf (ls sh))
  obtain ⟨mn, Hmn⟩ : ∃ mn, Hid (crc (markL cf (ls sh)) = mn) := ⟨_, (rfl : _ = _)⟩
  rw [Hmn.out] at HMk HMb ⊢
  have hmn0 := HMb.out.1
  have hmn1 := HMb.out.2
  obtain ⟨m4, Hm4⟩ : ∃ m4, Hid (le mn 4 = m4) := ⟨_, (rfl : _ = _)⟩
  have Hm4L : Hid (m4.length = 4) := by show _ = _; rw [← Hm4.out, le_length]
  rw [Hm4.out]
  have hs4 := hst.steps
  have HR : Hid (RefRun w g cf sh lv st) := hR
  have HK : Hid (∀ w', Below w.heap.size w w' → Hid (Below w.heap.size w w') ∧ w'.cell? ⟨g, 0, none⟩ = some (.int .u64 cf.seed) ∧ w'.cell? ⟨g, 1, none⟩ = some (.int .u8 cf.batch) ∧ w'.cell? ⟨g, 2, none⟩ = some (.int .i32 cf.rate) ∧ w'.cell? ⟨g, 3, none⟩ = some (.int .i32 cf.mom) ∧ w'.cell? ⟨g, 4, none⟩ = some (.int .u8 cf.decay) ∧ w'.cell? ⟨g, 5, none⟩ = some (.string sh) ∧ w'.cell? ⟨g, 7, none⟩ = some (.int .i64 st.steps)) := fun w' hb => by
    have h := CellsAt.later hR hb
    exact ⟨hb, CellsAt.cell h 0, CellsAt.cell h 1, CellsAt.cell h 2, CellsAt.cell h 3, CellsAt.cell h 4, CellsAt.cell h 5, CellsAt.cell h 7⟩
  have HLit : Hid (∀ w1, Calls Tryz.prog 44 #[.int .u64 mn, .int .i64 4] w1 fun e w' => e = .returned (.string (bs m4)) ∧ Below w1.heap.size w1 w') := fun w1 => by
    have h := little_any mn 4 hmn0 (by omega) (by omega) w1
    rw [Hm4.out] at h
    exact h
  have HVar : Hid (∀ w1, Calls Tryz.prog 45 #[.int .u64 st.steps] w1 fun e w' => e = .returned (.string (bs (var (st.steps : Int)))) ∧ Below w1.heap.size w1 w') := fun w1 => varint_any _ (by omega) (by omega) w1
  have hwm : IntKind.u64.wrap mn = mn := by rw [IntKind.wrap_u64]; omega
  have hws : IntKind.u64.wrap (st.steps : Int) = (st.steps : Int) := by rw [IntKind.wrap_u64]; omega
  obtain ⟨M, HM, hMz⟩ : ∃ M, Hid (bs m4 = M) ∧ M.size = 4 := ⟨_, (rfl : _ = _), by rw [bs_size]; exact Hm4L.out⟩
  obtain ⟨V, HV, hVz⟩ : ∃ V, Hid (bs (var (st.steps : Int)) = V) ∧ V.size ≤ 10 := ⟨_, (rfl : _ = _), by rw [bs_size]; exact (var_length _).2⟩
  rw [HM.out] at HLit
  rw [HV.out] at HVar
  have q0 : (⟨#[68, 82, 76, 49]⟩ : ByteArray).size = 4 := rfl
  have q1 : ((⟨#[68, 82, 76, 49]⟩ : ByteArray) ++ M).size = 8 := by rw [ByteArray.size_append]; omega
  have q2 : ((⟨#[68, 82, 76, 49]⟩ : ByteArray) ++ M ++ V).size ≤ 18 := by rw [ByteArray.size_append]; omega
  have HOp : Hid ((⟨#[68, 82, 76, 49]⟩ : ByteArray) ++ M ++ V = bs (openL m4 st.steps)) := by
    show _ = _
    rw [← HM.out, ← HV.out]
    unfold openL
    rw [show (⟨#[68, 82, 76, 49]⟩ : ByteArray) = bs headL from rfl, bs_append, bs_append, List.append_assoc]
  have HW : Hid (∀ w', Below w.heap.size w w' → ∀ c b, c < 4 → b < 32 → w'.cell? ⟨g, 8 + c * 32 + b, none⟩ = some (.int .i64 (st.w c b)) ∧ w'.cell? ⟨g, 136 + c * 32 + b, none⟩ = some (.int .i64 (st.v c b))) := fun w' hb c b hc hbl => by
    have h := CellsAt.later hR hb
    exact ⟨(CellsAt.cell h _).trans (runCells_w cf sh lv st hc hbl), (CellsAt.cell h _).trans (runCells_v cf sh lv st hc hbl)⟩
  have HSb : Hid (∀ c b, c < 4 → b < 32 → (-1073741824 ≤ st.w c b ∧ st.w c b ≤ 1073741824) ∧ (-1073741824 ≤ st.v c b ∧ st.v c b ≤ 1073741824)) := fun c b hc hb => by
    have := hst.w c b hc hb
    exact ⟨by omega, hst.v c b hc hb⟩
  clear hR hcf hsh hst
  have HK0 : Hid _ := HK.out _ (Below.refl _ _)
  obtain ⟨_, c0, c1, c2, c3, c4, c5, c7⟩ := HK0.out
  go_enter Tryz.func22, Tryz.ntmps22
  go_wp2_with fail
  go_region_held_law (fun w' => Hid (Below w.heap.size w w') ∧ w'.cell? ⟨g, 0, none⟩ = some (.int .u64 cf.seed) ∧ w'.cell? ⟨g, 1, none⟩ = some (.int .u8 cf.batch) ∧ w'.cell? ⟨g, 2, none⟩ = some (.int .i32 cf.rate) ∧ w'.cell? ⟨g, 3, none⟩ = some (.int .i32 cf.mom) ∧ w'.cell? ⟨g, 4, none⟩ = some (.int .u8 cf.decay) ∧ w'.cell? ⟨g, 5, none⟩ = some (.string sh) ∧ w'.cell? ⟨g, 7, none⟩ = some (.int .i64 st.steps)) (first | exact HK.out _ hB.out | exact HK.out _ (Below.refl _ _).drew | go_keep) (first | (go_at_call 43; refine (HMk.out _).mono ?_; rintro e w1 ⟨rfl, hb⟩; have hB : Hid (Below w.heap.size w w1) := (‹Hid (Below w.heap.size w _) ∧ _›).1.out.trans (hb.mono (‹Hid (Below w.heap.size w _) ∧ _›).1.out.size); clear hb))
  clear c0 c1 c2 c3 c4 c5 c7 HK0 HMk
  obtain ⟨_, c0, c1, c2, c3, c4, c5, c7⟩ := HK.out _ hB.out
  go_wp2_with fail
  go_region_held_law (fun w' => Hid (Below w.heap.size w w') ∧ w'.cell? ⟨g, 0, none⟩ = some (.int .u64 cf.seed) ∧ w'.cell? ⟨g, 1, none⟩ = some (.int .u8 cf.batch) ∧ w'.cell? ⟨g, 2, none⟩ = some (.int .i32 cf.rate) ∧ w'.cell? ⟨g, 3, none⟩ = some (.int .i32 cf.mom) ∧ w'.cell? ⟨g, 4, none⟩ = some (.int .u8 cf.decay) ∧ w'.cell? ⟨g, 5, none⟩ = some (.string sh) ∧ w'.cell? ⟨g, 7, none⟩ = some (.int .i64 st.steps)) (first | exact HK.out _ hB.out | exact HK.out _ hB.out.drew | go_keep) (first | (go_at_call 44; refine (HLit.out _).mono ?_; clear HLit; rintro e w1 ⟨rfl, hb⟩; have hB : Hid (Below w.heap.size w w1) := (‹Hid (Below w.heap.size w _) ∧ _›).1.out.trans (hb.mono (‹Hid (Below w.heap.size w _) ∧ _›).1.out.size); clear hb) | (go_at_call 45; refine (HVar.out _).mono ?_; rintro e w1 ⟨rfl, hb⟩; have hB : Hid (Below w.heap.size w w1) := (‹Hid (Below w.heap.size w _) ∧ _›).1.out.trans (hb.mono (‹Hid (Below w.heap.size w _) ∧ _›).1.out.size); clear hb))
  clear c0 c1 c2 c3 c4 c5 c7
  go_wp2_with fail
  go_loopw [4, 5] (fun sv cv wr => ∃ (c : Nat) (S : ByteArray), c ≤ 4 ∧ cv = .int .i64 c ∧ sv = .string S ∧ S.size ≤ 18 + c * 320 ∧ Hid (S = bs (openL m4 st.steps ++ tabL (flat st.w) (c * 32)) ∧ Below w.heap.size w wr)) (fun _ c _ => 4 - (intOf c).toNat)
  case atStart => exact ⟨0, _, by omega, rfl, rfl, q2, ⟨by rw [HOp.out, Nat.zero_mul, tabL_zero, List.append_nil], hB.out⟩⟩
  case round =>
    obtain ⟨c, S, hc, rfl, rfl, hS, HT⟩ := hrel
    by_cases hlt : c < 4
    · go_wp2_with fail
      generalize decide ((c : Int) < 4) = q4
      go_loopg [4, 6] 32 (fun gk sv bv wq => ∃ (b : Nat) (S : ByteArray), gk + b = 32 ∧ bv = .int .i64 b ∧ sv = .string S ∧ S.size ≤ 18 + c * 320 + b * 10 ∧ Hid (S = bs (openL m4 st.steps ++ tabL (flat st.w) (c * 32 + b)) ∧ Below w.heap.size w wq))
      case atStart => exact ⟨0, S, by omega, rfl, rfl, by omega, HT⟩
      case round =>
        obtain ⟨b, T, hb, rfl, rfl, hT, HU⟩ := hrel
        clear HT hS
        by_cases hbl : b < 32
        · have d1 := (HW.out _ HU.out.2 c b hlt hbl).1
          have b4 := (HSb.out c b hlt hbl).1
          have HN : Hid (tabL (flat st.w) (c * 32 + (b + 1)) = tabL (flat st.w) (c * 32 + b) ++ sgL (st.w c b)) := by
            show _ = _
            rw [show c * 32 + (b + 1) = c * 32 + b + 1 from rfl, tabL_snoc, flat_at _ hbl]
          generalize st.w c b = z at *
          go_wp2_with fail
          refine (signed_any z b4.1 b4.2 _).mono ?_
          rintro e w2 ⟨rfl, hb2⟩
          obtain ⟨Z, HZ, hZ⟩ : ∃ Z, Hid (bs (sgL z) = Z) ∧ Z.size ≤ 10 := ⟨_, (rfl : _ = _), by rw [bs_size]; exact (sgL_length z).2⟩
          rw [HZ.out]
          have hTZ : (T ++ Z).size ≤ 18 + c * 320 + (b + 1) * 10 := by rw [ByteArray.size_append]; omega
          have HB2 : Hid (T ++ Z = bs (openL m4 st.steps ++ tabL (flat st.w) (c * 32 + (b + 1))) ∧ Below w.heap.size w w2) := by
            refine ⟨?_, HU.out.2.trans (hb2.mono HU.out.2.size)⟩
            rw [HN.out, ← List.append_assoc, ← bs_append, HU.out.1, HZ.out]
          clear hb2 d1
          go_wp2
          go_roundg (gk - 1)
          case measure => omega
          case rel => exact ⟨b + 1, _, by omega, by go_num, rfl, hTZ, HB2⟩
        · obtain rfl : b = 32 := by omega
          go_wp2
          go_roundw
          case rel => exact ⟨c + 1, T, by omega, by go_num, rfl, by omega, by rw [show (c + 1) * 32 = c * 32 + 32 by omega]; exact HU⟩
          case measure => simp [intOf]; omega
    · obtain rfl : c = 4 := by omega
      go_wp2_with fail
      go_loopw [4, 7] (fun sv cv wr => ∃ (c : Nat) (S : ByteArray), c ≤ 4 ∧ cv = .int .i64 c ∧ sv = .string S ∧ S.size ≤ 1298 + c * 320 ∧ Hid (S = bs (openL m4 st.steps ++ tabL (flat st.w) 128 ++ tabL (flat st.v) (c * 32)) ∧ Below w.heap.size w wr)) (fun _ c _ => 4 - (intOf c).toNat)
      case atStart => exact ⟨0, _, by omega, rfl, rfl, by omega, ⟨by rw [HT.out.1, Nat.zero_mul, tabL_zero, List.append_nil], HT.out.2⟩⟩
      case round =>
        obtain ⟨c, S, hc, rfl, rfl, hS, HT⟩ := hrel
        by_cases hlt : c < 4
        · go_wp2_with fail
          generalize decide ((c : Int) < 4) = q4
          go_loopg [4, 8] 32 (fun gk sv bv wq => ∃ (b : Nat) (S : ByteArray), gk + b = 32 ∧ bv = .int .i64 b ∧ sv = .string S ∧ S.size ≤ 1298 + c * 320 + b * 10 ∧ Hid (S = bs (openL m4 st.steps ++ tabL (flat st.w) 128 ++ tabL (flat st.v) (c * 32 + b)) ∧ Below w.heap.size w wq))
          case atStart => exact ⟨0, S, by omega, rfl, rfl, by omega, HT⟩
          case round =>
            obtain ⟨b, T, hb, rfl, rfl, hT, HU⟩ := hrel
            clear HT hS
            by_cases hbl : b < 32
            · have d1 := (HW.out _ HU.out.2 c b hlt hbl).2
              have b4 := (HSb.out c b hlt hbl).2
              have HN : Hid (tabL (flat st.v) (c * 32 + (b + 1)) = tabL (flat st.v) (c * 32 + b) ++ sgL (st.v c b)) := by
                show _ = _
                rw [show c * 32 + (b + 1) = c * 32 + b + 1 from rfl, tabL_snoc, flat_at _ hbl]
              generalize st.v c b = z at *
              go_wp2_with fail
              refine (signed_any z b4.1 b4.2 _).mono ?_
              rintro e w2 ⟨rfl, hb2⟩
              obtain ⟨Z, HZ, hZ⟩ : ∃ Z, Hid (bs (sgL z) = Z) ∧ Z.size ≤ 10 := ⟨_, (rfl : _ = _), by rw [bs_size]; exact (sgL_length z).2⟩
              rw [HZ.out]
              have hTZ : (T ++ Z).size ≤ 1298 + c * 320 + (b + 1) * 10 := by rw [ByteArray.size_append]; omega
              have HB2 : Hid (T ++ Z = bs (openL m4 st.steps ++ tabL (flat st.w) 128 ++ tabL (flat st.v) (c * 32 + (b + 1))) ∧ Below w.heap.size w w2) := by
                refine ⟨?_, HU.out.2.trans (hb2.mono HU.out.2.size)⟩
                rw [HN.out, ← List.append_assoc, ← bs_append, HU.out.1, HZ.out]
              clear hb2 d1
              go_wp2
              go_roundg (gk - 1)
              case measure => omega
              case rel => exact ⟨b + 1, _, by omega, by go_num, rfl, hTZ, HB2⟩
            · obtain rfl : b = 32 := by omega
              go_wp2
              go_roundw
              case rel => exact ⟨c + 1, T, by omega, by go_num, rfl, by omega, by rw [show (c + 1) * 32 = c * 32 + 32 by omega]; exact HU⟩
              case measure => simp [intOf]; omega
        · obtain rfl : c = 4 := by omega
          have HBo : Hid (S = bs (bodyL ⟨m4, st.steps, flat st.w, flat st.v⟩)) := by
            show _ = _
            rw [HT.out.1, openL_body]
          have hBt := HT.out.2
          clear HT
          go_wp2_with fail
          refine (refSum_any S (by unfold maxLen; omega) _).mono ?_
          rintro e w9 ⟨rfl, hw⟩
          have hw' := hw.symm
          clear hw
          subst hw'
          have hcb := crc_bd (ls S)
          go_wp2_with fail
          refine (little_any _ 4 (by omega) (by omega) (by omega) _).mono ?_
          rintro e w9 ⟨rfl, hb9⟩
          obtain ⟨Z, HZ, hZ⟩ : ∃ Z, Hid (bs (le (crc (ls S)) 4) = Z) ∧ Z.size = 4 := ⟨_, (rfl : _ = _), by rw [bs_size, le_length]⟩
          rw [HZ.out]
          go_wp2
          go_ret
          refine ⟨ret_str ?_, hBt.trans (hb9.mono hBt.size)⟩
          rw [← HZ.out, HBo.out, ls_bs, bs_append]
          rfl
end Go.Proofs.YtfpodnleimhohabGreatDoor

/-
  WALKS: Save as an act; Load on both sides.
-/
namespace Go.Proofs.YtfpodnleimhohabGreatDoor
open Go.RowKit
set_option linter.unusedVariables false

theorem svOf_cut (mk : ByteArray) (st : St) : saveL (svOf mk st) = saveL ⟨ls mk, st.steps, cut128 (flat st.w), cut128 (flat st.v)⟩ := (saveL_cut _ _ _ _).symm
theorem svOf_cut_ok {mk : ByteArray} {st : St} (hst : st.Ok) (h4 : mk.size = 4) : Sv.Ok ⟨ls mk, st.steps, cut128 (flat st.w), cut128 (flat st.v)⟩ := by
  refine ⟨by show (ls mk).length = 4; rw [ls_length]; exact h4, hst.steps, fun x hx => ?_, fun x hx => ?_, fun x hx => if_neg (by omega), fun x hx => if_neg (by omega)⟩
  · show -16777216 ≤ cut128 _ x ∧ cut128 _ x ≤ 16777216
    unfold cut128
    rw [if_pos hx]
    exact flat_bd hst.w x hx
  · show -1073741824 ≤ cut128 _ x ∧ cut128 _ x ≤ 1073741824
    unfold cut128
    rw [if_pos hx]
    exact flat_bd hst.v x hx
theorem saves_same (cf : Cf) (sh : ByteArray) (st : St) : saveL ⟨le (crc (markL cf (ls sh))) 4, st.steps, flat st.w, flat st.v⟩ = saveL (svOf (markB cf sh) st) := by
  unfold svOf markB
  rw [ls_bs]

set_option maxRecDepth 100000 in
set_option maxHeartbeats 4000000 in
theorem asks_all {w : World} {gW base : Nat} {Ps : List PD} {EI EW : List Ent} (h : WAt w gW base Ps EI EW) (h1 : EI.length ≤ 10000000) (h2 : EW.length ≤ 10000000) (p : PD) (hp : p ∈ Ps) (kd r a : Int) (s : ByteArray) (hs : s.size ≤ maxLen) :
    Calls Tryz.prog 24 #[.pointer (some ⟨gW, 0, none⟩), .agg (pairCells p).toArray, .agg #[.int .i64 kd, .int .i64 r, .int .i64 a, .string s]] w fun e w' => e = .returned (.bool true) ∧ ∃ EW', WAt w' gW base Ps EI EW' ∧ EW'.length ≤ EW.length + 1 ∧ Below gW w w' ∧ PKept w w' := by
  by_cases k6 : kd ≠ 6
  · exact asks_any h h1 h2 p hp kd r a s hs k6
  have k6' : kd = 6 := Classical.byContradiction k6
  subst k6'
  have H : Hid (WAt w gW base Ps EI EW) := h
  have hg : gW < w.heap.size := Nat.lt_of_lt_of_le h.gb h.bw
  have HP : Hid (PairIs w p ∧ p.Ok) := ⟨(h.ps p hp).1, (h.ps p hp).2.1⟩
  clear h
  obtain ⟨gx, gy, cf, sh, rs, st⟩ := p
  show Calls Tryz.prog 24 #[.pointer (some ⟨gW, 0, none⟩), .agg #[.pointer (some ⟨gx, 0, none⟩), .pointer (some ⟨gy, 0, none⟩), .int .u64 cf.seed, .int .u8 cf.batch, .int .i32 cf.rate, .int .i32 cf.mom, .int .u8 cf.decay, .string sh], .agg #[.int .i64 6, .int .i64 r, .int .i64 a, .string s]] w _
  obtain ⟨⟨⟨aX, cX, bX, hx1, hx2⟩, ⟨aL, cL, bL, hy1, hy2⟩⟩, hok⟩ := HP.out
  have HX : Hid (ProgRun w gx cf (markB cf sh) (.slice aX (exsOf rs).length cX) st) := hx1
  have HY : Hid (RefRun w gy cf sh (.slice aL rs.length cL) st) := hy1
  have hst := hok.st
  have hcf := hok.cf
  have hsh := hok.sh
  simp only at hst hcf hsh
  clear hx1 hx2 hy1 hy2 hok HP
  have hmz : (markB cf sh).size ≤ 100 := by rw [markB_size]; omega
  have HSX : Hid (∀ w1, ProgRun w1 gx cf (markB cf sh) (.slice aX (exsOf rs).length cX) st → _) := fun w1 hh => progSave_any gx cf hmz _ st hst w1 hh
  have HSY : Hid (∀ w1, RefRun w1 gy cf sh (.slice aL rs.length cL) st → _) := fun w1 hh => refSave_any gy cf hcf sh hsh _ st hst w1 hh
  rw [saves_same] at HSY
  obtain ⟨SV, HSV⟩ : ∃ SV, Hid (bs (saveL (svOf (markB cf sh) st)) = SV) := ⟨_, (rfl : _ = _)⟩
  rw [HSV.out] at HSX HSY
  obtain ⟨w0, Hw0⟩ : ∃ w0, Hid ((w.alloc (.cells #[.pointer (some ⟨gx, 0, none⟩), .pointer (some ⟨gy, 0, none⟩), .int .u64 cf.seed, .int .u8 cf.batch, .int .i32 cf.rate, .int .i32 cf.mom, .int .u8 cf.decay, .string sh] 71)).alloc (.cells #[.int .i64 6, .int .i64 r, .int .i64 a, .string s] 48) = w0) := ⟨_, (rfl : _ = _)⟩
  have HB0 : Hid (Below w.heap.size w w0) := by rw [← Hw0.out]; exact ((Below.refl _ _).alloc (Nat.le_refl _) _).alloc (by simp) _
  have HC0 : Hid (CellsAt w0 w.heap.size 71 [.pointer (some ⟨gx, 0, none⟩), .pointer (some ⟨gy, 0, none⟩), .int .u64 cf.seed, .int .u8 cf.batch, .int .i32 cf.rate, .int .i32 cf.mom, .int .u8 cf.decay, .string sh]) := by
    rw [← Hw0.out]
    exact (CellsAt.new w _ _ _ rfl rfl).alloc _
  have HWn : Hid (∀ w', Below w0.heap.size w0 w' → ∃ EW', WAt w' gW base Ps EI EW' ∧ EW'.length ≤ EW.length + 1 ∧ Below gW w w' ∧ PKept w w') := fun w' hb => ⟨EW, (H.out.later HB0.out).later hb, by omega, (Below.mono HB0.out (by omega)).trans (Below.mono hb (by have := HB0.out.size; omega)), (PKept.of_below HB0.out).trans (PKept.of_below hb)⟩
  go_enter Tryz.func24, Tryz.ntmps24
  go_wp2_with fail
  rw [Hw0.out]
  clear Hw0
  refine (HSX.out _ (CellsAt.later HX.out HB0.out)).mono ?_
  rintro e w1 ⟨rfl, hb1⟩
  have HB1 : Hid (Below w0.heap.size w0 w1) := hb1
  have d1 := CellsAt.cell (CellsAt.later HC0.out hb1) 1
  simp only [List.getElem?_cons_zero, List.getElem?_cons_succ] at d1
  clear hb1
  go_wp2_with fail
  refine (HSY.out _ (CellsAt.later (CellsAt.later HY.out HB0.out) HB1.out)).mono ?_
  rintro e w2 ⟨rfl, hb2⟩
  have HB2 : Hid (Below w0.heap.size w0 w2) := HB1.out.trans (hb2.mono HB1.out.size)
  clear hb2 d1
  go_wp2
  go_ret
  exact ⟨rfl, HWn.out _ HB2.out⟩

set_option maxRecDepth 100000 in
set_option maxHeartbeats 4000000 in
theorem joins_full {w : World} (gW : Nat) (gx gy : Nat) (cf : Cf) (sh : ByteArray) (hg : gW < w.heap.size) (aP : Option Addr) (nP cP : Nat) (h6 : 6 ≤ nP) (hm : nP ≤ 100) (hc : w.cell? ⟨gW, 0, none⟩ = some (.slice aP nP cP)) :
    Calls Tryz.prog 8 #[.pointer (some ⟨gW, 0, none⟩), .pointer (some ⟨gx, 0, none⟩), .pointer (some ⟨gy, 0, none⟩), .agg #[.int .u64 cf.seed, .int .u8 cf.batch, .int .i32 cf.rate, .int .i32 cf.mom, .int .u8 cf.decay], .string sh] w fun e w' => e = .returned (.bool true) ∧ Below w.heap.size w w' := by
  go_enter Tryz.func8, Tryz.ntmps8
  go_wp2
  go_ret
  exact ⟨rfl, (Below.refl _ _).alloc (Nat.le_refl _) _⟩
end Go.Proofs.YtfpodnleimhohabGreatDoor

/-
  WALKS: Load on both sides, as an act.
-/
namespace Go.Proofs.YtfpodnleimhohabGreatDoor
open Go.RowKit
set_option linter.unusedVariables false

set_option maxRecDepth 100000 in
set_option maxHeartbeats 4000000 in
theorem loads_any {w : World} {gW base : Nat} {Ps : List PD} {EI EW : List Ent} (h : WAt w gW base Ps EI EW) (h6 : Ps.length ≤ 6) (cf : Cf) (hcf : cf.Ok) (s : ByteArray) (hs : s.size ≤ 600) (hne : 0 < (recs (ls s)).length) (sv : ByteArray) (hsv : sv.size ≤ maxLen) :
    Calls Tryz.prog 23 #[.pointer (some ⟨gW, 0, none⟩), .agg #[.int .u64 cf.seed, .int .u8 cf.batch, .int .i32 cf.rate, .int .i32 cf.mom, .int .u8 cf.decay], .string s, .string sv] w fun e w' => e = .returned (.bool true) ∧ ∃ Q : List PD, Ps.length ≤ Q.length ∧ Q.length ≤ 6 ∧ WAt w' gW base Q EI EW ∧ Below gW w w' := by
  have H1 : Hid (∀ w1, _) := fun w1 => progLoad_any cf hcf s hs hne sv hsv w1
  have H2 : Hid (∀ w1, _) := fun w1 => refLoad_any cf hcf s hs hne sv hsv w1
  unfold LoadIs at H1 H2
  have hOk : ∀ S, pRead (ls sv) = some S → S.Ok := fun S hS => (pRead_some hS).1
  obtain ⟨O, HO⟩ : ∃ O, Hid (pRead (ls sv) = O) := ⟨_, (rfl : _ = _)⟩
  rw [HO.out] at H1 H2 hOk
  have HOk : Hid (∀ gx gy S, O = some S → PD.Ok ⟨gx, gy, cf, s, recs (ls s), svSt S⟩) := fun gx gy S hS => ⟨hcf, svSt_ok (hOk S hS), chain_ok (chain_recs _), hne, by
    have e : (ls s).length = s.size := by simp [ls]
    have := recs_len (ls s)
    show (recs (ls s)).length ≤ 600
    omega, hs, rfl⟩
  clear hOk
  have hgb := h.gb
  have hbw := h.bw
  have HJ : Hid (∀ w1 gx gy S, O = some S → WAt w1 gW base Ps EI EW → RunIs w1 gx cf (markB cf s) (exsOf (recs (ls s))) (svSt S) → RefIs w1 gy cf s (recs (ls s)) (svSt S) → w.heap.size ≤ gx → w.heap.size ≤ gy → Calls Tryz.prog 8 #[.pointer (some ⟨gW, 0, none⟩), .pointer (some ⟨gx, 0, none⟩), .pointer (some ⟨gy, 0, none⟩), .agg #[.int .u64 cf.seed, .int .u8 cf.batch, .int .i32 cf.rate, .int .i32 cf.mom, .int .u8 cf.decay], .string s] w1 fun e w' => e = .returned (.bool true) ∧ (∃ Q : List PD, Ps.length ≤ Q.length ∧ Q.length ≤ 6 ∧ WAt w' gW base Q EI EW) ∧ Below gW w1 w') := fun w1 gx gy S hS q1 q2 q3 q4 q5 => by
    by_cases h5 : Ps.length < 6
    · refine (joins_some q1 h5 ⟨gx, gy, cf, s, recs (ls s), svSt S⟩ ⟨q2, q3⟩ (HOk.out gx gy S hS) (Nat.le_trans hbw q4) (Nat.le_trans hbw q5) (fun p hp => ?_)).mono ?_
      · have := (h.ps p hp).1
        have l1 := this.1.lt
        obtain ⟨_, _, _, l2, _⟩ := this.2
        have l2 := CellsAt.lt l2
        show p.gx ≠ gx ∧ p.gy ≠ gy
        omega
      · rintro e w' ⟨rfl, a, b⟩
        exact ⟨rfl, ⟨_, by simp, by simp; omega, a⟩, b⟩
    · obtain ⟨aP, cP, e1, _⟩ := q1.pr
      have hg1 : gW < w1.heap.size := Nat.lt_of_lt_of_le q1.gb q1.bw
      refine (joins_full gW gx gy cf s hg1 aP Ps.length cP (by omega) (by omega) e1).mono ?_
      rintro e w' ⟨rfl, hb⟩
      exact ⟨rfl, ⟨Ps, Nat.le_refl _, h6, q1.later hb⟩, Below.mono hb (by omega)⟩
  have HJ0 : Hid (∀ w1, WAt w1 gW base Ps EI EW → Calls Tryz.prog 8 #[.pointer (some ⟨gW, 0, none⟩), .pointer none, .pointer none, .agg #[.int .u64 cf.seed, .int .u8 cf.batch, .int .i32 cf.rate, .int .i32 cf.mom, .int .u8 cf.decay], .string s] w1 fun e w' => e = .returned (.bool true) ∧ Below w1.heap.size w1 w') := fun w1 q1 => by
    obtain ⟨aP, cP, e1, _⟩ := q1.pr
    have hg1 : gW < w1.heap.size := Nat.lt_of_lt_of_le q1.gb q1.bw
    exact joins_none gW cf.raw s hg1 aP Ps.length cP e1
  have H : Hid (WAt w gW base Ps EI EW) := h
  clear h hcf hs hne HOk hsv
  obtain ⟨w0, Hw0⟩ : ∃ w0, Hid (w.alloc (.cells #[.int .u64 cf.seed, .int .u8 cf.batch, .int .i32 cf.rate, .int .i32 cf.mom, .int .u8 cf.decay] 24) = w0) := ⟨_, (rfl : _ = _)⟩
  have HB0 : Hid (Below w.heap.size w w0) := by rw [← Hw0.out]; exact (Below.refl _ _).alloc (Nat.le_refl _) _
  have HC0 : Hid (CellsAt w0 w.heap.size 24 [.int .u64 cf.seed, .int .u8 cf.batch, .int .i32 cf.rate, .int .i32 cf.mom, .int .u8 cf.decay]) := by rw [← Hw0.out]; exact CellsAt.new w _ _ _ rfl rfl
  have hsz0 := HB0.out.size
  have K0 : Hid (WAt w0 gW base Ps EI EW ∧ Below gW w w0) := ⟨H.out.later HB0.out, Below.mono HB0.out (by omega)⟩
  have c0 := CellsAt.cell HC0.out 0
  have c1 := CellsAt.cell HC0.out 1
  have c2 := CellsAt.cell HC0.out 2
  have c3 := CellsAt.cell HC0.out 3
  have c4 := CellsAt.cell HC0.out 4
  simp only [List.getElem?_cons_zero, List.getElem?_cons_succ] at c0 c1 c2 c3 c4
  clear HB0 H
  go_enter Tryz.func23, Tryz.ntmps23
  go_wp2_with fail
  rw [Hw0.out]
  refine (H1.out _).mono ?_
  rintro e w2 ⟨hc1, hb2⟩
  have hsz2 := hb2.size
  have K2 : Hid (WAt w2 gW base Ps EI EW ∧ Below gW w w2) := by
    have := K0.out.1.bw
    exact ⟨K0.out.1.later hb2, K0.out.2.trans (Below.mono hb2 (by omega))⟩
  have HC2 : Hid (CellsAt w2 w.heap.size 24 [.int .u64 cf.seed, .int .u8 cf.batch, .int .i32 cf.rate, .int .i32 cf.mom, .int .u8 cf.decay]) := HC0.out.later hb2
  clear hb2 K0 c0 c1 c2 c3 c4 HC0 Hw0
  have HH1 : Hid _ := hc1
  clear hc1
  cases hO : O with
  | none =>
    rw [hO] at HH1 H2
    obtain rfl : e = .returned (.tuple #[.pointer none, .int .i64 8]) := by
      rcases HH1.out with ⟨_, h⟩ | ⟨S, h, _⟩ | ⟨S, g, h, _⟩
      · exact h
      · simp at h
      · simp at h
    clear HH1
    have c0 := CellsAt.cell HC2.out 0
    have c1 := CellsAt.cell HC2.out 1
    have c2 := CellsAt.cell HC2.out 2
    have c3 := CellsAt.cell HC2.out 3
    have c4 := CellsAt.cell HC2.out 4
    simp only [List.getElem?_cons_zero, List.getElem?_cons_succ] at c0 c1 c2 c3 c4
    go_wp2_with fail
    refine (H2.out _).mono ?_
    rintro e w3 ⟨hc2, hb3⟩
    obtain rfl : e = .returned (.tuple #[.pointer none, .int .i64 8]) := by
      rcases hc2 with ⟨_, h⟩ | ⟨S, h, _⟩ | ⟨S, g, h, _⟩
      · exact h
      · simp at h
      · simp at h
    have K3 : Hid (WAt w3 gW base Ps EI EW ∧ Below gW w w3) := by
      have := K2.out.1.bw
      exact ⟨K2.out.1.later hb3, K2.out.2.trans (Below.mono hb3 (by omega))⟩
    have HC3 : Hid (CellsAt w3 w.heap.size 24 [.int .u64 cf.seed, .int .u8 cf.batch, .int .i32 cf.rate, .int .i32 cf.mom, .int .u8 cf.decay]) := HC2.out.later hb3
    clear hc2 hb3 K2 HC2 c0 c1 c2 c3 c4
    have c0 := CellsAt.cell HC3.out 0
    have c1 := CellsAt.cell HC3.out 1
    have c2 := CellsAt.cell HC3.out 2
    have c3 := CellsAt.cell HC3.out 3
    have c4 := CellsAt.cell HC3.out 4
    simp only [List.getElem?_cons_zero, List.getElem?_cons_succ] at c0 c1 c2 c3 c4
    go_wp2_with fail
    refine (HJ0.out _ K3.out.1).mono ?_
    rintro e w4 ⟨rfl, hb4⟩
    have K4 : Hid (WAt w4 gW base Ps EI EW ∧ Below gW w w4) := by
      have := K3.out.1.bw
      exact ⟨K3.out.1.later hb4, K3.out.2.trans (Below.mono hb4 (by omega))⟩
    clear hb4 K3 c0 c1 c2 c3 c4
    go_wp2
    go_ret
    exact ⟨rfl, Ps, Nat.le_refl _, h6, K4.out.1, K4.out.2⟩
  | some S =>
    rw [hO] at HH1 H2
    by_cases hm : bs S.m4 = markB cf s
    · obtain ⟨gx, he, hgx, hX⟩ : ∃ gx, e = .returned (.tuple #[.pointer (some ⟨gx, 0, none⟩), .int .i64 0]) ∧ w0.heap.size ≤ gx ∧ RunIs w2 gx cf (markB cf s) (exsOf (recs (ls s))) (svSt S) := by
        rcases HH1.out with ⟨h, _⟩ | ⟨S', h, hn, _⟩ | ⟨S', g, h, _, h1, h2, h3⟩
        · simp at h
        · simp only [Option.some.injEq] at h
          subst h
          exact absurd hm hn
        · simp only [Option.some.injEq] at h
          subst h
          exact ⟨g, h1, h2, h3⟩
      subst he
      have HX : Hid (RunIs w2 gx cf (markB cf s) (exsOf (recs (ls s))) (svSt S)) := hX
      clear HH1 hX
      have c0 := CellsAt.cell HC2.out 0
      have c1 := CellsAt.cell HC2.out 1
      have c2 := CellsAt.cell HC2.out 2
      have c3 := CellsAt.cell HC2.out 3
      have c4 := CellsAt.cell HC2.out 4
      simp only [List.getElem?_cons_zero, List.getElem?_cons_succ] at c0 c1 c2 c3 c4
      go_wp2_with fail
      refine (H2.out _).mono ?_
      rintro e w3 ⟨hc2, hb3⟩
      obtain ⟨gy, he, hgy, hY⟩ : ∃ gy, e = .returned (.tuple #[.pointer (some ⟨gy, 0, none⟩), .int .i64 0]) ∧ w2.heap.size ≤ gy ∧ RefIs w3 gy cf s (recs (ls s)) (svSt S) := by
        rcases hc2 with ⟨h, _⟩ | ⟨S', h, hn, _⟩ | ⟨S', g, h, _, h1, h2, h3⟩
        · simp at h
        · simp only [Option.some.injEq] at h
          subst h
          exact absurd hm hn
        · simp only [Option.some.injEq] at h
          subst h
          exact ⟨g, h1, h2, h3⟩
      subst he
      have HX3 : Hid (RunIs w3 gx cf (markB cf s) (exsOf (recs (ls s))) (svSt S)) := HX.out.later hb3
      have HY : Hid (RefIs w3 gy cf s (recs (ls s)) (svSt S)) := hY
      have K3 : Hid (WAt w3 gW base Ps EI EW ∧ Below gW w w3) := by
        have := K2.out.1.bw
        exact ⟨K2.out.1.later hb3, K2.out.2.trans (Below.mono hb3 (by omega))⟩
      have HC3 : Hid (CellsAt w3 w.heap.size 24 [.int .u64 cf.seed, .int .u8 cf.batch, .int .i32 cf.rate, .int .i32 cf.mom, .int .u8 cf.decay]) := HC2.out.later hb3
      clear hc2 hb3 K2 HC2 c0 c1 c2 c3 c4 HX hY
      have c0 := CellsAt.cell HC3.out 0
      have c1 := CellsAt.cell HC3.out 1
      have c2 := CellsAt.cell HC3.out 2
      have c3 := CellsAt.cell HC3.out 3
      have c4 := CellsAt.cell HC3.out 4
      simp only [List.getElem?_cons_zero, List.getElem?_cons_succ] at c0 c1 c2 c3 c4
      go_wp2_with fail
      refine (HJ.out _ gx gy S hO K3.out.1 HX3.out HY.out (by omega) (by omega)).mono ?_
      rintro e w4 ⟨rfl, hQ, hb4⟩
      have K4 : Hid ((∃ Q : List PD, Ps.length ≤ Q.length ∧ Q.length ≤ 6 ∧ WAt w4 gW base Q EI EW) ∧ Below gW w w4) := ⟨hQ, K3.out.2.trans hb4⟩
      clear hb4 K3 c0 c1 c2 c3 c4 hQ
      go_wp2
      go_ret
      obtain ⟨⟨Q, q0, q1, q2⟩, q3⟩ := K4.out
      exact ⟨rfl, Q, q0, q1, q2, q3⟩
    · obtain rfl : e = .returned (.tuple #[.pointer none, .int .i64 9]) := by
        rcases HH1.out with ⟨h, _⟩ | ⟨S', h, _, h2⟩ | ⟨S', g, h, h2, _⟩
        · simp at h
        · exact h2
        · simp only [Option.some.injEq] at h
          subst h
          exact absurd h2 hm
      clear HH1
      have c0 := CellsAt.cell HC2.out 0
      have c1 := CellsAt.cell HC2.out 1
      have c2 := CellsAt.cell HC2.out 2
      have c3 := CellsAt.cell HC2.out 3
      have c4 := CellsAt.cell HC2.out 4
      simp only [List.getElem?_cons_zero, List.getElem?_cons_succ] at c0 c1 c2 c3 c4
      go_wp2_with fail
      refine (H2.out _).mono ?_
      rintro e w3 ⟨hc2, hb3⟩
      obtain rfl : e = .returned (.tuple #[.pointer none, .int .i64 9]) := by
        rcases hc2 with ⟨h, _⟩ | ⟨S', h, _, h2⟩ | ⟨S', g, h, h2, _⟩
        · simp at h
        · exact h2
        · simp only [Option.some.injEq] at h
          subst h
          exact absurd h2 hm
      have K3 : Hid (WAt w3 gW base Ps EI EW ∧ Below gW w w3) := by
        have := K2.out.1.bw
        exact ⟨K2.out.1.later hb3, K2.out.2.trans (Below.mono hb3 (by omega))⟩
      have HC3 : Hid (CellsAt w3 w.heap.size 24 [.int .u64 cf.seed, .int .u8 cf.batch, .int .i32 cf.rate, .int .i32 cf.mom, .int .u8 cf.decay]) := HC2.out.later hb3
      clear hc2 hb3 K2 HC2 c0 c1 c2 c3 c4
      have c0 := CellsAt.cell HC3.out 0
      have c1 := CellsAt.cell HC3.out 1
      have c2 := CellsAt.cell HC3.out 2
      have c3 := CellsAt.cell HC3.out 3
      have c4 := CellsAt.cell HC3.out 4
      simp only [List.getElem?_cons_zero, List.getElem?_cons_succ] at c0 c1 c2 c3 c4
      go_wp2_with fail
      refine (HJ0.out _ K3.out.1).mono ?_
      rintro e w4 ⟨rfl, hb4⟩
      have K4 : Hid (WAt w4 gW base Ps EI EW ∧ Below gW w w4) := by
        have := K3.out.1.bw
        exact ⟨K3.out.1.later hb4, K3.out.2.trans (Below.mono hb4 (by omega))⟩
      clear hb4 K3 c0 c1 c2 c3 c4
      go_wp2
      go_ret
      exact ⟨rfl, Ps, Nat.le_refl _, h6, K4.out.1, K4.out.2⟩
end Go.Proofs.YtfpodnleimhohabGreatDoor

/-
  WALKS: Save, Load and Read, as acts.
-/
namespace Go.Proofs.YtfpodnleimhohabGreatDoor
open Go.RowKit
set_option linter.unusedVariables false

set_option maxRecDepth 100000 in
set_option maxHeartbeats 8000000 in
theorem act_more {w : World} {gW base : Nat} {Ps : List PD} {EI EW : List Ent} (h : WAt w gW base Ps EI EW) (h1 : EI.length ≤ 10000000) (h2 : EW.length ≤ 10000000) (h6 : Ps.length ≤ 6) (kd r a : Int) (s : ByteArray) (hs : s.size ≤ maxLen) (hk : 6 ≤ kd ∧ kd ≤ 8)
    (hr0 : -9223372036854775808 ≤ r) (hr1 : r ≤ 9223372036854775807) (ha0 : -9223372036854775808 ≤ a) (ha1 : a ≤ 9223372036854775807) :
    Calls Tryz.prog 9 #[.pointer (some ⟨gW, 0, none⟩), .agg #[.int .i64 kd, .int .i64 r, .int .i64 a, .string s]] w fun e w' => e = .returned (.bool true) ∧ ∃ Ps' EI' EW', WAt w' gW base Ps' EI' EW' ∧ Ps.length ≤ Ps'.length ∧ Ps'.length ≤ 6 ∧ EI'.length ≤ EI.length + 1 ∧ EW'.length ≤ EW.length + 1 ∧ Below gW w w' := by
  have H : Hid (WAt w gW base Ps EI EW) := h
  have hg : gW < w.heap.size := Nat.lt_of_lt_of_le h.gb h.bw
  obtain ⟨aP, cP, hc0, hrow⟩ := h.pr
  obtain ⟨_, _, hv, hcP1, hcP2, hrd⟩ := own_read hrow
  simp only [Value.slice.injEq, true_and] at hv
  obtain ⟨rfl, rfl⟩ := hv
  unfold maxLen at hcP2
  have HRD : Hid _ := hrd
  clear hrd hrow h
  obtain ⟨w0, Hw0⟩ : ∃ w0, Hid (w.alloc (.cells #[.int .i64 kd, .int .i64 r, .int .i64 a, .string s] 48) = w0) := ⟨_, (rfl : _ = _)⟩
  have HB0 : Hid (Below w.heap.size w w0) := by rw [← Hw0.out]; exact (Below.refl _ _).alloc (Nat.le_refl _) _
  have HC0 : Hid (CellsAt w0 w.heap.size 48 [.int .i64 kd, .int .i64 r, .int .i64 a, .string s]) := by rw [← Hw0.out]; exact CellsAt.new w _ _ _ rfl rfl
  have d0 := (HB0.out.cell (p := ⟨gW, 0, none⟩) hg).trans hc0
  by_cases hn : Ps.length = 0
  · rw [hn] at d0 hcP1 hc0
    go_enter Tryz.func9, Tryz.ntmps9
    go_wp2
    rw [Hw0.out]
    go_ret
    exact ⟨rfl, Ps, EI, EW, H.out.later HB0.out, Nat.le_refl _, h6, by omega, by omega, Below.mono HB0.out (by omega)⟩
  · have hi := pickN_lt r (n := Ps.length) (by omega)
    obtain ⟨i, Hi⟩ : ∃ i, Hid (pickN r Ps.length = i) := ⟨_, (rfl : _ = _)⟩
    rw [Hi.out] at hi
    obtain ⟨gP, rfl, hgP1, hgP2, hgP3⟩ := HRD.out (by omega)
    have hpi := List.getElem?_eq_getElem hi
    have hmem := List.getElem_mem hi
    have hpc := pair_get hpi
    generalize hpe : Ps[i] = p at *
    have HPi : Hid (Ps[i]? = some p ∧ p ∈ Ps) := ⟨hpi, hmem⟩
    have HPC : Hid (∀ j, j < 8 → w0.cell? ⟨gP, i * 8 + j, none⟩ = (pairCells p)[j]?) := fun j hj => (HB0.out.cell (p := ⟨gP, i * 8 + j, none⟩) hgP2).trans ((hgP3 (i * 8 + j) (by omega)).trans (hpc j hj))
    clear hgP3 hpc hpi hmem hpe
    have hnz : ((Ps.length : Int) == 0) = false := beq_eq_false_iff_ne.2 (by omega)
    have hin : (i : Int) < (Ps.length : Int) := by omega
    have hgz : gP < w0.heap.size := Nat.lt_of_lt_of_le hgP2 HB0.out.size
    have hBz := CellsAt.lt HC0.out
    have HAs : Hid (∀ w1, Below w.heap.size w w1 → _) := fun w1 hb => asks_all (H.out.later hb) h1 h2 p HPi.out.2 kd r a s hs
    obtain ⟨gx, gy, cf, sh, rs, st⟩ := p
    have p0 := HPC.out 0 (by decide)
    have p1 := HPC.out 1 (by decide)
    have p2 := HPC.out 2 (by decide)
    have p3 := HPC.out 3 (by decide)
    have p4 := HPC.out 4 (by decide)
    have p5 := HPC.out 5 (by decide)
    have p6 := HPC.out 6 (by decide)
    have p7 := HPC.out 7 (by decide)
    simp only [pairCells, Nat.add_zero, List.getElem?_cons_zero, List.getElem?_cons_succ] at p0 p1 p2 p3 p4 p5 p6 p7
    have x1 := CellsAt.cell HC0.out 1
    simp only [List.getElem?_cons_zero, List.getElem?_cons_succ] at x1
    go_enter Tryz.func9, Tryz.ntmps9
    go_wp2_with fail
    rw [Hw0.out]
    go_cut [5] (fun pv wc => pv = .pointer (some ⟨w0.heap.size, 0, none⟩) ∧ wc = (w0.alloc (.cells #[.pointer (some ⟨gx, 0, none⟩), .pointer (some ⟨gy, 0, none⟩), .int .u64 cf.seed, .int .u8 cf.batch, .int .i32 cf.rate, .int .i32 cf.mom, .int .u8 cf.decay, .string sh] 71)).drew)
    case first =>
      go_region_held_law (fun w' => w'.cell? ⟨gW, 0, none⟩ = some (.slice (some ⟨gP, 0, none⟩) Ps.length cP) ∧ w'.cell? ⟨w.heap.size, 1, none⟩ = some (.int .i64 r) ∧ w'.cell? ⟨gP, i * 8, none⟩ = some (.pointer (some ⟨gx, 0, none⟩)) ∧ w'.cell? ⟨gP, i * 8 + 1, none⟩ = some (.pointer (some ⟨gy, 0, none⟩)) ∧ w'.cell? ⟨gP, i * 8 + 2, none⟩ = some (.int .u64 cf.seed) ∧ w'.cell? ⟨gP, i * 8 + 3, none⟩ = some (.int .u8 cf.batch) ∧ w'.cell? ⟨gP, i * 8 + 4, none⟩ = some (.int .i32 cf.rate) ∧ w'.cell? ⟨gP, i * 8 + 5, none⟩ = some (.int .i32 cf.mom) ∧ w'.cell? ⟨gP, i * 8 + 6, none⟩ = some (.int .u8 cf.decay) ∧ w'.cell? ⟨gP, i * 8 + 7, none⟩ = some (.string sh)) (go_keep) (first | (go_at_call 17; refine (lpick_any r Ps.length hr0 hr1 (by omega) (by omega) _).mono ?_; rintro e w' ⟨rfl, rfl⟩; rw [Hi.out]))
      all_goals
        go_wp2_with fail
        go_meet
        case rel => exact ⟨rfl, rfl⟩
    case rest =>
      obtain ⟨rfl, rfl⟩ := hcut
      obtain ⟨w1, Hw1⟩ : ∃ w1, Hid ((w0.alloc (.cells #[.pointer (some ⟨gx, 0, none⟩), .pointer (some ⟨gy, 0, none⟩), .int .u64 cf.seed, .int .u8 cf.batch, .int .i32 cf.rate, .int .i32 cf.mom, .int .u8 cf.decay, .string sh] 71)).drew = w1) := ⟨_, (rfl : _ = _)⟩
      have HB1 : Hid (Below w.heap.size w w1) := by rw [← Hw1.out]; exact (HB0.out.alloc HB0.out.size _).drew
      have HA1 : Hid (CellsAt w1 w.heap.size 48 [.int .i64 kd, .int .i64 r, .int .i64 a, .string s]) := by rw [← Hw1.out]; exact CellsAt.alloc HC0.out _
      have HQ1 : Hid (CellsAt w1 w0.heap.size 71 [.pointer (some ⟨gx, 0, none⟩), .pointer (some ⟨gy, 0, none⟩), .int .u64 cf.seed, .int .u8 cf.batch, .int .i32 cf.rate, .int .i32 cf.mom, .int .u8 cf.decay, .string sh]) := by rw [← Hw1.out]; exact CellsAt.new _ _ _ _ rfl rfl
      have hsz0 : w.heap.size < w0.heap.size := hBz
      rw [Hw1.out]
      clear Hw1 p0 p1 p2 p3 p4 p5 p6 p7 x1 d0 hc0 HPC hgz hBz hgP1 hgP2 HRD
      generalize w0.heap.size = gQ at *
      have y0 := CellsAt.cell HA1.out 0
      have y1 := CellsAt.cell HA1.out 1
      have y2 := CellsAt.cell HA1.out 2
      have y3 := CellsAt.cell HA1.out 3
      have z0 := CellsAt.cell HQ1.out 0
      have z1 := CellsAt.cell HQ1.out 1
      have z2 := CellsAt.cell HQ1.out 2
      have z3 := CellsAt.cell HQ1.out 3
      have z4 := CellsAt.cell HQ1.out 4
      have z5 := CellsAt.cell HQ1.out 5
      have z6 := CellsAt.cell HQ1.out 6
      have z7 := CellsAt.cell HQ1.out 7
      simp only [List.getElem?_cons_zero, List.getElem?_cons_succ] at y0 y1 y2 y3 z0 z1 z2 z3 z4 z5 z6 z7
      have HPk : Hid (PairIs w1 ⟨gx, gy, cf, sh, rs, st⟩ ∧ PD.Ok ⟨gx, gy, cf, sh, rs, st⟩) := ⟨((H.out.later HB1.out).ps _ HPi.out.2).1, ((H.out.later HB1.out).ps _ HPi.out.2).2.1⟩
      have hb1z := HB1.out.size
      by_cases k6 : kd = 6
      · subst k6
        go_wp2_with fail
        refine (HAs.out _ HB1.out).mono ?_
        rintro e w2 ⟨rfl, EW', hW', hl', hb', _⟩
        have HR : Hid (WAt w2 gW base Ps EI EW' ∧ EW'.length ≤ EW.length + 1 ∧ Below gW w w2) := ⟨hW', hl', (Below.mono HB1.out (by omega)).trans hb'⟩
        clear hW' hl' hb'
        go_wp2
        go_ret
        exact ⟨rfl, Ps, EI, EW', HR.out.1, Nat.le_refl _, h6, by omega, HR.out.2.1, HR.out.2.2⟩
      by_cases k8 : kd = 8
      · subst k8
        have HLo : Hid (Calls Tryz.prog 23 #[.pointer (some ⟨gW, 0, none⟩), .agg #[.int .u64 cf.seed, .int .u8 cf.batch, .int .i32 cf.rate, .int .i32 cf.mom, .int .u8 cf.decay], .string sh, .string s] w1 fun e w' => e = .returned (.bool true) ∧ ∃ Q : List PD, Ps.length ≤ Q.length ∧ Q.length ≤ 6 ∧ WAt w' gW base Q EI EW ∧ Below gW w1 w') := by
          have hok := HPk.out.2
          have hn := hok.n1
          have hq := hok.rq
          simp only at hn hq
          exact loads_any (H.out.later HB1.out) h6 cf hok.cf sh hok.sh (by rw [← hq]; exact hn) s hs
        go_wp2_with fail
        refine HLo.out.mono ?_
        rintro e w2 ⟨rfl, Q, q0, q1, hW', hb'⟩
        have HR : Hid (WAt w2 gW base Q EI EW ∧ Below gW w w2) := ⟨hW', (Below.mono HB1.out (by omega)).trans hb'⟩
        clear hW' hb' HLo
        go_wp2
        go_ret
        exact ⟨rfl, Q, EI, EW, HR.out.1, q0, q1, by omega, by omega, HR.out.2⟩
      obtain rfl : kd = 7 := by omega
      have HW1 : Hid (WAt w1 gW base Ps EI EW) := H.out.later HB1.out
      obtain ⟨aR, cR, d0, hrow2⟩ := HW1.out.pr
      obtain ⟨_, _, hv2, hcR1, hcR2, hrd2⟩ := own_read hrow2
      simp only [Value.slice.injEq, true_and] at hv2
      obtain ⟨rfl, rfl⟩ := hv2
      unfold maxLen at hcR2
      have hj := pickN_lt a (n := Ps.length) (by omega)
      obtain ⟨j, Hj⟩ : ∃ j, Hid (pickN a Ps.length = j) := ⟨_, (rfl : _ = _)⟩
      rw [Hj.out] at hj
      obtain ⟨gR, rfl, hgR1, hgR2, hgR3⟩ := hrd2 (by omega)
      have hpj := List.getElem?_eq_getElem hj
      have hmemj := List.getElem_mem hj
      have hpcj := pair_get hpj
      generalize hqe : Ps[j] = q at *
      have HQj : Hid (q ∈ Ps) := hmemj
      have HQC : Hid (∀ k, k < 8 → w1.cell? ⟨gR, j * 8 + k, none⟩ = (pairCells q)[k]?) := fun k hk => (hgR3 (j * 8 + k) (by omega)).trans (hpcj k hk)
      clear hgR3 hpcj hpj hmemj hqe hrd2 hrow2
      have HQo : Hid (q.Ok) := (HW1.out.ps q HQj.out).2.1
      obtain ⟨hx, hy, df, dh, ds, dt⟩ := q
      have p0 := HQC.out 0 (by decide)
      have p1 := HQC.out 1 (by decide)
      have p2 := HQC.out 2 (by decide)
      have p3 := HQC.out 3 (by decide)
      have p4 := HQC.out 4 (by decide)
      have p5 := HQC.out 5 (by decide)
      have p6 := HQC.out 6 (by decide)
      have p7 := HQC.out 7 (by decide)
      simp only [pairCells, Nat.add_zero, List.getElem?_cons_zero, List.getElem?_cons_succ] at p0 p1 p2 p3 p4 p5 p6 p7
      have hjn : (j : Int) < (Ps.length : Int) := by omega
      have hg1 : gW < w1.heap.size := Nat.lt_of_lt_of_le HW1.out.gb HW1.out.bw
      have lA := CellsAt.lt HA1.out
      go_wp2_with fail
      go_cut [11] (fun pv wd => pv = .pointer (some ⟨w1.heap.size, 0, none⟩) ∧ wd = (w1.alloc (.cells #[.pointer (some ⟨hx, 0, none⟩), .pointer (some ⟨hy, 0, none⟩), .int .u64 df.seed, .int .u8 df.batch, .int .i32 df.rate, .int .i32 df.mom, .int .u8 df.decay, .string dh] 71)).drew)
      case first =>
        go_region_held_law (fun w' => w'.cell? ⟨gW, 0, none⟩ = some (.slice (some ⟨gR, 0, none⟩) Ps.length cR) ∧ w'.cell? ⟨w.heap.size, 2, none⟩ = some (.int .i64 a) ∧ w'.cell? ⟨gR, j * 8, none⟩ = some (.pointer (some ⟨hx, 0, none⟩)) ∧ w'.cell? ⟨gR, j * 8 + 1, none⟩ = some (.pointer (some ⟨hy, 0, none⟩)) ∧ w'.cell? ⟨gR, j * 8 + 2, none⟩ = some (.int .u64 df.seed) ∧ w'.cell? ⟨gR, j * 8 + 3, none⟩ = some (.int .u8 df.batch) ∧ w'.cell? ⟨gR, j * 8 + 4, none⟩ = some (.int .i32 df.rate) ∧ w'.cell? ⟨gR, j * 8 + 5, none⟩ = some (.int .i32 df.mom) ∧ w'.cell? ⟨gR, j * 8 + 6, none⟩ = some (.int .u8 df.decay) ∧ w'.cell? ⟨gR, j * 8 + 7, none⟩ = some (.string dh)) (go_keep) (first | (go_at_call 17; refine (lpick_any a Ps.length ha0 ha1 (by omega) (by omega) _).mono ?_; rintro e w' ⟨rfl, rfl⟩; rw [Hj.out]))
        all_goals
          go_wp2_with fail
          go_meet
          case rel => exact ⟨rfl, rfl⟩
      case rest =>
      obtain ⟨rfl, rfl⟩ := hcut
      obtain ⟨w2, Hw2⟩ : ∃ w2, Hid ((w1.alloc (.cells #[.pointer (some ⟨hx, 0, none⟩), .pointer (some ⟨hy, 0, none⟩), .int .u64 df.seed, .int .u8 df.batch, .int .i32 df.rate, .int .i32 df.mom, .int .u8 df.decay, .string dh] 71)).drew = w2) := ⟨_, (rfl : _ = _)⟩
      have HB2 : Hid (Below w1.heap.size w1 w2) := by rw [← Hw2.out]; exact ((Below.refl _ _).alloc (Nat.le_refl _) _).drew
      have HQ2 : Hid (CellsAt w2 w1.heap.size 71 [.pointer (some ⟨hx, 0, none⟩), .pointer (some ⟨hy, 0, none⟩), .int .u64 df.seed, .int .u8 df.batch, .int .i32 df.rate, .int .i32 df.mom, .int .u8 df.decay, .string dh]) := by rw [← Hw2.out]; exact (show CellsAt (w1.alloc _) _ _ _ from CellsAt.new _ _ _ _ rfl rfl)
      rw [Hw2.out]
      clear Hw2 p0 p1 p2 p3 p4 p5 p6 p7 HQC hgR1 hgR2 d0
      have z1' : w2.cell? ⟨gQ, 1, none⟩ = some (.pointer (some ⟨gy, 0, none⟩)) := (HB2.out.cell (p := ⟨gQ, 1, none⟩) (CellsAt.lt HQ1.out)).trans z1
      obtain ⟨⟨_, ⟨aL, cL, bL, hy1, _⟩⟩, hok⟩ := HPk.out
      have hst := hok.st
      have hcf := hok.cf
      have hsh := hok.sh
      simp only at hst hcf hsh hy1
      have HY : Hid (RefRun w2 gy cf sh (.slice aL rs.length cL) st) := CellsAt.later hy1 HB2.out
      have HSY : Hid (Calls Tryz.prog 22 #[.pointer (some ⟨gy, 0, none⟩)] w2 _) := refSave_any gy cf hcf sh hsh _ st hst w2 HY.out
      rw [saves_same] at HSY
      obtain ⟨SV, HSV, hSz⟩ : ∃ SV, Hid (bs (saveL (svOf (markB cf sh) st)) = SV) ∧ SV.size ≤ 2600 := ⟨_, (rfl : _ = _), by
        rw [bs_size, svOf_cut]
        exact (saveL_length _ (svOf_cut_ok hst (markB_size cf sh))).2⟩
      rw [HSV.out] at HSY
      have HW2 : Hid (WAt w2 gW base Ps EI EW) := HW1.out.later HB2.out
      have HB2' : Hid (Below gW w w2) := (Below.mono HB1.out (by omega)).trans (Below.mono HB2.out (by omega))
      clear hy1 hok hst hcf hsh HW1
      generalize w1.heap.size = gT at *
      go_wp2_with fail
      refine HSY.out.mono ?_
      rintro e w3 ⟨rfl, hb3⟩
      have hz2 : gW < w2.heap.size := Nat.lt_of_lt_of_le HW2.out.gb HW2.out.bw
      have HW3 : Hid (WAt w3 gW base Ps EI EW ∧ Below gW w w3) := ⟨HW2.out.later hb3, HB2'.out.trans (Below.mono hb3 (by omega))⟩
      have HQ3 : Hid (CellsAt w3 gT 71 [.pointer (some ⟨hx, 0, none⟩), .pointer (some ⟨hy, 0, none⟩), .int .u64 df.seed, .int .u8 df.batch, .int .i32 df.rate, .int .i32 df.mom, .int .u8 df.decay, .string dh]) := CellsAt.later HQ2.out hb3
      clear hb3 z1' HSY HY HW2 HB2'
      have r2 := CellsAt.cell HQ3.out 2
      have r3 := CellsAt.cell HQ3.out 3
      have r4 := CellsAt.cell HQ3.out 4
      have r5 := CellsAt.cell HQ3.out 5
      have r6 := CellsAt.cell HQ3.out 6
      have r7 := CellsAt.cell HQ3.out 7
      simp only [List.getElem?_cons_zero, List.getElem?_cons_succ] at r2 r3 r4 r5 r6 r7
      have HLo : Hid (Calls Tryz.prog 23 #[.pointer (some ⟨gW, 0, none⟩), .agg #[.int .u64 df.seed, .int .u8 df.batch, .int .i32 df.rate, .int .i32 df.mom, .int .u8 df.decay], .string dh, .string SV] w3 fun e w' => e = .returned (.bool true) ∧ ∃ Q : List PD, Ps.length ≤ Q.length ∧ Q.length ≤ 6 ∧ WAt w' gW base Q EI EW ∧ Below gW w3 w') := by
        have hok := HQo.out
        have hn := hok.n1
        have hq := hok.rq
        simp only at hn hq
        exact loads_any HW3.out.1 h6 df hok.cf dh hok.sh (by rw [← hq]; exact hn) SV (by unfold maxLen; omega)
      go_wp2_with fail
      refine HLo.out.mono ?_
      rintro e w4 ⟨rfl, Q, q0, q1, hW', hb'⟩
      have HR : Hid (WAt w4 gW base Q EI EW ∧ Below gW w w4) := ⟨hW', HW3.out.2.trans hb'⟩
      clear hW' hb' HLo HW3
      go_wp2
      go_ret
      exact ⟨rfl, Q, EI, EW, HR.out.1, q0, q1, by omega, by omega, HR.out.2⟩
end Go.Proofs.YtfpodnleimhohabGreatDoor

/-
  WALKS: the end of a script, with saves.
-/
namespace Go.Proofs.YtfpodnleimhohabGreatDoor
open Go.RowKit
set_option linter.unusedVariables false

set_option maxRecDepth 100000 in
set_option maxHeartbeats 8000000 in
theorem last_all {w : World} {gW base : Nat} {Ps : List PD} {EI EW : List Ent} (h : WAt w gW base Ps EI EW) (h1 : EI.length ≤ 5000000) (h2 : EW.length ≤ 5000000) (h6 : Ps.length ≤ 6) :
    Calls Tryz.prog 11 #[.pointer (some ⟨gW, 0, none⟩), .bool true] w fun e w' => e = .returned (.bool true) ∧ Below gW w w' := by
  have H : Hid (WAt w gW base Ps EI EW) := h
  clear h
  go_enter Tryz.func11, Tryz.ntmps11
  go_wp2_with fail
  go_loopg [5] Ps.length (fun gk iv wr => ∃ (i : Nat) (EWr : List Ent), gk + i = Ps.length ∧ iv = .int .i64 i ∧ EWr.length ≤ EW.length + 8 * i ∧ Hid (WAt wr gW base Ps EI EWr ∧ Below gW w wr))
  case atStart => exact ⟨0, EW, by omega, rfl, by omega, ⟨H.out, Below.refl _ _⟩⟩
  case round =>
    obtain ⟨i, EWr, hgi, rfl, hEW, HT⟩ := hrel
    obtain ⟨gK, hgK⟩ : ∃ gK, gK = gk := ⟨_, rfl⟩
    clear H
    obtain ⟨aP, cP, d0, hrow⟩ := HT.out.1.pr
    obtain ⟨_, _, hv, hcP1, hcP2, hrd⟩ := own_read hrow
    simp only [Value.slice.injEq, true_and] at hv
    obtain ⟨rfl, rfl⟩ := hv
    unfold maxLen at hcP2
    have hg : gW < wr.heap.size := Nat.lt_of_lt_of_le HT.out.1.gb HT.out.1.bw
    by_cases hlt : i < Ps.length
    · obtain ⟨gP, rfl, hgP1, hgP2, hgP3⟩ := hrd (by omega)
      have hpi := List.getElem?_eq_getElem hlt
      have hmem := List.getElem_mem hlt
      have hpc := pair_get hpi
      generalize hpe : Ps[i] = p at *
      have HPC : Hid (∀ j, j < 8 → wr.cell? ⟨gP, i * 8 + j, none⟩ = (pairCells p)[j]?) := fun j hj => (hgP3 (i * 8 + j) (by omega)).trans (hpc j hj)
      have Hmem : Hid (p ∈ Ps) := hmem
      clear hgP3 hpc hpi hpe hmem hrd hrow
      have HAsk : Hid (∀ (w1 : World) (E1 : List Ent), WAt w1 gW base Ps EI E1 → E1.length ≤ 10000000 → _) := fun w1 E1 hw he => asks_any hw (by omega) he p Hmem.out 3 0 0 ⟨#[]⟩ (Nat.zero_le _) (by decide)
      have HAs6 : Hid (∀ (w1 : World) (E1 : List Ent), WAt w1 gW base Ps EI E1 → E1.length ≤ 10000000 → _) := fun w1 E1 hw he => asks_all hw (by omega) he p Hmem.out 6 0 0 ⟨#[]⟩ (Nat.zero_le _)
      have HWei : Hid (∀ (w1 : World) (E1 : List Ent) (c : Int), WAt w1 gW base Ps EI E1 → E1.length ≤ 10000000 → _) := fun w1 E1 c hw he => wweights_any hw (by omega) he p Hmem.out c
      obtain ⟨gx, gy, cf, sh, rs, st⟩ := p
      have p0 := HPC.out 0 (by decide)
      have p1 := HPC.out 1 (by decide)
      have p2 := HPC.out 2 (by decide)
      have p3 := HPC.out 3 (by decide)
      have p4 := HPC.out 4 (by decide)
      have p5 := HPC.out 5 (by decide)
      have p6 := HPC.out 6 (by decide)
      have p7 := HPC.out 7 (by decide)
      simp only [pairCells, Nat.add_zero, List.getElem?_cons_zero, List.getElem?_cons_succ] at p0 p1 p2 p3 p4 p5 p6 p7
      have hii : (i : Int) < (Ps.length : Int) := by omega
      go_wp2_with fail
      have HB1 : Hid (Below wr.heap.size wr (wr.alloc (.cells #[.pointer (some ⟨gx, 0, none⟩), .pointer (some ⟨gy, 0, none⟩), .int .u64 cf.seed, .int .u8 cf.batch, .int .i32 cf.rate, .int .i32 cf.mom, .int .u8 cf.decay, .string sh] 71))) := (Below.refl _ _).alloc (Nat.le_refl _) _
      have HQ1 : Hid (CellsAt (wr.alloc (.cells #[.pointer (some ⟨gx, 0, none⟩), .pointer (some ⟨gy, 0, none⟩), .int .u64 cf.seed, .int .u8 cf.batch, .int .i32 cf.rate, .int .i32 cf.mom, .int .u8 cf.decay, .string sh] 71)) wr.heap.size 71 [.pointer (some ⟨gx, 0, none⟩), .pointer (some ⟨gy, 0, none⟩), .int .u64 cf.seed, .int .u8 cf.batch, .int .i32 cf.rate, .int .i32 cf.mom, .int .u8 cf.decay, .string sh]) := CellsAt.new _ _ _ _ rfl rfl
      generalize wr.alloc (.cells #[.pointer (some ⟨gx, 0, none⟩), .pointer (some ⟨gy, 0, none⟩), .int .u64 cf.seed, .int .u8 cf.batch, .int .i32 cf.rate, .int .i32 cf.mom, .int .u8 cf.decay, .string sh] 71) = w1 at *
      have HW1 : Hid (WAt w1 gW base Ps EI EWr ∧ Below gW w w1) := ⟨HT.out.1.later HB1.out, HT.out.2.trans (Below.mono HB1.out (by omega))⟩
      have hgz := hg
      clear p0 p1 p2 p3 p4 p5 p6 p7 HPC HT HB1 hgP1 hgP2 d0 hg
      generalize wr.heap.size = gQ at *
      refine (HAsk.out _ EWr HW1.out.1 (by omega)).mono ?_
      rintro e w2 ⟨rfl, E2, hW2, hl2, hb2, hk2⟩
      have H2 : Hid (WAt w2 gW base Ps EI E2 ∧ Below gW w w2 ∧ CellsAt w2 gQ 71 [.pointer (some ⟨gx, 0, none⟩), .pointer (some ⟨gy, 0, none⟩), .int .u64 cf.seed, .int .u8 cf.batch, .int .i32 cf.rate, .int .i32 cf.mom, .int .u8 cf.decay, .string sh]) := ⟨hW2, HW1.out.2.trans hb2, hk2.cells HQ1.out⟩
      have hE2 : E2.length ≤ EW.length + 8 * i + 1 := by omega
      clear hW2 hl2 hb2 hk2 HW1 HQ1
      go_wp2_with fail
      generalize decide ((i : Int) < (Ps.length : Int)) = q9
      go_loopg [7, 8] 6 (fun gq ov cv wq => ∃ (c : Nat) (E3 : List Ent), gq + c = 6 ∧ cv = .int .i64 ((c : Int) - 1) ∧ ov = .bool true ∧ E3.length ≤ EW.length + 8 * i + 1 + c ∧ Hid (WAt wq gW base Ps EI E3 ∧ Below gW w wq ∧ CellsAt wq gQ 71 [.pointer (some ⟨gx, 0, none⟩), .pointer (some ⟨gy, 0, none⟩), .int .u64 cf.seed, .int .u8 cf.batch, .int .i32 cf.rate, .int .i32 cf.mom, .int .u8 cf.decay, .string sh]))
      case atStart => exact ⟨0, E2, by omega, rfl, rfl, by omega, H2⟩
      case round =>
        obtain ⟨c, E3, hgc, rfl, rfl, hE3, HT2⟩ := hrel
        clear H2
        by_cases hcl : c < 6
        · have hc4 : decide ((c : Int) - 1 ≤ 4) = true := by simp; omega
          have z0 := CellsAt.cell HT2.out.2.2 0
          have z1 := CellsAt.cell HT2.out.2.2 1
          have z2 := CellsAt.cell HT2.out.2.2 2
          have z3 := CellsAt.cell HT2.out.2.2 3
          have z4 := CellsAt.cell HT2.out.2.2 4
          have z5 := CellsAt.cell HT2.out.2.2 5
          have z6 := CellsAt.cell HT2.out.2.2 6
          have z7 := CellsAt.cell HT2.out.2.2 7
          simp only [List.getElem?_cons_zero, List.getElem?_cons_succ] at z0 z1 z2 z3 z4 z5 z6 z7
          go_wp2_with fail
          refine (HWei.out _ E3 _ HT2.out.1 (by omega)).mono ?_
          rintro e w3 ⟨rfl, E4, hW3, hl3, hb3, hk3⟩
          have HT3 : Hid (WAt w3 gW base Ps EI E4 ∧ Below gW w w3 ∧ CellsAt w3 gQ 71 [.pointer (some ⟨gx, 0, none⟩), .pointer (some ⟨gy, 0, none⟩), .int .u64 cf.seed, .int .u8 cf.batch, .int .i32 cf.rate, .int .i32 cf.mom, .int .u8 cf.decay, .string sh]) := ⟨hW3, HT2.out.2.1.trans hb3, hk3.cells HT2.out.2.2⟩
          have hE4 : E4.length ≤ EW.length + 8 * i + 1 + (c + 1) := by omega
          clear hW3 hl3 hb3 hk3 HT2 z0 z1 z2 z3 z4 z5 z6 z7
          go_wp2
          go_roundg (gk - 1)
          case measure => omega
          case rel => exact ⟨c + 1, E4, by omega, by go_num, rfl, hE4, HT3⟩
        · obtain rfl : c = 6 := by omega
          have z0 := CellsAt.cell HT2.out.2.2 0
          have z1 := CellsAt.cell HT2.out.2.2 1
          have z2 := CellsAt.cell HT2.out.2.2 2
          have z3 := CellsAt.cell HT2.out.2.2 3
          have z4 := CellsAt.cell HT2.out.2.2 4
          have z5 := CellsAt.cell HT2.out.2.2 5
          have z6 := CellsAt.cell HT2.out.2.2 6
          have z7 := CellsAt.cell HT2.out.2.2 7
          simp only [List.getElem?_cons_zero, List.getElem?_cons_succ] at z0 z1 z2 z3 z4 z5 z6 z7
          go_wp2_with fail
          refine (HAs6.out _ E3 HT2.out.1 (by omega)).mono ?_
          rintro e w3 ⟨rfl, E4, hW3, hl3, hb3, hk3⟩
          have HT3 : Hid (WAt w3 gW base Ps EI E4 ∧ Below gW w w3) := ⟨hW3, HT2.out.2.1.trans hb3⟩
          have hE4 : E4.length ≤ EW.length + 8 * (i + 1) := by omega
          clear hW3 hl3 hb3 hk3 HT2 z0 z1 z2 z3 z4 z5 z6 z7
          go_wp2
          go_roundg (gK - 1)
          case measure => omega
          case rel => exact ⟨i + 1, E4, by omega, by go_num, hE4, HT3⟩
    · obtain rfl : i = Ps.length := by omega
      go_wp2_with fail
      refine (looksW_any HT.out.1 (by omega) (by omega)).mono ?_
      rintro e w2 ⟨rfl, hb2⟩
      have HB2 : Hid (Below gW w w2) := HT.out.2.trans (Below.mono hb2 (by omega))
      clear hb2
      go_wp2
      go_ret
      exact ⟨rfl, HB2.out⟩
end Go.Proofs.YtfpodnleimhohabGreatDoor

/-
  WALKS: a script of all acts is played.
-/
namespace Go.Proofs.YtfpodnleimhohabGreatDoor
open Go.RowKit
set_option linter.unusedVariables false

theorem act_all {w : World} {gW base : Nat} {Ps : List PD} {EI EW : List Ent} (h : WAt w gW base Ps EI EW) (h1 : EI.length ≤ 10000000) (h2 : EW.length ≤ 10000000) (h6 : Ps.length ≤ 6) (kd r a : Int) (s : ByteArray) (hs : s.size ≤ maxLen) (hk : 1 ≤ kd ∧ kd ≤ 8)
    (hr0 : -9223372036854775808 ≤ r) (hr1 : r ≤ 9223372036854775807) (ha0 : -9223372036854775808 ≤ a) (ha1 : a ≤ 9223372036854775807) :
    Calls Tryz.prog 9 #[.pointer (some ⟨gW, 0, none⟩), .agg #[.int .i64 kd, .int .i64 r, .int .i64 a, .string s]] w fun e w' => e = .returned (.bool true) ∧ ∃ Ps' EI' EW', WAt w' gW base Ps' EI' EW' ∧ Ps.length ≤ Ps'.length ∧ Ps'.length ≤ 6 ∧ EI'.length ≤ EI.length + 1 ∧ EW'.length ≤ EW.length + 1 ∧ Below gW w w' := by
  by_cases h5 : kd ≤ 5
  · refine (act_any h h1 h2 h6 kd r a s hs ⟨hk.1, h5⟩ hr0 hr1).mono ?_
    rintro e w' ⟨rfl, P, E, F, q1, q2, q3, q4, q5⟩
    exact ⟨rfl, P, E, F, q1, by omega, by omega, q3, q4, q5⟩
  · exact act_more h h1 h2 h6 kd r a s hs ⟨by omega, hk.2⟩ hr0 hr1 ha0 ha1

set_option maxRecDepth 100000 in
set_option maxHeartbeats 8000000 in
theorem plays_all {w : World} {gW base : Nat} {Ps : List PD} {EI EW : List Ent} (h : WAt w gW base Ps EI EW) (h1 : EI.length ≤ 1000) (h2 : EW.length ≤ 1000) (h6 : Ps.length ≤ 6) (a : Option Addr) (len cap : Nat) (K R A : Nat → Int) (S : Nat → ByteArray) (hA : IsActs w gW a len cap K R A S) (hl : len ≤ 1048576) :
    Calls Tryz.prog 5 #[.pointer (some ⟨gW, 0, none⟩), .slice a len cap, .int .i64 8] w fun e w' => e = .returned (.bool true) ∧ Below gW w w' := by
  have H : Hid (WAt w gW base Ps EI EW) := h
  have hg0 : gW < w.heap.size := Nat.lt_of_lt_of_le h.gb h.bw
  have HA : Hid (IsActs w gW a len cap K R A S) := hA
  clear h hA
  go_enter Tryz.func5, Tryz.ntmps5
  go_wp2_with fail
  go_loopg [7] len (fun gk iv wr => ∃ (i : Nat) (Pr : List PD) (Er Fr : List Ent), gk + i = len ∧ iv = .int .i64 i ∧ Pr.length ≤ 6 ∧ Er.length ≤ 1000 + i ∧ Fr.length ≤ 1000 + i ∧ Hid (WAt wr gW base Pr Er Fr ∧ Below gW w wr))
  case atStart => exact ⟨0, Ps, EI, EW, by omega, rfl, h6, by omega, by omega, ⟨H.out, Below.refl _ _⟩⟩
  case round =>
    obtain ⟨i, Pr, Er, Fr, hgi, rfl, hPr, hEr, hFr, HT⟩ := hrel
    clear H
    have hg : gW < wr.heap.size := Nat.lt_of_lt_of_le HT.out.1.gb HT.out.1.bw
    by_cases hlt : i < len
    · obtain ⟨b, off, rfl, hc1, hc2, hbB, hcell⟩ := HA.out.resolve_left (by omega)
      obtain ⟨⟨x0, x1, x2, x3⟩, r0, r1, s0, a0, a1⟩ := hcell i hlt
      have y0 := (HT.out.2.cell (p := ⟨b, off + i * 4, none⟩) hbB).trans x0
      have y1 := (HT.out.2.cell (p := ⟨b, off + i * 4 + 1, none⟩) hbB).trans x1
      have y2 := (HT.out.2.cell (p := ⟨b, off + i * 4 + 2, none⟩) hbB).trans x2
      have y3 := (HT.out.2.cell (p := ⟨b, off + i * 4 + 3, none⟩) hbB).trans x3
      clear x0 x1 x2 x3 hcell
      unfold maxLen at hc2
      have hii : (i : Int) < (len : Int) := by omega
      generalize K i = kd at *
      generalize R i = rr at *
      generalize A i = aa at *
      generalize S i = ss at *
      by_cases hk : 1 ≤ kd ∧ kd ≤ 8
      · have e1 : decide (kd < 1) = false := by simp; omega
        have e2 : decide ((8 : Int) < kd) = false := by simp; omega
        go_wp2_with fail
        refine (act_all HT.out.1 (by omega) (by omega) (by omega) kd rr aa ss s0 hk r0 r1 a0 a1).mono ?_
        rintro e w2 ⟨rfl, P2, E2, F2, hW2, hp1, hp2, he2, hf2, hb2⟩
        have HT2 : Hid (WAt w2 gW base P2 E2 F2 ∧ Below gW w w2) := ⟨hW2, HT.out.2.trans hb2⟩
        have hgz : gW < w2.heap.size := Nat.lt_of_lt_of_le hW2.gb hW2.bw
        clear hW2 hb2 HT y0 y1 y2 y3 hg
        go_wp2_with fail
        refine (looksW_any HT2.out.1 (by omega) (by omega)).mono ?_
        rintro e w3 ⟨rfl, hb3⟩
        have HT3 : Hid (WAt w3 gW base P2 E2 F2 ∧ Below gW w w3) := ⟨HT2.out.1.later hb3, HT2.out.2.trans (Below.mono hb3 (by omega))⟩
        clear hb3 HT2 hgz
        go_wp2
        go_roundg (gk - 1)
        case measure => omega
        case rel => exact ⟨i + 1, P2, E2, F2, by omega, by go_num, by omega, by omega, by omega, HT3⟩
      · by_cases hk1 : kd < 1
        · have e1 : decide (kd < 1) = true := by simp; omega
          clear hk
          go_wp2
          go_roundg (gk - 1)
          case measure => omega
          case rel => exact ⟨i + 1, Pr, Er, Fr, by omega, by go_num, hPr, by omega, by omega, HT⟩
        · have e1 : decide (kd < 1) = false := by simp; omega
          have e2 : decide ((8 : Int) < kd) = true := by simp; omega
          clear hk
          go_wp2
          go_roundg (gk - 1)
          case measure => omega
          case rel => exact ⟨i + 1, Pr, Er, Fr, by omega, by go_num, hPr, by omega, by omega, HT⟩
    · go_wp2_with fail
      refine (last_all HT.out.1 (by omega) (by omega) (by omega)).mono ?_
      rintro e w2 ⟨rfl, hb2⟩
      have HB2 : Hid (Below gW w w2) := HT.out.2.trans hb2
      clear hb2
      go_wp2
      go_ret
      exact ⟨rfl, HB2.out⟩
end Go.Proofs.YtfpodnleimhohabGreatDoor

/-
  WALKS: All.
-/
namespace Go.Proofs.YtfpodnleimhohabGreatDoor
open Go.RowKit
set_option linter.unusedVariables false

set_option maxRecDepth 100000 in
set_option maxHeartbeats 4000000 in
theorem all_walk (w : World) (hL : LowAt w) (r : Raw) (hw : r.Wf) (s : ByteArray) (hm : s.size ≤ maxLen) (r2 : Raw) (hw2 : r2.Wf) (s2 : ByteArray) (hm2 : s2.size ≤ maxLen) (a : Option Addr) (len cap : Nat) (K R A : Nat → Int) (S : Nat → ByteArray) (hA : IsActs w w.heap.size a len cap K R A S) (hl : len ≤ 1048576) :
    Calls Tryz.prog 3 #[.agg r.cells.toArray, .string s, .agg r2.cells.toArray, .string s2, .slice a len cap] w fun e w' => e = .returned (.bool true) ∧ Below w.heap.size w w' := by
  have HB : Hid (∀ w1 gW base, WAt w1 gW base [] [] [] → _) := fun w1 gW base q => begins_any (w := w1) (gW := gW) (base := base) q (by decide) r hw s hm
  have HB' : Hid (∀ w1 gW base Q, Q.length ≤ 1 → WAt w1 gW base Q [] [] → _) := fun w1 gW base Q hQ q => begins_any (w := w1) (gW := gW) (base := base) q (by omega) r2 hw2 s2 hm2
  have HL : Hid (LowAt w) := hL
  have HA : Hid (IsActs w w.heap.size a len cap K R A S) := hA
  clear hL hA
  obtain ⟨sd, bt, ra, mo, de⟩ := r
  obtain ⟨sd2, bt2, ra2, mo2, de2⟩ := r2
  simp only [Raw.cells] at HB HB' ⊢
  obtain ⟨w0, Hw0⟩ : ∃ w0, Hid ((w.alloc (.cells #[.int .u64 sd, .int .u8 bt, .int .i32 ra, .int .i32 mo, .int .u8 de] 24)).alloc (.cells #[.int .u64 sd2, .int .u8 bt2, .int .i32 ra2, .int .i32 mo2, .int .u8 de2] 24) = w0) := ⟨_, (rfl : _ = _)⟩
  have hs0 : w0.heap.size = w.heap.size + 2 := by rw [← Hw0.out]; simp
  have HB0 : Hid (Below w.heap.size w w0) := by rw [← Hw0.out]; exact ((Below.refl _ _).alloc (Nat.le_refl _) _).alloc (by simp) _
  have HC0 : Hid (CellsAt w0 (w.heap.size + 1) 24 [.int .u64 sd2, .int .u8 bt2, .int .i32 ra2, .int .i32 mo2, .int .u8 de2]) := by rw [← Hw0.out]; exact CellsAt.new _ _ _ _ rfl (by simp)
  obtain ⟨w1, Hw1⟩ : ∃ w1, Hid (w1 = w0.alloc (.cells #[.slice none 0 0, .slice none 0 0, .slice none 0 0, .slice none 0 0, .slice none 0 0] 35)) := ⟨_, (rfl : _ = _)⟩
  have HL0 : Hid (LowAt w0) := fun i hi => (HB0.out.cell (p := ⟨0, i, none⟩) HL.out.pos).trans (HL.out i hi)
  have HW1 : Hid (WAt w1 (w.heap.size + 2) (w.heap.size + 3) [] [] []) := by
    have q := world_new w0 HL0.out w1 Hw1.out
    rw [hs0] at q
    exact q
  have HB1 : Hid (Below w.heap.size w w1) := by rw [Hw1.out]; exact HB0.out.alloc HB0.out.size _
  have HC1 : Hid (CellsAt w1 (w.heap.size + 1) 24 [.int .u64 sd2, .int .u8 bt2, .int .i32 ra2, .int .i32 mo2, .int .u8 de2]) := by rw [Hw1.out]; exact CellsAt.alloc HC0.out _
  have HP : Hid (∀ w2 Q, WAt w2 (w.heap.size + 2) (w.heap.size + 3) Q [] [] → Q.length ≤ 2 → Below w.heap.size w w2 → Calls Tryz.prog 5 #[.pointer (some ⟨w.heap.size + 2, 0, none⟩), .slice a len cap, .int .i64 8] w2 fun e w' => e = .returned (.bool true) ∧ Below w.heap.size w2 w') := fun w2 Q q1 q2 q3 => by
    refine (plays_all q1 (by simp) (by simp) (by omega) a len cap K R A S ?_ hl).mono fun e w' h => ⟨h.1, Below.mono h.2 (by omega)⟩
    rcases HA.out with h | ⟨b, off, e0, e1, e2, e3, e4⟩
    · exact .inl h
    · refine .inr ⟨b, off, e0, e1, e2, by omega, fun i hi => ?_⟩
      obtain ⟨⟨x0, x1, x2, x3⟩, x4⟩ := e4 i hi
      exact ⟨⟨(q3.cell (p := ⟨b, off + i * 4, none⟩) e3).trans x0, (q3.cell (p := ⟨b, off + i * 4 + 1, none⟩) e3).trans x1, (q3.cell (p := ⟨b, off + i * 4 + 2, none⟩) e3).trans x2, (q3.cell (p := ⟨b, off + i * 4 + 3, none⟩) e3).trans x3⟩, x4⟩
  clear HA HL HL0 HB0 HC0
  go_enter Tryz.func3, Tryz.ntmps3
  go_wp2_with fail
  have hz : w.heap.size + 1 + 1 = w.heap.size + 2 := rfl
  rw [Hw0.out, ← Hw1.out]
  refine (HB.out _ _ _ HW1.out).mono ?_
  rintro e w2 ⟨rfl, Q, hQ, hW2, hb2⟩
  have HW2 : Hid (WAt w2 (w.heap.size + 2) (w.heap.size + 3) Q [] [] ∧ Below w.heap.size w w2) := ⟨hW2, HB1.out.trans (Below.mono hb2 (by omega))⟩
  have HC2 : Hid (CellsAt w2 (w.heap.size + 1) 24 [.int .u64 sd2, .int .u8 bt2, .int .i32 ra2, .int .i32 mo2, .int .u8 de2]) := CellsAt.kept HC1.out hb2 (by omega)
  have hQ' : Q.length ≤ 1 := by simpa using hQ
  clear hW2 hb2 HW1 HB1 HC1
  have c0 := CellsAt.cell HC2.out 0
  have c1 := CellsAt.cell HC2.out 1
  have c2 := CellsAt.cell HC2.out 2
  have c3 := CellsAt.cell HC2.out 3
  have c4 := CellsAt.cell HC2.out 4
  simp only [List.getElem?_cons_zero, List.getElem?_cons_succ] at c0 c1 c2 c3 c4
  go_wp2_with fail
  refine (HB'.out _ _ _ Q hQ' HW2.out.1).mono ?_
  rintro e w3 ⟨rfl, Q3, hQ3, hW3, hb3⟩
  have HW3 : Hid (WAt w3 (w.heap.size + 2) (w.heap.size + 3) Q3 [] [] ∧ Below w.heap.size w w3) := ⟨hW3, HW2.out.2.trans (Below.mono hb3 (by omega))⟩
  have hQ3' : Q3.length ≤ 2 := by omega
  clear hW3 hb3 HW2 HC2 c0 c1 c2 c3 c4
  go_wp2_with fail
  refine (HP.out _ Q3 HW3.out.1 hQ3' HW3.out.2).mono ?_
  rintro e w4 ⟨rfl, hb4⟩
  have HB4 : Hid (Below w.heap.size w w4) := HW3.out.2.trans hb4
  clear hb4 HW3
  go_wp2
  go_ret
  exact ⟨rfl, HB4.out⟩
end Go.Proofs.YtfpodnleimhohabGreatDoor

/-
  THE STATEMENT 'All', where what it reads is of small bulk: its row, and its card.
-/
namespace Go.Proofs.YtfpodnleimhohabGreatDoor
open Go.ChangeShapes Go.WideShapes Go.ChangeAt Go.RowKit
open Go.ChangeMaps (open_string shut_string)
set_option linter.unusedVariables false

theorem gLow : Tryz.prog.globalNamed "drill/drillref.low" = some 0 := by kernel_rfl
theorem gLowType : (Tryz.prog.globals[0]?).map (·.type) = some 190 := by kernel_rfl
theorem low_of {W : World} (h : laidMetH Tryz.prog Rows.allUptoRow.laid W) : LowAt W := by
  have t : Lib.TabIs Tryz.prog W "drill/drillref.low" .i64 [0, 0, 128, 2048, 65536] :=
    Lib.tabIs_of_head (rest := []) gLow gLowType Tryz.underlying190 Tryz.underlying3 (by kernel_rfl) (by kernel_rfl) h
  intro i hi
  match i, hi with
  | 0, _ => exact t.cell gLow 0 (by decide)
  | 1, _ => exact t.cell gLow 1 (by decide)
  | 2, _ => exact t.cell gLow 2 (by decide)
  | 3, _ => exact t.cell gLow 3 (by decide)
  | 4, _ => exact t.cell gLow 4 (by decide)

set_option maxRecDepth 100000 in
theorem open_acts {H : Type} {enc : TypeId × Value → H} {W : World} {base : Nat} {spare : Nat → Bool} {held : Bool} {fuel : Nat} {a : Option Addr} {len cap : Nat} {x : DataW H × List MemPlace}
    (h : DataW.trod enc Tryz.prog W base spare held fuel 25 [.slice a len cap] = some x) : ∃ K R A S, IsActs W W.heap.size a len cap K R A S := by
  rcases Go.Deep.open_slice (P := Tryz.prog) Tryz.underlying25 h with ⟨hcs, _⟩ | ⟨x, l, c, m, n, D, Pl, hcs, hb, hl, hm, hmm, _, hx⟩
  · simp at hcs
    obtain ⟨rfl, rfl, rfl⟩ := hcs
    exact ⟨fun _ => 0, fun _ => 0, fun _ => 0, fun _ => ByteArray.empty, .inl rfl⟩
  · simp at hcs
    obtain ⟨rfl, rfl, rfl⟩ := hcs
    by_cases h0 : len = 0
    · exact ⟨fun _ => 0, fun _ => 0, fun _ => 0, fun _ => ByteArray.empty, .inl h0⟩
    have hlm : len ≤ m := by rw [hmm]; split <;> omega
    have each : ∀ i, i < m → ∃ q : Int × Int × Int × ByteArray, (W.cell? (x.add (i * 4)) = some (.int .i64 q.1) ∧ W.cell? (x.add (i * 4 + 1)) = some (.int .i64 q.2.1) ∧ W.cell? (x.add (i * 4 + 2)) = some (.int .i64 q.2.2.1) ∧ W.cell? (x.add (i * 4 + 3)) = some (.string q.2.2.2)) ∧ -9223372036854775808 ≤ q.2.1 ∧ q.2.1 ≤ 9223372036854775807 ∧ q.2.2.2.size ≤ maxLen ∧ -9223372036854775808 ≤ q.2.2.1 ∧ q.2.2.1 ≤ 9223372036854775807 := by
      intro i hi
      obtain ⟨cs', h1, h2⟩ := hx i hi
      rw [show Tryz.prog.cellsOf 48 = 4 by kernel_rfl] at h1
      obtain ⟨_, hlen, hcell⟩ := World.cells?_some h1
      obtain ⟨xs, k, hk, hxy, _, hxl, hf⟩ := DataW.trod_struct Tryz.underlying48 h2
      match xs, hxl, cs', hlen with
      | [y0, y1, y2, y3], _, [v0, v1, v2, v3], _ =>
        have g0 := hf 0 _ rfl
        have g1 := hf 1 _ rfl
        have g2 := hf 2 _ rfl
        have g3 := hf 3 _ rfl
        simp [show Tryz.prog.cellsOf 3 = 1 by kernel_rfl, show Tryz.prog.cellsOf 9 = 1 by kernel_rfl] at g0 g1 g2 g3
        have e0 := hcell 0 (by omega)
        have e1 := hcell 1 (by omega)
        have e2 := hcell 2 (by omega)
        have e3 := hcell 3 (by omega)
        rw [Go.Deep.add_add] at e0 e1 e2 e3
        obtain ⟨z0, hz0, _, wz0⟩ := DataW.trod_int Tryz.underlying3 g0
        obtain ⟨z1, hz1, _, wz1⟩ := DataW.trod_int Tryz.underlying3 g1
        obtain ⟨z2, hz2, _, wz2⟩ := DataW.trod_int Tryz.underlying3 g2
        obtain ⟨z3, hz3, _, wz3⟩ := DataW.trod_string Tryz.underlying9 g3
        simp at hz0 hz1 hz2 hz3
        have b1 := bounds_i64 wz1
        have b2 := bounds_i64 wz2
        exact ⟨(z0, z1, z2, z3), ⟨by simpa [hz0] using e0, by simpa [hz1] using e1, by simpa [hz2] using e2, by simpa [hz3] using e3⟩, by show _ ≤ z1; omega, by show z1 ≤ _; omega, wz3, by show _ ≤ z2; omega, by show z2 ≤ _; omega⟩
    obtain ⟨q, hq⟩ := Go.Deep.choose_lt each
    obtain ⟨b, off, spot⟩ := x
    have c0 := (hq 0 (by omega)).1.1
    have hspot : spot = none := by simpa [Addr.add] using World.cell?_spot c0
    subst hspot
    have hlt : b < W.heap.size := by simpa [Addr.add] using World.block_lt_of_cell? W _ c0
    refine ⟨fun i => (q i).1, fun i => (q i).2.1, fun i => (q i).2.2.1, fun i => (q i).2.2.2, .inr ⟨b, off, rfl, hl, hm, hlt, fun i hi => ?_⟩⟩
    have := hq i (by omega)
    rw [add_plain, add_plain, add_plain, add_plain] at this
    simpa [Nat.add_assoc] using this

theorem bulk_one {H : Type} (x : DataW H) : 1 ≤ Rows.uptoBulk x := by
  cases x with
  | lit l => cases l <;> simp [Rows.uptoBulk]
  | nil => simp [Rows.uptoBulk]
  | ptr d => simp [Rows.uptoBulk]
  | slice elems spare => simp [Rows.uptoBulk]
  | agg parts => simp [Rows.uptoBulk]
  | iface t d => simp [Rows.uptoBulk]
  | map entries => simp [Rows.uptoBulk]
  | held h => simp [Rows.uptoBulk]
theorem bulk_many {H : Type} (l : List (DataW H)) : l.length ≤ Rows.uptoBulkAll l := by
  induction l with
  | nil => simp [Rows.uptoBulkAll]
  | cons x r ih =>
    have := bulk_one x
    simp only [Rows.uptoBulkAll, List.length_cons]
    omega
theorem acts_len {H : Type} {enc : TypeId × Value → H} {W : World} {base : Nat} {spare : Nat → Bool} {held : Bool} {fuel : Nat} {a : Option Addr} {len cap : Nat} {d : DataW H} {p : List MemPlace}
    (h : DataW.trod enc Tryz.prog W base spare held fuel 25 [.slice a len cap] = some (d, p)) (hk : Rows.uptoBulk d ≤ 1048576) : len ≤ 1048576 := by
  rcases Go.Deep.open_slice (P := Tryz.prog) Tryz.underlying25 h with ⟨hcs, _⟩ | ⟨x, l, c, m, n, D, Pl, hcs, hb, hl, hm, hmm, hx, hc⟩
  · simp at hcs
    omega
  · simp at hcs
    obtain ⟨rfl, rfl, rfl⟩ := hcs
    simp only [Prod.mk.injEq] at hx
    have := bulk_many ((List.range len).map D)
    rw [hx.1] at hk
    simp only [Rows.uptoBulk] at hk
    simp at this
    omega

set_option maxRecDepth 100000 in
theorem all_contract (H : Type) (enc : TypeId × Value → H) (W : World) (base : Nat) (args : Array Value) (ds gs : List (DataW H)) (before : List MemPlace)
    (hval : ∀ (j : Nat) t v, Tryz.f3.params[j]? = some t → args[j]? = some v → Value.okWide Tryz.prog W .any base t v)
    (hW : DataW.Whole enc Tryz.prog Tryz.f3.params.toList Rows.allSpec.vars false W args.toList ds gs before) (hk : Rows.uptoSmall H (ds ++ gs) = true) (hL : laidMetH Tryz.prog Rows.allUptoRow.laid W) :
    Calls Tryz.prog 3 args W fun e W' => ∃ v, e = .returned v ∧ Rows.allSpec.post enc Tryz.prog Tryz.f3 false true false false W args v W' := by
  have hW' := hW
  obtain ⟨p, q, hA0, hV, rfl, hfz, hnd⟩ := hW
  have hA : DataW.TrodAll enc Tryz.prog W 0 (fun _ => true) true Tryz.f3.params.toList args.toList ds p := hA0
  rw [Tryz.params3] at hA hval
  obtain ⟨v0, vs0, d0, ds0, p0, q0, hargs, rfl, rfl, h0, r0⟩ := trodAll_cons hA
  obtain ⟨v1, vs1, d1, ds1, p1, q1, rfl, rfl, rfl, h1, r1⟩ := trodAll_cons r0
  obtain ⟨v3, vs3, d3, ds3, p3, q3, rfl, rfl, rfl, h3, r3⟩ := trodAll_cons r1
  obtain ⟨v4, vs4, d4, ds4, p4, q4, rfl, rfl, rfl, h4, r4⟩ := trodAll_cons r3
  obtain ⟨v2, vs2, d2, ds2, p2, q2, rfl, rfl, rfl, h2, r2⟩ := trodAll_cons r4
  obtain ⟨rfl, rfl, rfl⟩ := trodAll_nil r2
  obtain rfl : args = #[v0, v1, v3, v4, v2] := by cases args; simp_all
  obtain ⟨rfl, rfl⟩ := trodVars_none hV
  obtain ⟨cs, rfl, hcs⟩ := okWide_struct Tryz.underlying24 (hval 0 24 v0 rfl rfl)
  rw [show Tryz.prog.cellsOf 24 = 5 by kernel_rfl] at hcs
  obtain ⟨cs3, rfl, hcs3⟩ := okWide_struct Tryz.underlying24 (hval 2 24 v3 rfl rfl)
  rw [show Tryz.prog.cellsOf 24 = 5 by kernel_rfl] at hcs3
  obtain ⟨a2, len2, cap2, rfl⟩ := okWide_slice Tryz.underlying25 (hval 4 25 v2 rfl rfl)
  have k0 := h0
  have k1 := h1
  have k2 := h2
  have k3 := h3
  have k4 := h4
  have lt0 : ∀ x ∈ p0, x.block < W.heap.size := by obtain ⟨m, hm⟩ := k0; exact DataW.trod_lt m _ _ _ hm
  have lt1 : ∀ x ∈ p1, x.block < W.heap.size := by obtain ⟨m, hm⟩ := k1; exact DataW.trod_lt m _ _ _ hm
  have lt3 : ∀ x ∈ p3, x.block < W.heap.size := by obtain ⟨m, hm⟩ := k3; exact DataW.trod_lt m _ _ _ hm
  have lt4 : ∀ x ∈ p4, x.block < W.heap.size := by obtain ⟨m, hm⟩ := k4; exact DataW.trod_lt m _ _ _ hm
  have lt2 : ∀ x ∈ p2, x.block < W.heap.size := by obtain ⟨m, hm⟩ := k2; exact DataW.trod_lt m _ _ _ hm
  simp only [List.append_nil] at hk
  have hkb : Rows.uptoBulkAll [d0, d1, d3, d4, d2] ≤ 1048576 := of_decide_eq_true hk
  simp only [Rows.uptoBulkAll] at hkb
  obtain ⟨r, hr, hrc⟩ : ∃ r : Raw, r.Wf ∧ cs.toList = r.cells := by
    obtain ⟨fuel, hf⟩ := h0
    exact open_config (by simpa using hcs) (by simpa [Value.cells] using hf)
  obtain rfl : cs = r.cells.toArray := by rw [← hrc]
  obtain ⟨s, hs, _, _, hsm⟩ := open_string Tryz.underlying9 (hval 1 9 v1 rfl rfl) h1
  subst hs
  obtain ⟨r', hr', hrc'⟩ : ∃ r : Raw, r.Wf ∧ cs3.toList = r.cells := by
    obtain ⟨fuel, hf⟩ := h3
    exact open_config (by simpa using hcs3) (by simpa [Value.cells] using hf)
  obtain rfl : cs3 = r'.cells.toArray := by rw [← hrc']
  obtain ⟨s', hs', _, _, hsm'⟩ := open_string Tryz.underlying9 (hval 3 9 v4 rfl rfl) h4
  subst hs'
  obtain ⟨K, R, A, S, hy, hlen⟩ : ∃ K R A S, IsActs W W.heap.size a2 len2 cap2 K R A S ∧ len2 ≤ 1048576 := by
    obtain ⟨fuel, hf⟩ := h2
    have hf' : DataW.trod enc Tryz.prog W 0 (fun _ => true) true fuel 25 [.slice a2 len2 cap2] = some (d2, p2) := by simpa [Value.cells] using hf
    obtain ⟨K, R, A, S, hT⟩ := open_acts hf'
    exact ⟨K, R, A, S, hT, acts_len hf' (by omega)⟩
  clear hA0
  refine (all_walk W (low_of hL) r hr s hsm r' hr' s' hsm' a2 len2 cap2 K R A S hy hlen).mono fun e W' ⟨he, bel⟩ => ?_
  subst he
  exact ⟨_, rfl, _, _, _, [], _, [], hW', trodAll_mk1 (shut_bool Tryz.underlying4 _), (trodAll_cons_mk (Below.trod laidOut (by kernel_rfl) (of_decide_eq_true (by kernel_rfl)) k0 bel lt0) (trodAll_cons_mk (Below.trod laidOut (by kernel_rfl) (of_decide_eq_true (by kernel_rfl)) k1 bel lt1) (trodAll_cons_mk (Below.trod laidOut (by kernel_rfl) (of_decide_eq_true (by kernel_rfl)) k3 bel lt3) (trodAll_cons_mk (Below.trod laidOut (by kernel_rfl) (of_decide_eq_true (by kernel_rfl)) k4 bel lt4) (trodAll_cons_mk (Below.trod laidOut (by kernel_rfl) (of_decide_eq_true (by kernel_rfl)) k2 bel lt2) trodAll_mk0))))), rfl, bel.frame _, fun h => by cases h⟩

/-- A world for the witness. -/
noncomputable def allWorld (os : Os) : World :=
  { World.holding Tryz.prog os ⟨#[], #[], []⟩ with heap := (World.holding Tryz.prog os ⟨#[], #[], []⟩).heap.modify 0 fun
      | .cells _ t frozen => .cells #[.int .i64 0, .int .i64 0, .int .i64 128, .int .i64 2048, .int .i64 65536] t frozen
      | o => o }
def allArgs : Array Value := #[.agg #[.int .u64 0, .int .u8 0, .int .i32 0, .int .i32 0, .int .u8 0], .string ⟨#[]⟩, .agg #[.int .u64 0, .int .u8 0, .int .i32 0, .int .i32 0, .int .u8 0], .string ⟨#[]⟩, .slice none 0 0]
theorem all_met (os : Os) : laidMet Tryz.prog Rows.allUptoRow.laid ((allWorld os).forCall (fun _ _ => 0) ⟨#[], allArgs, []⟩).memory :=
  laidMet_of_run' 8 (by kernel_rfl) (by kernel_rfl)
theorem all_reads (os : Os) {H : Type} (enc : TypeId × Value → H) : ∃ places, DataW.whole enc Tryz.prog ((allWorld os).forCall (fun _ _ => 0) ⟨#[], allArgs, []⟩).memory Tryz.f3.params.toList Rows.allSpec.vars false allArgs.toList 8 = some ([.agg [.lit (.int .u64 0), .lit (.int .u8 0), .lit (.int .i32 0), .lit (.int .i32 0), .lit (.int .u8 0)], .lit (.string []), .agg [.lit (.int .u64 0), .lit (.int .u8 0), .lit (.int .i32 0), .lit (.int .i32 0), .lit (.int .u8 0)], .lit (.string []), .nil], [], places) :=
  ⟨[], by kernel_rfl⟩

set_option maxRecDepth 100000 in
theorem all_lifted (os : Os) (started : os.Started) (H : Type) (enc : TypeId × Value → H) (F : Stop.Interp) :
    ReturnsInHanded {} Tryz.checked os 3 .any ((Rows.OpenSpec.upto Rows.allSpec).preRow enc Tryz.prog Tryz.f3 Rows.allUptoRow.domain false Rows.allUptoRow.laid) (((Rows.OpenSpec.upto Rows.allSpec).at F).post enc Tryz.prog Tryz.f3 false true false false) := by
  obtain ⟨places, hx⟩ := all_reads os enc
  refine returnsInHanded_of_row (C := Tryz.checked) (s := Rows.OpenSpec.upto Rows.allSpec) own started (by kernel_rfl) Tryz.func3
    (witness_row_at (enc := enc) (C := Tryz.checked) false (allWorld os) allArgs rfl (by kernel_rfl) (by kernel_rfl) (by kernel_rfl)
      (OpenSpec.preRow_of_cond 8 hx (by kernel_rfl) (fun k hk => by cases hk; kernel_rfl) (by kernel_rfl) (all_met os))) ?_
  intro W base args ds gs before hval hW _ hcond _ hL _ _
  exact all_contract H enc W base args ds gs before hval hW (hcond _ rfl) hL

theorem all_row : Rows.AllUptoSaid :=
  OpenClaim.holds_of_cond 3 Tryz.f3 rfl rfl rfl rfl rfl rfl rfl ⟨rfl, rfl, rfl, rfl, rfl⟩ rfl rfl rfl rfl rfl (by kernel_rfl) Tryz.func3 (by kernel_rfl)
    (of_decide_eq_true (by kernel_rfl)) (by unfold Func.isWrapper; first | (rw [if_pos (by decide +kernel)]; kernel_rfl) | (rw [if_neg (by decide +kernel)]; exact ⟨rfl, rfl⟩))
    (fun os started H enc _ F => by rw [OpenClaim.pre_eq_preRow]; exact all_lifted os started H enc F)

theorem all_plain (f : FuncId) (fn : Func) (hf : Tryz.pinned.checked.prog.funcNamed "drill/drilllaw.All" = some f) (hfn : Tryz.pinned.checked.prog.funcs[f]? = some fn) :
    false = Tryz.pinned.checked.prog.looks [] ∧ ∀ (j : Nat) t, fn.params[j]? = some t → Tryz.pinned.checked.prog.wantsStandIn t = false := by
  obtain rfl : f = 3 := Option.some.inj ((show Tryz.prog.funcNamed "drill/drilllaw.All" = some 3 by kernel_rfl).symm.trans hf) |>.symm
  obtain rfl : fn = Tryz.f3 := (Option.some.inj (Tryz.func3.symm.trans hfn)).symm
  refine ⟨by kernel_rfl, fun j t ht => ?_⟩
  rw [Tryz.params3] at ht
  have hm := Array.mem_of_getElem? ht
  have h5 : t = 24 ∨ t = 9 ∨ t = 24 ∨ t = 9 ∨ t = 25 := by simpa using hm
  have h3 : t = 24 ∨ t = 9 ∨ t = 25 := by
    rcases h5 with h | h | h | h | h
    · exact .inl h
    · exact .inr (.inl h)
    · exact .inl h
    · exact .inr (.inl h)
    · exact .inr (.inr h)
  rcases h3 with rfl | rfl | rfl
  · exact (show Tryz.prog.wantsStandIn 24 = false by kernel_rfl)
  · exact (show Tryz.prog.wantsStandIn 9 = false by kernel_rfl)
  · exact (show Tryz.prog.wantsStandIn 25 = false by kernel_rfl)

theorem all_holds : Rows.AllUptoCardSaid :=
  Claim7.holds_tied_plain_at .later [] _ _ _ _ all_row (fun _ h => by cases h) (by kernel_rfl) (fun _ h => by cases h) allUpto_row_tie rfl ⟨rfl, rfl⟩ (by kernel_rfl) rfl all_plain (by kernel_rfl)
#print axioms all_holds
end Go.Proofs.YtfpodnleimhohabGreatDoor
