import Derived.Test.YtfpodnleimhohabGreatDoorWalksSB
import Derived.Test.YtfpodnleimhohabGreatDoorWalks4
/-
  WALKS: a table of numbers read back (the program's).
-/
namespace Go.Proofs.YtfpodnleimhohabGreatDoor
open Go.RowKit
set_option linter.unusedVariables false
set_option linter.unusedSimpArgs false

def rnAns (l : List UInt8) (p : Nat) : Int × Int × Bool :=
  match rv l with
  | some (v, k) => (wh v, (p : Int) + k, true)
  | none => (0, 0, false)
theorem rnAns_none {l : List UInt8} (p : Nat) (h : rv l = none) : rnAns l p = (0, 0, false) := by simp [rnAns, h]
theorem rnAns_some {l : List UInt8} (p : Nat) {v : Int} {k : Nat} (h : rv l = some (v, k)) : rnAns l p = (wh v, (p : Int) + k, true) := by simp [rnAns, h]

set_option maxRecDepth 4000 in
set_option maxHeartbeats 1000000 in
theorem readNumber_any (s : ByteArray) (p : Nat) (hs : s.size ≤ maxLen) (hp : p ≤ s.size) (w : World) :
    Calls Tryz.prog 100 #[.string s, .int .i64 p] w fun e w' => e = .returned (.tuple #[.int .i64 (rnAns ((ls s).drop p) p).1, .int .i64 (rnAns ((ls s).drop p) p).2.1, .bool (rnAns ((ls s).drop p) p).2.2]) ∧ w' = w := by
  have HC : Hid (∀ w1, _) := fun w1 => readVarint_any s p hs (Nat.le_trans hp hs) w1
  unfold maxLen at hs
  cases hv : rv ((ls s).drop p) with
  | none =>
    rw [rvAns_none p hv] at HC
    rw [rnAns_none p hv]
    clear hv
    go_enter Tryz.func100, Tryz.ntmps100
    go_wp2_with fail
    refine (HC.out _).mono ?_
    rintro e w1 ⟨rfl, hw⟩
    have hw' := hw.symm
    clear hw
    subst hw'
    go_wp2
    go_ret3
    exact ⟨rfl, rfl⟩
  | some x =>
    obtain ⟨v, k⟩ := x
    rw [rvAns_some p hv] at HC
    rw [rnAns_some p hv]
    obtain ⟨h0, h1, hk, _⟩ := rv_some hv
    have hv2 : v ≤ 9223372036854775807 := by
      have e : (128 : Int) ^ 9 = 9223372036854775808 := by decide
      omega
    clear hv h1 hk
    by_cases ho : v % 2 = 1
    · have HW : Hid (wh v = -(v / 2) - 1) := wh_odd ho
      rw [HW.out]
      go_enter Tryz.func100, Tryz.ntmps100
      go_wp2_with fail
      refine (HC.out _).mono ?_
      rintro e w1 ⟨rfl, hw⟩
      have hw' := hw.symm
      clear hw
      subst hw'
      go_wp2
      go_ret3
      exact ⟨rfl, rfl⟩
    · have HW : Hid (wh v = v / 2) := wh_even ho
      rw [HW.out]
      go_enter Tryz.func100, Tryz.ntmps100
      go_wp2_with fail
      refine (HC.out _).mono ?_
      rintro e w1 ⟨rfl, hw⟩
      have hw' := hw.symm
      clear hw
      subst hw'
      go_wp2
      go_ret3
      exact ⟨rfl, rfl⟩

theorem ret_bool {a b : Bool} (h : a = b) : Ending.returned (.bool a) = .returned (.bool b) := by rw [h]
theorem str_beq (A B : ByteArray) : (A.toList == B.toList) = decide (ls A = ls B) := by
  rw [ByteArray.toList_eq, ByteArray.toList_eq]
  show (ls A == ls B) = _
  by_cases h : ls A = ls B
  · rw [h]; simp
  · simp [h]
set_option maxHeartbeats 1000000 in
theorem endsInSum_any (s : ByteArray) (p : Nat) (hs : s.size ≤ maxLen) (hp : p ≤ s.size) (w : World) :
    Calls Tryz.prog 89 #[.string s, .int .i64 p] w fun e w' => e = .returned (.bool (decide (le (crc ((ls s).take p)) 4 = (ls s).drop p))) ∧ Below w.heap.size w w' := by
  have hm := hs
  unfold maxLen at hs
  have hp0 : ¬ ((p : Int) < 0) := by omega
  obtain ⟨A, HA, hAz⟩ : ∃ A : ByteArray, Hid (s.extract 0 p = A ∧ ls A = (ls s).take p) ∧ A.size = p := ⟨s.extract 0 p, ⟨rfl, by rw [ls_cut]; simp⟩, by rw [ByteArray.size_extract]; omega⟩
  obtain ⟨B, HB, hBz⟩ : ∃ B : ByteArray, Hid (s.extract p s.size = B ∧ ls B = (ls s).drop p) ∧ B.size = s.size - p := ⟨s.extract p s.size, ⟨rfl, ls_extract s p⟩, by rw [ByteArray.size_extract]; omega⟩
  rw [← HA.out.2, ← HB.out.2]
  go_enter Tryz.func89, Tryz.ntmps89
  go_wp2_with (first | rw [HA.out.1] | rw [HB.out.1])
  refine (sumBytes_any A (by unfold maxLen; omega) _).mono ?_
  rintro e w1 ⟨rfl, hb1⟩
  go_wp2_with (first | rw [HA.out.1] | rw [HB.out.1])
  go_ret
  exact ⟨ret_bool (by rw [str_beq, ls_bs]), hb1⟩

/-- Memory while a table is made: what is left empty, and what is filled. -/
structure ObAt (w wr : World) (B : Nat) (t : TypeId) (zc oc : List Value) : Prop where
  z : CellsAt wr B t zc
  o : CellsAt wr (B + 1) t oc
  l : Below w.heap.size w wr
theorem ObAt.set {w wr : World} {B : Nat} {t : TypeId} {zc oc : List Value} (h : ObAt w wr B t zc oc) (hB : w.heap.size ≤ B) (q : Nat) (v : Value) : ObAt w (wr.setCell ⟨B + 1, q, none⟩ v) B t zc (oc.set q v) :=
  ⟨h.z.other (by omega) _ _, h.o.set q _, h.l.setCell (by show w.heap.size ≤ B + 1; omega) _⟩
theorem ObAt.alloc {w wr : World} {B : Nat} {t : TypeId} {zc oc : List Value} (h : ObAt w wr B t zc oc) (o : Obj) : ObAt w (wr.alloc o) B t zc oc := ⟨h.z.alloc _, h.o.alloc _, h.l.alloc h.l.size _⟩
theorem ObAt.to {w wr : World} {B : Nat} {t : TypeId} {zc oc oc' : List Value} (h : ObAt w wr B t zc oc) (e : oc = oc') : ObAt w wr B t zc oc' := e ▸ h

set_option maxRecDepth 100000 in
set_option maxHeartbeats 4000000 in
theorem readTable_any (s : ByteArray) (p : Nat) (hs : s.size ≤ maxLen) (hp : p ≤ s.size) (m : Int) (hm0 : 0 ≤ m) (hm : m ≤ 1073741824) (w : World) :
    Calls Tryz.prog 88 #[.string s, .int .i64 p, .int .i64 m] w fun e w' =>
      ((∃ F p', rt m 128 0 (fun _ => 0) ((ls s).drop p) = some (F, (ls s).drop p') ∧ p' ≤ s.size ∧ e = .returned (.tuple #[.agg (tab 128 F).toArray, .int .i64 (p' : Nat), .bool true])) ∨
        (rt m 128 0 (fun _ => 0) ((ls s).drop p) = none ∧ e = .returned (.tuple #[.agg (tab 128 fun _ => 0).toArray, .int .i64 0, .bool false]))) ∧ Below w.heap.size w w' := by
  have hsm := hs
  unfold maxLen at hs
  obtain ⟨w2, Hw2⟩ : ∃ w2, Hid ((w.alloc (.cells Tryz.zeroCells177 177)).alloc (.cells Tryz.zeroCells177 177) = w2) := ⟨_, (rfl : _ = _)⟩
  have H0 : Hid (ObAt w w2 w.heap.size 177 (tab 128 fun _ => 0) (tab 128 fun _ => 0)) := by
    rw [← Hw2.out]
    exact ⟨(CellsAt.new _ _ _ _ zero_table rfl).alloc _, CellsAt.new _ _ _ _ zero_table (by simp), ((Below.refl _ _).alloc (Nat.le_refl _) _).alloc (by simp) _⟩
  obtain ⟨zt, Hzt⟩ : ∃ zt, Hid (tab 128 (fun _ => (0 : Int)) = zt) := ⟨_, (rfl : _ = _)⟩
  have HztL : Hid (zt.length = 128) := by show _ = _; rw [← Hzt.out, tab_length]
  have HztO : Hid (∀ u ∈ zt, u.oneCell' = true) := by show ∀ u ∈ zt, _; rw [← Hzt.out]; exact tab_one _ _
  have HztI : Hid ((Tryz.prog.info? 177).map (·.size) = some zt.toArray.size) := by show _ = _; rw [List.size_toArray, HztL.out]; exact info_table
  have HzT : Hid (Tryz.zeroCells177 = zt.toArray) := by show _ = _; rw [← Hzt.out]; exact zero_table
  rw [Hzt.out]
  obtain ⟨L, HL⟩ : ∃ L, Hid ((ls s).drop p = L) := ⟨_, (rfl : _ = _)⟩
  rw [HL.out]
  go_enter Tryz.func88, Tryz.ntmps88
  go_wp2_with fail
  rw [Hw2.out]
  clear Hw2
  go_loopw [1, 10] (fun av cv wr => ∃ (c q : Nat) (F : Nat → Int), c ≤ 4 ∧ cv = .int .i64 c ∧ av = .int .i64 q ∧ q ≤ s.size ∧ Hid (rt m 128 0 (fun _ => 0) L = rt m (128 - c * 32) (c * 32) F ((ls s).drop q) ∧ ObAt w wr w.heap.size 177 zt (tab 128 F))) (fun _ c _ => 4 - (intOf c).toNat)
  case atStart => exact ⟨0, p, fun _ => 0, by omega, rfl, rfl, hp, ⟨by rw [HL.out], by rw [← Hzt.out]; exact H0.out⟩⟩
  case round =>
    obtain ⟨c, q, F, hc, rfl, rfl, hq, HT⟩ := hrel
    clear H0
    by_cases hlt : c < 4
    · go_wp2_with fail
      generalize decide ((c : Int) < 4) = q4
      go_loopg [1, 11] 32 (fun gk av bv wq => ∃ (b q : Nat) (F : Nat → Int), gk + b = 32 ∧ bv = .int .i64 b ∧ av = .int .i64 q ∧ q ≤ s.size ∧ Hid (rt m 128 0 (fun _ => 0) L = rt m (128 - (c * 32 + b)) (c * 32 + b) F ((ls s).drop q) ∧ ObAt w wq w.heap.size 177 zt (tab 128 F)))
      case atStart => exact ⟨0, q, F, by omega, rfl, rfl, hq, HT⟩
      case round =>
        obtain ⟨b, q', F', hb, rfl, rfl, hq', HU⟩ := hrel
        clear HT hq
        by_cases hbl : b < 32
        · go_wp2_with fail
          refine (readNumber_any s q' hsm hq' _).mono ?_
          rintro e w3 ⟨rfl, hw⟩
          have hw' := hw.symm
          clear hw
          subst hw'
          have HTh : Hid (wr.there w.heap.size 0 zt.toArray.size) := by
            have := CellsAt.there HU.out.2.z
            rw [List.size_toArray]
            exact this
          have HBw : Hid (Below w.heap.size w wr) := HU.out.2.l
          have HE : Hid (rt m 128 0 (fun _ => 0) L = rt m ((127 - (c * 32 + b)) + 1) (c * 32 + b) F' ((ls s).drop q')) := by
            have h := HU.out.1
            rw [show 128 - (c * 32 + b) = (127 - (c * 32 + b)) + 1 by omega] at h
            exact h
          cases hv : rv ((ls s).drop q') with
          | none =>
            rw [rnAns_none q' hv]
            have Hno : Hid (rt m 128 0 (fun _ => 0) L = none) := by
              show _ = _
              rw [HE.out]
              exact rt_none (rdN_no hv)
            clear hv HE HU
            go_wp2_with (first
              | rw [HzT.out]
              | (refine wpList_store_mid rfl 177 (.tmp 6) (.tmp 43) rfl _ _ zt.toArray rfl rfl HTh.out HztI.out (all_oneCell_toArray HztO.out) ?_))
            have hld := run_loadVar_mid (P := Tryz.prog) (wr.setCells w.heap.size 0 zt) w.heap.size 0 177 zt _ (World.rangeAt_setCells_same _ _ _ _ (by have := HTh.out; rw [List.size_toArray] at this; exact this)) Tryz.underlying177 rfl (by have := HztI.out; rw [List.size_toArray] at this; exact this)
            refine bodyPost_ret (v := .tuple #[.agg zt.toArray, .int .i64 0, .bool false]) ?_ rfl ⟨.inr ⟨Hno.out, rfl⟩, below_setCells (Nat.le_refl _) zt 0 HBw.out⟩
            simp [results, Tryz.results88, asAddr, hld, Act.put]
          | some y =>
            obtain ⟨v, k⟩ := y
            rw [rnAns_some q' hv]
            have HX : Hid (rv ((ls s).drop q') = some (v, k)) := hv
            obtain ⟨h0, h1, hk, r, hr⟩ := rv_some hv
            have hkl : q' + k ≤ s.size := by
              have := congrArg List.length hr
              rw [List.length_drop, ls_length, List.length_append, ← hk] at this
              omega
            clear hv h1 hk hr h0
            obtain ⟨x, Hx⟩ : ∃ x, Hid (wh v = x) := ⟨_, (rfl : _ = _)⟩
            rw [Hx.out]
            by_cases hx1 : x < -m
            · have Hno : Hid (rt m 128 0 (fun _ => 0) L = none) := by
                show _ = _
                rw [HE.out]
                exact rt_none (rdN_out HX.out (by rw [Hx.out]; omega))
              clear HE HU
              go_wp2_with (first
                | rw [HzT.out]
                | (refine wpList_store_mid rfl 177 (.tmp 6) (.tmp 43) rfl _ _ zt.toArray rfl rfl HTh.out HztI.out (all_oneCell_toArray HztO.out) ?_))
              have hld := run_loadVar_mid (P := Tryz.prog) (wr.setCells w.heap.size 0 zt) w.heap.size 0 177 zt _ (World.rangeAt_setCells_same _ _ _ _ (by have := HTh.out; rw [List.size_toArray] at this; exact this)) Tryz.underlying177 rfl (by have := HztI.out; rw [List.size_toArray] at this; exact this)
              refine bodyPost_ret (v := .tuple #[.agg zt.toArray, .int .i64 0, .bool false]) ?_ rfl ⟨.inr ⟨Hno.out, rfl⟩, below_setCells (Nat.le_refl _) zt 0 HBw.out⟩
              simp [results, Tryz.results88, asAddr, hld, Act.put]
            by_cases hx2 : m < x
            · have Hno : Hid (rt m 128 0 (fun _ => 0) L = none) := by
                show _ = _
                rw [HE.out]
                exact rt_none (rdN_out HX.out (by rw [Hx.out]; omega))
              clear HE HU
              go_wp2_with (first
                | rw [HzT.out]
                | (refine wpList_store_mid rfl 177 (.tmp 6) (.tmp 43) rfl _ _ zt.toArray rfl rfl HTh.out HztI.out (all_oneCell_toArray HztO.out) ?_))
              have hld := run_loadVar_mid (P := Tryz.prog) (wr.setCells w.heap.size 0 zt) w.heap.size 0 177 zt _ (World.rangeAt_setCells_same _ _ _ _ (by have := HTh.out; rw [List.size_toArray] at this; exact this)) Tryz.underlying177 rfl (by have := HztI.out; rw [List.size_toArray] at this; exact this)
              refine bodyPost_ret (v := .tuple #[.agg zt.toArray, .int .i64 0, .bool false]) ?_ rfl ⟨.inr ⟨Hno.out, rfl⟩, below_setCells (Nat.le_refl _) zt 0 HBw.out⟩
              simp [results, Tryz.results88, asAddr, hld, Act.put]
            have HN : Hid (rt m 128 0 (fun _ => 0) L = rt m (128 - (c * 32 + (b + 1))) (c * 32 + (b + 1)) (upd F' (c * 32 + b) x) ((ls s).drop (q' + k)) ∧ ObAt w (wr.setCell ⟨w.heap.size + 1, c * 32 + b, none⟩ (.int .i64 x)) w.heap.size 177 zt (tab 128 (upd F' (c * 32 + b) x))) := by
              refine ⟨?_, ?_⟩
              · rw [HE.out, rt_more (rdN_in HX.out (by rw [Hx.out]; omega)), Hx.out, List.drop_drop, show 128 - (c * 32 + (b + 1)) = 127 - (c * 32 + b) by omega]
                rfl
              · rw [← tab_set]
                exact HU.out.2.set (Nat.le_refl _) _ _
            have d1 := (HU.out.2.o.cell (c * 32 + b)).trans (tab_get _ (show c * 32 + b < 128 by omega))
            have f1 := HU.out.2.o.frozen (c * 32 + b)
            clear HE HU HTh
            generalize F' (c * 32 + b) = y at *
            go_wp2_with fail
            go_roundg (gk - 1)
            case measure => omega
            case rel => exact ⟨b + 1, q' + k, _, by omega, by go_num, by go_num, hkl, HN⟩
        · obtain rfl : b = 32 := by omega
          go_wp2
          go_roundw
          case rel => exact ⟨c + 1, q', F', by omega, by go_num, rfl, hq', by rw [show (c + 1) * 32 = c * 32 + 32 by omega]; exact HU⟩
          case measure => simp [intOf]; omega
    · obtain rfl : c = 4 := by omega
      obtain ⟨A0, A1, A2, A4⟩ := HT.out
      obtain ⟨cs, Hcs⟩ : ∃ cs, Hid (tab 128 F = cs) := ⟨_, (rfl : _ = _)⟩
      have HcsL : Hid (cs.length = 128) := by show _ = _; rw [← Hcs.out]; exact tab_length _ _
      have HcsO : Hid (∀ u ∈ cs, u.oneCell' = true) := by show ∀ u ∈ cs, _; rw [← Hcs.out]; exact tab_one _ _
      have HI : Hid ((Tryz.prog.info? 177).map (·.size) = some cs.length) := by show _ = _; rw [HcsL.out]; exact info_table
      have HI2 : Hid ((Tryz.prog.info? 177).map (·.size) = some cs.toArray.size) := by show _ = _; rw [List.size_toArray]; exact HI.out
      rw [Hcs.out] at A2
      have HRg : Hid (wr.rangeAt (w.heap.size + 1) 0 cs) := CellsAt.range A2
      have HTh : Hid (wr.there w.heap.size 0 cs.toArray.size) := by
        have := CellsAt.there A1
        rw [HztL.out] at this
        show wr.there w.heap.size 0 cs.length
        rw [HcsL.out]; exact this
      have HA4 : Hid (Below w.heap.size w wr) := A4
      have Hyes : Hid (rt m 128 0 (fun _ => 0) L = some (F, (ls s).drop q)) := by
        show _ = _
        rw [A0]
        rfl
      clear A0 A1 A2 A4 HT
      go_wp2_with (first
        | (refine wpList_load_mid rfl 177 (.tmp 9) rfl _ _ rfl cs _ HRg.out Tryz.underlying177 rfl HI.out ?_)
        | (refine wpList_store_mid rfl 177 (.tmp 6) (.tmp 51) rfl _ _ cs.toArray rfl rfl HTh.out HI2.out (all_oneCell_toArray HcsO.out) ?_))
      have hld := run_loadVar_mid (P := Tryz.prog) (wr.setCells w.heap.size 0 cs) w.heap.size 0 177 cs _ (World.rangeAt_setCells_same _ _ _ _ (by have := HTh.out; rw [List.size_toArray] at this; exact this)) Tryz.underlying177 rfl HI.out
      refine bodyPost_ret (v := .tuple #[.agg cs.toArray, .int .i64 (q : Nat), .bool true]) ?_ rfl ⟨.inl ⟨F, q, Hyes.out, hq, by rw [Hcs.out]⟩, below_setCells (Nat.le_refl _) cs 0 HA4.out⟩
      simp [results, Tryz.results88, asAddr, hld, Act.put]
end Go.Proofs.YtfpodnleimhohabGreatDoor

/-
  WALKS: weights out of a table (the program's).
-/
namespace Go.Proofs.YtfpodnleimhohabGreatDoor
open Go.RowKit
set_option linter.unusedVariables false
set_option linter.unusedSimpArgs false

theorem zero_w128 : Tryz.zeroCells61 = (tabw 128 fun _ => 0).toArray := by kernel_rfl
theorem tabw_one' (n : Nat) (f : Nat → Int) : ∀ u ∈ tabw n f, u.oneCell' = true := tabw_one n f

set_option maxRecDepth 100000 in
set_option maxHeartbeats 2000000 in
theorem narrowed_any (f : Nat → Int) (hf : ∀ i, i < 128 → -16777216 ≤ f i ∧ f i ≤ 16777216) (w : World) :
    Calls Tryz.prog 90 #[.agg (tab 128 f).toArray] w fun e w' => e = .returned (.agg (tabw 128 f).toArray) ∧ Below w.heap.size w w' := by
  have Hf : Hid _ := hf
  obtain ⟨tc, Htc⟩ : ∃ tc, Hid (tab 128 f = tc) := ⟨_, (rfl : _ = _)⟩
  have HtL : Hid (tc.length = 128) := by show _ = _; rw [← Htc.out]; exact tab_length _ _
  have HtI : Hid ((Tryz.prog.info? 63).map (·.size) = some tc.length) := by show _ = _; rw [HtL.out]; exact info_t128
  have HtR : Hid (∀ c, c < 4 → tc.toArray.extract (c * 32) (c * 32 + 32) = (tab 32 fun b => f (c * 32 + b)).toArray) := fun c hc => by rw [← Htc.out]; exact tab_row f c hc
  rw [Htc.out]
  clear hf Htc
  obtain ⟨w3, Hw3⟩ : ∃ w3, Hid (((w.alloc (.cells tc.toArray 177)).alloc (.cells Tryz.zeroCells61 61)).alloc (.cells Tryz.zeroCells61 61) = w3) := ⟨_, (rfl : _ = _)⟩
  have H0 : Hid (ObAt w w3 (w.heap.size + 1) 61 (tabw 128 fun _ => 0) (tabw 128 (fillTo f 0))) := by
    rw [← Hw3.out]
    refine ⟨(CellsAt.new _ _ _ _ zero_w128 (by simp)).alloc _, CellsAt.new _ _ _ _ zero_w128 (by simp), (((Below.refl _ _).alloc (Nat.le_refl _) _).alloc (by simp) _).alloc (by simp; omega) _⟩
  have HRg : Hid (w3.rangeAt w.heap.size 0 tc) := by rw [← Hw3.out]; exact CellsAt.range (((CellsAt.new w _ _ _ rfl rfl).alloc _).alloc _)
  go_enter Tryz.func90, Tryz.ntmps90
  have hz3 : w.heap.size + 1 + 1 = w.heap.size + 2 := rfl
  go_wp2_with (first
    | rw [Hw3.out, hz3]
    | (refine wpList_load_mid rfl 63 (.tmp 8) rfl _ _ rfl tc _ HRg.out Tryz.underlying63 rfl HtI.out ?_))
  clear HRg Hw3
  go_loopw [10] (fun cv wr => ∃ c : Nat, c ≤ 4 ∧ cv = .int .i64 c ∧ Hid (ObAt w wr (w.heap.size + 1) 61 (tabw 128 fun _ => 0) (tabw 128 (fillTo f (c * 32))))) (fun c _ => 4 - (intOf c).toNat)
  case atStart => exact ⟨0, by omega, rfl, H0⟩
  case round =>
    obtain ⟨c, hc, rfl, HT⟩ := hrel
    clear H0
    by_cases hlt : c < 4
    · obtain ⟨rc, Hrc⟩ : ∃ rc, Hid (tab 32 (fun b => f (c * 32 + b)) = rc) := ⟨_, (rfl : _ = _)⟩
      have HrL : Hid (rc.length = 32) := by show _ = _; rw [← Hrc.out]; exact tab_length _ _
      have HrO : Hid (∀ u ∈ rc, u.oneCell' = true) := by show ∀ u ∈ rc, _; rw [← Hrc.out]; exact tab_one _ _
      have HrI : Hid ((Tryz.prog.info? 62).map (·.size) = some rc.length) := by show _ = _; rw [HrL.out]; exact info_c32
      have HrE : Hid (tc.toArray.extract (c * 32) (c * 32 + 32) = rc.toArray) := by show _ = _; rw [← Hrc.out]; exact HtR.out c hlt
      have HS1 : Hid (ObAt w (wr.alloc (.cells rc.toArray 62)) (w.heap.size + 1) 61 (tabw 128 fun _ => 0) (tabw 128 (fillTo f (c * 32 + 0)))) := HT.out.alloc _
      have HR1 : Hid (CellsAt (wr.alloc (.cells rc.toArray 62)) wr.heap.size 62 rc) := CellsAt.new _ _ _ _ rfl rfl
      go_wp2_with (first
        | (refine wpList_index_rowTo rfl 63 (.tmp 9) (.tmp 10) rfl 62 4 32 _ rc.toArray c rfl rfl Tryz.underlying63 _ Tryz.underlying62 rfl info_c32 hlt HrE.out ?_)
        | (refine wpList_store_new rfl 62 (.tmp 5) (.tmp 13) rfl _ rc rfl rfl HrI.out HrL.out.symm HrO.out ?_)
        | (refine wpList_load_mid rfl 62 (.tmp 5) rfl _ _ rfl rc _ (CellsAt.range HR1.out) Tryz.underlying62 rfl HrI.out ?_))
      clear HT HrE HrO HR1
      generalize hwa : wr.alloc (.cells rc.toArray 62) = wa at *
      clear hwa
      go_loopw [15] (fun bv wq => ∃ b : Nat, b ≤ 32 ∧ bv = .int .i64 b ∧ Hid (ObAt w wq (w.heap.size + 1) 61 (tabw 128 fun _ => 0) (tabw 128 (fillTo f (c * 32 + b))))) (fun b _ => 32 - (intOf b).toNat)
      case atStart => exact ⟨0, by omega, rfl, HS1⟩
      case round =>
        obtain ⟨b, hb, rfl, HU⟩ := hrel
        clear HS1
        by_cases hbl : b < 32
        · have HV : Hid (rc.toArray[b]? = some (.int .i64 (f (c * 32 + b)))) := by show _ = _; rw [← Hrc.out]; simp only [List.getElem?_toArray]; exact tab_get _ hbl
          have d1 := (HU.out.o.cell (c * 32 + b)).trans (tabw_get _ (show c * 32 + b < 128 by omega))
          have f1 := HU.out.o.frozen (c * 32 + b)
          have b4 := Hf.out (c * 32 + b) (by omega)
          have HN : Hid (ObAt w (wr.setCell ⟨w.heap.size + 2, c * 32 + b, none⟩ (.int .i32 (f (c * 32 + b)))) (w.heap.size + 1) 61 (tabw 128 fun _ => 0) (tabw 128 (fillTo f (c * 32 + (b + 1))))) := by
            have h := HU.out.set (by omega) (c * 32 + b) (.int .i32 (f (c * 32 + b)))
            rw [tabw_set, fillTo_next] at h
            exact h
          rw [show w.heap.size + 1 + 1 = w.heap.size + 2 from rfl] at d1 f1
          generalize fillTo f (c * 32 + b) (c * 32 + b) = y at *
          generalize f (c * 32 + b) = z at *
          go_wp2_with (refine wpList_index_one rfl 62 (.tmp 14) (.tmp 15) rfl 2 32 _ b _ rfl rfl Tryz.underlying62 _ Tryz.underlying2 rfl info_c1 hbl HV.out ?_)
          go_roundw
          case rel => exact ⟨b + 1, by omega, by go_num, HN⟩
          case measure => simp [intOf]; omega
        · obtain rfl : b = 32 := by omega
          go_wp2
          go_roundw
          case rel => exact ⟨c + 1, by omega, by go_num, by rw [show (c + 1) * 32 = c * 32 + 32 by omega]; exact HU⟩
          case measure => simp [intOf]; omega
    · obtain rfl : c = 4 := by omega
      obtain ⟨A1, A2, A4⟩ := HT.out.to (oc' := tabw 128 f) (tabw_congr fun i hi => if_pos (by omega))
      obtain ⟨cs, Hcs⟩ : ∃ cs, Hid (tabw 128 f = cs) := ⟨_, (rfl : _ = _)⟩
      have HcsL : Hid (cs.length = 128) := by show _ = _; rw [← Hcs.out]; exact tabw_length _ _
      have HcsO : Hid (∀ u ∈ cs, u.oneCell' = true) := by show ∀ u ∈ cs, _; rw [← Hcs.out]; exact tabw_one _ _
      have HI : Hid ((Tryz.prog.info? 61).map (·.size) = some cs.length) := by show _ = _; rw [HcsL.out]; exact info_w128
      have HI2 : Hid ((Tryz.prog.info? 61).map (·.size) = some cs.toArray.size) := by show _ = _; rw [List.size_toArray]; exact HI.out
      rw [Hcs.out] at A2
      have HRg : Hid (wr.rangeAt (w.heap.size + 2) 0 cs) := CellsAt.range A2
      have HTh : Hid (wr.there (w.heap.size + 1) 0 cs.toArray.size) := by
        have := CellsAt.there A1
        rw [tabw_length] at this
        show wr.there (w.heap.size + 1) 0 cs.length
        rw [HcsL.out]; exact this
      have HA4 : Hid (Below w.heap.size w wr) := A4
      clear A1 A2 A4 HT
      go_wp2_with (first
        | (refine wpList_load_mid rfl 61 (.tmp 3) rfl _ _ rfl cs _ HRg.out Tryz.underlying61 rfl HI.out ?_)
        | (refine wpList_store_mid rfl 61 (.tmp 2) (.tmp 27) rfl _ _ cs.toArray rfl rfl HTh.out HI2.out (all_oneCell_toArray HcsO.out) ?_))
      have hld := run_loadVar_mid (P := Tryz.prog) (wr.setCells (w.heap.size + 1) 0 cs) (w.heap.size + 1) 0 61 cs _ (World.rangeAt_setCells_same _ _ _ _ (by have := HTh.out; rw [List.size_toArray] at this; exact this)) Tryz.underlying61 rfl HI.out
      rw [Hcs.out]
      refine bodyPost_ret (v := .agg cs.toArray) ?_ rfl ⟨rfl, below_setCells (by omega) cs 0 HA4.out⟩
      simp [results, Tryz.results90, asAddr, hld, Act.put]
end Go.Proofs.YtfpodnleimhohabGreatDoor
