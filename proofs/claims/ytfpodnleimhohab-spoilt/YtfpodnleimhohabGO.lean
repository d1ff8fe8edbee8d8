import Derived.Test.YtfpodnleimhohabWalks3
import Derived.ProofKit
import Derived.ShutString
import Derived.ChangeOld
import Derived.Below
import Derived.Deep.SlicePairs
import Derived.Test.YtfpodnleimhohabWalksS
import Derived.Test.YtfpodnleimhohabGen
/-
  ARGUMENTS OPENED: lists of examples, lists of strings.
-/
namespace Go.Proofs.Ytfpodnleimhohab
open Go.ChangeShapes Go.WideShapes Go.ChangeAt Go.RowKit
open Go.ChangeMaps (open_string shut_string)
set_option linter.unusedVariables false

theorem own : ownKnob Try.prog.godebug = none := by kernel_rfl
theorem laidOut : laidOutB Try.prog = true := by kernel_rfl

/-- An argument of the type []api.Example, opened. -/
theorem open_exs {H : Type} {enc : TypeId × Value → H} {W : World} {base : Nat} {spare : Nat → Bool} {held : Bool} {fuel : Nat} {a : Option Addr} {len cap : Nat} {x : DataW H × List MemPlace}
    (h : DataW.trod enc Try.prog W base spare held fuel 25 [.slice a len cap] = some x) : ∃ L T, IsExs W a len cap L T := by
  rcases Go.Deep.open_slice_pairs (P := Try.prog) Try.underlying25 Try.underlying72 (by kernel_rfl) rfl rfl (by kernel_rfl) (by kernel_rfl) h with ⟨hcs, _⟩ | ⟨x, l, c, m, n, V0, V1, D0, D1, P0, P1, hcs, hb, hl, hm, hmm, _, hc⟩
  · simp at hcs
    obtain ⟨rfl, rfl, rfl⟩ := hcs
    exact ⟨fun _ => 0, fun _ => ByteArray.empty, .inl rfl⟩
  · simp at hcs
    obtain ⟨rfl, rfl, rfl⟩ := hcs
    by_cases h0 : len = 0
    · exact ⟨fun _ => 0, fun _ => ByteArray.empty, .inl h0⟩
    have hlm : len ≤ m := by rw [hmm]; split <;> omega
    obtain ⟨b, off, spot⟩ := x
    have c0 := (hc 0 (by omega)).1
    have hspot : spot = none := by simpa [Addr.add] using World.cell?_spot c0
    subst hspot
    have hlt : b < W.heap.size := by simpa [Addr.add] using World.block_lt_of_cell? W _ c0
    have each : ∀ i, i < m → ∃ q : Int × ByteArray, W.cell? ⟨b, off + i * 2, none⟩ = some (.int .u8 q.1) ∧ W.cell? ⟨b, off + i * 2 + 1, none⟩ = some (.string q.2) ∧ 0 ≤ q.1 ∧ q.1 ≤ 255 ∧ q.2.size ≤ maxLen := by
      intro i hi
      obtain ⟨e0, e1, t0, t1⟩ := hc i hi
      rw [add_plain] at e0 e1
      obtain ⟨z, hz, _, wz⟩ := DataW.trod_int Try.underlying5 t0
      obtain ⟨s, hs, _, ws⟩ := DataW.trod_string Try.underlying9 t1
      simp at hz hs
      have bz := bounds_u8 wz
      exact ⟨(z, s), by simpa [hz] using e0, by simpa [hs, Nat.add_assoc] using e1, bz.1, bz.2, ws⟩
    obtain ⟨q, hq⟩ := Go.Deep.choose_lt each
    exact ⟨fun i => (q i).1, fun i => (q i).2, .inr ⟨b, off, rfl, hl, hm, hlt, fun i hi => hq i (by omega)⟩⟩

/-- An argument of the type []string, opened. -/
theorem open_strs_arg {H : Type} {enc : TypeId × Value → H} {W : World} {base : Nat} {spare : Nat → Bool} {held : Bool} {fuel : Nat} {a : Option Addr} {len cap : Nat} {x : DataW H × List MemPlace}
    (h : DataW.trod enc Try.prog W base spare held fuel 26 [.slice a len cap] = some x) : ∃ T, IsStrs W a len cap T := by
  rcases Go.Deep.open_slice1 (P := Try.prog) Try.underlying26 (by kernel_rfl) h with ⟨hcs, _⟩ | ⟨x, l, c, m, n, V, D, Pl, hcs, hb, hl, hm, hmm, _, hc⟩
  · simp at hcs
    obtain ⟨rfl, rfl, rfl⟩ := hcs
    exact ⟨fun _ => ByteArray.empty, .inl rfl⟩
  · simp at hcs
    obtain ⟨rfl, rfl, rfl⟩ := hcs
    by_cases h0 : len = 0
    · exact ⟨fun _ => ByteArray.empty, .inl h0⟩
    have hlm : len ≤ m := by rw [hmm]; split <;> omega
    obtain ⟨b, off, spot⟩ := x
    have c0 := (hc 0 (by omega)).1
    have hspot : spot = none := by simpa [Addr.add] using World.cell?_spot c0
    subst hspot
    have hlt : b < W.heap.size := by simpa [Addr.add] using World.block_lt_of_cell? W _ c0
    have each : ∀ i, i < m → ∃ q : ByteArray, W.cell? ⟨b, off + i, none⟩ = some (.string q) ∧ q.size ≤ maxLen := by
      intro i hi
      obtain ⟨e0, t0⟩ := hc i hi
      rw [add_plain] at e0
      obtain ⟨s, hs, _, ws⟩ := DataW.trod_string Try.underlying9 t0
      simp at hs
      exact ⟨s, by simpa [hs] using e0, ws⟩
    obtain ⟨q, hq⟩ := Go.Deep.choose_lt each
    exact ⟨q, .inr ⟨b, off, rfl, hl, hm, hlt, fun i hi => hq i (by omega)⟩⟩
theorem IsExs.len {w : World} {a : Option Addr} {len cap : Nat} {L : Nat → Int} {T : Nat → ByteArray} (h : IsExs w a len cap L T) : len ≤ maxLen := by
  rcases h with h | ⟨_, _, _, h1, h2, _⟩
  · rw [h]; exact Nat.zero_le _
  · exact Nat.le_trans h1 h2
theorem IsStrs.len {w : World} {a : Option Addr} {len cap : Nat} {T : Nat → ByteArray} (h : IsStrs w a len cap T) : len ≤ maxLen := by
  rcases h with h | ⟨_, _, _, h1, h2, _⟩
  · rw [h]; exact Nat.zero_le _
  · exact Nat.le_trans h1 h2

end Go.Proofs.Ytfpodnleimhohab

/-
  WALKS: pick, turn.
-/
namespace Go.Proofs.Ytfpodnleimhohab
open Go.RowKit
set_option linter.unusedVariables false

/-- Which of n things a raw number speaks of. -/
def pickN (c : Int) (n : Nat) : Nat := (if c < 0 then -(c + 1) else c).toNat % n
theorem pickN_lt (c : Int) {n : Nat} (h : 1 ≤ n) : pickN c n < n := Nat.mod_lt _ (by omega)

set_option maxRecDepth 4000 in
set_option maxHeartbeats 400000 in
theorem pick_any (c : Int) (n : Nat) (h0 : -9223372036854775808 ≤ c) (h1 : c ≤ 9223372036854775807) (hn1 : 1 ≤ n) (hn : n ≤ 4294967296) (w : World) :
    Calls Try.prog 8 #[.int .i64 c, .int .i64 n] w fun e w' => e = .returned (.int .i64 (pickN c n : Nat)) ∧ w' = w := by
  have hn0 : ((n : Int) == 0) = false := by simp; omega
  by_cases hc : c < 0
  · have HP : Hid (-((c + 1).tmod (n : Int)) = ((pickN c n : Nat) : Int)) := by
      show _ = _
      unfold pickN
      rw [if_pos hc, ← Int.neg_tmod, Int.tmod_eq_emod_of_nonneg (by omega)]
      obtain ⟨m, hm⟩ := Int.eq_ofNat_of_zero_le (show 0 ≤ -(c + 1) by omega)
      rw [hm, ← Int.natCast_emod]; rfl
    go_enter Try.func8, Try.ntmps8
    go_wp2
    go_ret
    exact ⟨ret_intP HP.out, rfl⟩
  · have HP : Hid (c % (n : Int) = ((pickN c n : Nat) : Int)) := by
      show _ = _
      unfold pickN
      rw [if_neg hc]
      obtain ⟨m, hm⟩ := Int.eq_ofNat_of_zero_le (show 0 ≤ c by omega)
      rw [hm, ← Int.natCast_emod]; rfl
    go_enter Try.func8, Try.ntmps8
    go_wp2
    go_ret
    exact ⟨ret_intP HP.out, rfl⟩

end Go.Proofs.Ytfpodnleimhohab

/-
  WALKS: settings out of raw ones.
-/
namespace Go.Proofs.Ytfpodnleimhohab
open Go.RowKit
set_option linter.unusedVariables false

/-- Settings that are made out of raw ones. -/
def setN (r : Raw) : Cf := ⟨r.seed, 1 + r.batch % 8, pickN r.rate 65537, pickN r.mom 65536, r.decay % 32⟩
theorem setN_ok (r : Raw) (hw : r.Wf) : (setN r).Ok :=
  ⟨hw.seed, by show 1 ≤ 1 + r.batch % 8; omega, by show 1 + r.batch % 8 ≤ 8; omega, by have := pickN_lt r.rate (n := 65537) (by decide); show pickN r.rate 65537 ≤ 65536; omega, pickN_lt r.mom (n := 65536) (by decide), by show r.decay % 32 ≤ 31; omega⟩
def Cf.raw (c : Cf) : Raw := ⟨c.seed, c.batch, c.rate, c.mom, c.decay⟩

set_option maxRecDepth 100000 in
set_option maxHeartbeats 1000000 in
theorem settings_any (r : Raw) (hw : r.Wf) (w : World) :
    Calls Try.prog 5 #[.agg r.cells.toArray] w fun e w' => e = .returned (.agg (setN r).raw.cells.toArray) ∧ Below w.heap.size w w' := by
  obtain ⟨sd, bt, ra, mo, de⟩ := r
  obtain ⟨h1, h2, ⟨h3, h4⟩, ⟨h5, h6⟩, h7⟩ := hw
  simp only at h1 h2 h3 h4 h5 h6 h7
  have HP1 := pickN_lt ra (n := 65537) (by decide)
  have HP2 := pickN_lt mo (n := 65536) (by decide)
  obtain ⟨p1, Hp1⟩ : ∃ p, Hid (pickN ra 65537 = p) := ⟨_, (rfl : _ = _)⟩
  obtain ⟨p2, Hp2⟩ : ∃ p, Hid (pickN mo 65536 = p) := ⟨_, (rfl : _ = _)⟩
  have HE : Hid ((setN ⟨sd, bt, ra, mo, de⟩).raw.cells = [.int .u64 sd, .int .u8 ((1 + bt % 8 : Nat) : Int), .int .i32 p1, .int .i32 p2, .int .u8 ((de % 32 : Nat) : Int)]) := by
    show _ = _
    simp only [setN, Cf.raw, Raw.cells]; rw [Hp1.out, Hp2.out]
  rw [HE.out]
  rw [Hp1.out] at HP1
  rw [Hp2.out] at HP2
  have HQ1 : Hid _ := HP1
  have HQ2 : Hid _ := HP2
  clear HP1 HP2
  show Calls Try.prog 5 #[.agg #[.int .u64 sd, .int .u8 bt, .int .i32 ra, .int .i32 mo, .int .u8 de]] w _
  go_enter Try.func5, Try.ntmps5
  go_wp2_with fail
  obtain ⟨w3, Hw3⟩ : ∃ w3, Hid (((w.alloc (.cells #[.int .u64 sd, .int .u8 bt, .int .i32 ra, .int .i32 mo, .int .u8 de] 24)).alloc (.cells #[.int .u64 0, .int .u8 0, .int .i32 0, .int .i32 0, .int .u8 0] 24)).alloc (.cells #[.int .u64 sd, .int .u8 (1 + (bt : Int) % 8), .int .i32 0, .int .i32 0, .int .u8 ((de : Int) % 32)] 24) = w3) := ⟨_, (rfl : _ = _)⟩
  have HA : Hid (CellsAt w3 w.heap.size 24 [.int .u64 sd, .int .u8 bt, .int .i32 ra, .int .i32 mo, .int .u8 de] ∧ CellsAt w3 (w.heap.size + 1) 24 [.int .u64 0, .int .u8 0, .int .i32 0, .int .i32 0, .int .u8 0] ∧ CellsAt w3 (w.heap.size + 1 + 1) 24 [.int .u64 sd, .int .u8 ((1 + bt % 8 : Nat) : Int), .int .i32 0, .int .i32 0, .int .u8 ((de % 32 : Nat) : Int)] ∧ Below w.heap.size w w3) := by
    show _ ∧ _
    rw [← Hw3.out]
    exact ⟨((CellsAt.new w _ _ _ rfl rfl).alloc _).alloc _, (CellsAt.new _ _ _ _ rfl (by simp)).alloc _, CellsAt.new _ _ _ _ rfl (by simp), (((Below.refl _ _).alloc (Nat.le_refl _) _).alloc (by simp) _).alloc (by simp; omega) _⟩
  rw [Hw3.out]
  clear Hw3
  have c3 := (CellsAt.cell HA.out.1 3)
  have k2 := (CellsAt.cell HA.out.2.2.1 2)
  have k3 := (CellsAt.cell HA.out.2.2.1 3)
  have f2 := (CellsAt.frozen HA.out.2.2.1 2)
  have f3 := (CellsAt.frozen HA.out.2.2.1 3)
  simp only [List.getElem?_cons_zero, List.getElem?_cons_succ] at c3 k2 k3
  have b1 : p1 ≤ 70000 := by have := HQ1.out; omega
  have b2 : p2 ≤ 70000 := by have := HQ2.out; omega
  refine (pick_any ra 65537 (by omega) (by omega) (by decide) (by decide) _).mono ?_
  rintro e w1 ⟨rfl, hw⟩
  rw [Hp1.out]
  have hw' := hw.symm
  clear hw
  subst hw'
  go_wp2_with fail
  refine (pick_any mo 65536 (by omega) (by omega) (by decide) (by decide) _).mono ?_
  rintro e w1 ⟨rfl, hw⟩
  rw [Hp2.out]
  have hw' := hw.symm
  clear hw
  subst hw'
  have HF : Hid (CellsAt ((w3.setCell ⟨w.heap.size + 1 + 1, 2, none⟩ (.int .i32 p1)).setCell ⟨w.heap.size + 1 + 1, 3, none⟩ (.int .i32 p2)) (w.heap.size + 1 + 1) 24 [.int .u64 sd, .int .u8 ((1 + bt % 8 : Nat) : Int), .int .i32 p1, .int .i32 p2, .int .u8 ((de % 32 : Nat) : Int)]) := (CellsAt.set (CellsAt.set HA.out.2.2.1 2 (.int .i32 p1)) 3 (.int .i32 p2))
  have HG : Hid (CellsAt ((w3.setCell ⟨w.heap.size + 1 + 1, 2, none⟩ (.int .i32 p1)).setCell ⟨w.heap.size + 1 + 1, 3, none⟩ (.int .i32 p2)) (w.heap.size + 1) 24 [.int .u64 0, .int .u8 0, .int .i32 0, .int .i32 0, .int .u8 0]) := (CellsAt.other (CellsAt.other HA.out.2.1 (by omega) 2 (.int .i32 p1)) (by omega) 3 (.int .i32 p2))
  have HB : Hid (Below w.heap.size w ((w3.setCell ⟨w.heap.size + 1 + 1, 2, none⟩ (.int .i32 p1)).setCell ⟨w.heap.size + 1 + 1, 3, none⟩ (.int .i32 p2))) := (HA.out.2.2.2.setCell (p := ⟨w.heap.size + 1 + 1, 2, none⟩) (by show w.heap.size ≤ w.heap.size + 1 + 1; omega) _).setCell (p := ⟨w.heap.size + 1 + 1, 3, none⟩) (by show w.heap.size ≤ w.heap.size + 1 + 1; omega) _
  go_upto_region 6 with fail
  generalize (w3.setCell ⟨w.heap.size + 1 + 1, 2, none⟩ (.int .i32 p1)).setCell ⟨w.heap.size + 1 + 1, 3, none⟩ (.int .i32 p2) = w5 at *
  clear c3 k2 k3 f2 f3
  obtain ⟨cs, Hcs⟩ : ∃ cs, Hid ([Value.int .u64 sd, .int .u8 ((1 + bt % 8 : Nat) : Int), .int .i32 p1, .int .i32 p2, .int .u8 ((de % 32 : Nat) : Int)] = cs) := ⟨_, (rfl : _ = _)⟩
  rw [Hcs.out] at HF
  have HcsL : Hid (cs.length = 5) := by show _ = _; rw [← Hcs.out]; rfl
  have HcsO : Hid (∀ u ∈ cs, u.oneCell' = true) := by show ∀ u ∈ cs, _; rw [← Hcs.out]; exact oneCell_nums _ rfl
  have HI : Hid ((Try.prog.info? 24).map (·.size) = some cs.length) := by show _ = _; rw [HcsL.out]; kernel_rfl
  have HI2 : Hid ((Try.prog.info? 24).map (·.size) = some cs.toArray.size) := by show _ = _; rw [List.size_toArray]; exact HI.out
  have HRg : Hid (w5.rangeAt (w.heap.size + 1 + 1) 0 cs) := CellsAt.range HF.out
  have HTh : Hid (w5.there (w.heap.size + 1) 0 cs.toArray.size) := by
    have := CellsAt.there HG.out
    show w5.there (w.heap.size + 1) 0 cs.length
    rw [HcsL.out]; exact this
  go_wp2_with (first
    | (refine wpList_load_mid rfl 24 (.tmp 3) rfl _ _ rfl cs _ HRg.out Try.underlying24 rfl HI.out ?_)
    | (refine wpList_store_mid rfl 24 (.tmp 2) (.tmp 30) rfl _ _ cs.toArray rfl rfl HTh.out HI2.out (all_oneCell_toArray HcsO.out) ?_))
  have hld := run_loadVar_mid (P := Try.prog) (w5.setCells (w.heap.size + 1) 0 cs) (w.heap.size + 1) 0 24 cs _ (World.rangeAt_setCells_same _ _ _ _ (by have := HTh.out; rw [List.size_toArray] at this; exact this)) Try.underlying24 rfl HI.out
  rw [Hcs.out]
  refine bodyPost_ret (v := .agg cs.toArray) ?_ rfl ⟨rfl, below_setCells (by omega) cs 0 HB.out⟩
  simp [results, Try.results5, asAddr, hld, Act.put]
end Go.Proofs.Ytfpodnleimhohab

/-
  ARGUMENTS OPENED: settings, lists of numbers.
-/
namespace Go.Proofs.Ytfpodnleimhohab
open Go.ChangeShapes Go.WideShapes Go.ChangeAt Go.RowKit
set_option linter.unusedVariables false

set_option maxRecDepth 100000 in
theorem open_config {H : Type} {enc : TypeId × Value → H} {W : World} {base : Nat} {spare : Nat → Bool} {held : Bool} {fuel : Nat} {cs : List Value} {x : DataW H × List MemPlace} (hl : cs.length = 5)
    (h : DataW.trod enc Try.prog W base spare held fuel 24 cs = some x) : ∃ r : Raw, r.Wf ∧ cs = r.cells := by
  obtain ⟨xs, k, hk, hxy, _, hxl, hf⟩ := DataW.trod_struct Try.underlying24 h
  match xs, hxl, cs, hl with
  | [y0, y1, y2, y3, y4], _, [v0, v1, v2, v3, v4], _ =>
    have g0 := hf 0 _ rfl
    have g1 := hf 1 _ rfl
    have g2 := hf 2 _ rfl
    have g3 := hf 3 _ rfl
    have g4 := hf 4 _ rfl
    simp [show Try.prog.cellsOf 22 = 1 by kernel_rfl, show Try.prog.cellsOf 5 = 1 by kernel_rfl, show Try.prog.cellsOf 21 = 1 by kernel_rfl] at g0 g1 g2 g3 g4
    obtain ⟨z0, hz0, _, wz0⟩ := DataW.trod_int Try.underlying22 g0
    obtain ⟨z1, hz1, _, wz1⟩ := DataW.trod_int Try.underlying5 g1
    obtain ⟨z2, hz2, _, wz2⟩ := DataW.trod_int Try.underlying21 g2
    obtain ⟨z3, hz3, _, wz3⟩ := DataW.trod_int Try.underlying21 g3
    obtain ⟨z4, hz4, _, wz4⟩ := DataW.trod_int Try.underlying5 g4
    simp at hz0 hz1 hz2 hz3 hz4
    have b0 := bounds_u64 wz0
    have b1 := bounds_u8 wz1
    have b2 := bounds_i32 wz2
    have b3 := bounds_i32 wz3
    have b4 := bounds_u8 wz4
    obtain ⟨q0, rfl⟩ := Int.eq_ofNat_of_zero_le b0.1
    obtain ⟨q1, rfl⟩ := Int.eq_ofNat_of_zero_le b1.1
    obtain ⟨q4, rfl⟩ := Int.eq_ofNat_of_zero_le b4.1
    refine ⟨⟨q0, q1, z2, z3, q4⟩, ⟨by show q0 < _; omega, by show q1 ≤ _; omega, ⟨by show _ ≤ z2; omega, by show z2 ≤ _; omega⟩, ⟨by show _ ≤ z3; omega, by show z3 ≤ _; omega⟩, by show q4 ≤ _; omega⟩, ?_⟩
    subst hz0 hz1 hz2 hz3 hz4
    rfl

theorem Cf.raw_cf (c : Cf) : c.raw.cf = c := by
  obtain ⟨a, b, c, d, e⟩ := c
  simp [Cf.raw, Raw.cf]
theorem Cf.raw_ok {c : Cf} (h : c.Ok) : c.raw.ok = true := by
  have h1 := h.batch1
  have h2 := h.batch8
  have h3 := h.rate
  have h4 := h.mom
  have h5 := h.decay
  obtain ⟨a, b, c, d, e⟩ := c
  simp only at h1 h2 h3 h4 h5
  exact decide_eq_true (by simp only [Cf.raw]; omega)
theorem Cf.raw_wf {c : Cf} (h : c.Ok) : c.raw.Wf := by
  have h0 := h.seed
  have h2 := h.batch8
  have h3 := h.rate
  have h4 := h.mom
  have h5 := h.decay
  obtain ⟨a, b, c, d, e⟩ := c
  simp only at *
  exact ⟨h0, by show b ≤ 255; omega, ⟨by show -2147483648 ≤ (c : Int); omega, by show (c : Int) ≤ 2147483647; omega⟩, ⟨by show -2147483648 ≤ (d : Int); omega, by show (d : Int) ≤ 2147483647; omega⟩, by show e ≤ 255; omega⟩

/-- What a walk is told of a []int. -/
def IsInts (w : World) (a : Option Addr) (len cap : Nat) (N : Nat → Int) : Prop :=
  len = 0 ∨ ∃ b off, a = some ⟨b, off, none⟩ ∧ len ≤ cap ∧ cap ≤ maxLen ∧ b < w.heap.size ∧
    ∀ i, i < len → w.cell? ⟨b, off + i, none⟩ = some (.int .i64 (N i)) ∧ -9223372036854775808 ≤ N i ∧ N i ≤ 9223372036854775807
theorem IsInts.later {w w' : World} {a : Option Addr} {len cap : Nat} {N : Nat → Int} (h : IsInts w a len cap N) (hb : Below w.heap.size w w') : IsInts w' a len cap N := by
  rcases h with h | ⟨b, off, h1, h2, h3, h4, h5⟩
  · exact .inl h
  · exact .inr ⟨b, off, h1, h2, h3, Nat.lt_of_lt_of_le h4 hb.size, fun i hi => ⟨(hb.cell (p := ⟨b, off + i, none⟩) h4).trans (h5 i hi).1, (h5 i hi).2⟩⟩
set_option maxRecDepth 100000 in
theorem open_ints {H : Type} {enc : TypeId × Value → H} {W : World} {base : Nat} {spare : Nat → Bool} {held : Bool} {fuel : Nat} {a : Option Addr} {len cap : Nat} {x : DataW H × List MemPlace}
    (h : DataW.trod enc Try.prog W base spare held fuel 31 [.slice a len cap] = some x) : ∃ N, IsInts W a len cap N := by
  rcases Go.Deep.open_slice (P := Try.prog) Try.underlying31 h with ⟨hcs, _⟩ | ⟨x, l, c, m, n, D, Pl, hcs, hb, hl, hm, hmm, _, hx⟩
  · simp at hcs
    obtain ⟨rfl, rfl, rfl⟩ := hcs
    exact ⟨fun _ => 0, .inl rfl⟩
  · simp at hcs
    obtain ⟨rfl, rfl, rfl⟩ := hcs
    by_cases h0 : len = 0
    · exact ⟨fun _ => 0, .inl h0⟩
    have hlm : len ≤ m := by rw [hmm]; split <;> omega
    have each : ∀ i, i < m → ∃ q : Int, W.cell? (x.add i) = some (.int .i64 q) ∧ -9223372036854775808 ≤ q ∧ q ≤ 9223372036854775807 := by
      intro i hi
      obtain ⟨cs', h1, h2⟩ := hx i hi
      rw [show Try.prog.cellsOf 3 = 1 by kernel_rfl] at h1
      obtain ⟨_, hlen, hcell⟩ := World.cells?_some h1
      match cs', hlen with
      | [v0], _ =>
        have e0 := hcell 0 (by omega)
        rw [Go.Deep.add_add] at e0
        obtain ⟨z0, hz0, _, wz0⟩ := DataW.trod_int Try.underlying3 h2
        simp at hz0
        have b0 := bounds_i64 wz0
        exact ⟨z0, by simpa [hz0] using e0, by omega, by omega⟩
    obtain ⟨q, hq⟩ := Go.Deep.choose_lt each
    obtain ⟨b, off, spot⟩ := x
    have c0 := (hq 0 (by omega)).1
    have hspot : spot = none := by simpa [Addr.add] using World.cell?_spot c0
    subst hspot
    have hlt : b < W.heap.size := by simpa [Addr.add] using World.block_lt_of_cell? W _ c0
    refine ⟨q, .inr ⟨b, off, rfl, hl, hm, hlt, fun i hi => ?_⟩⟩
    have := hq i (by omega)
    rw [add_plain] at this
    exact this
theorem IsInts.len {w : World} {a : Option Addr} {len cap : Nat} {N : Nat → Int} (h : IsInts w a len cap N) : len ≤ maxLen := by
  rcases h with h | ⟨_, _, _, h1, h2, _⟩
  · rw [h]; exact Nat.zero_le _
  · exact Nat.le_trans h1 h2
end Go.Proofs.Ytfpodnleimhohab
