import Derived.Test.YtfpodnleimhohabGreatDoorWalks3
import Derived.ProofKit
import Derived.ShutString
import Derived.ChangeOld
import Derived.Below
import Derived.Deep.SlicePairs
import Derived.Test.YtfpodnleimhohabGreatDoorWalksS
import Derived.Test.YtfpodnleimhohabGreatDoorGen
/-
  ARGUMENTS OPENED: lists of examples, lists of strings.
-/
namespace Go.Proofs.YtfpodnleimhohabGreatDoor
open Go.ChangeShapes Go.WideShapes Go.ChangeAt Go.RowKit
open Go.ChangeMaps (open_string shut_string)
set_option linter.unusedVariables false

theorem own : ownKnob Tryz.prog.godebug = none := by kernel_rfl
theorem laidOut : laidOutB Tryz.prog = true := by kernel_rfl

/-- An argument of the type []api.Example, opened. -/
theorem open_exs {H : Type} {enc : TypeId × Value → H} {W : World} {base : Nat} {spare : Nat → Bool} {held : Bool} {fuel : Nat} {a : Option Addr} {len cap : Nat} {x : DataW H × List MemPlace}
    (h : DataW.trod enc Tryz.prog W base spare held fuel 58 [.slice a len cap] = some x) : ∃ L T, IsExs W a len cap L T := by
  rcases Go.Deep.open_slice_pairs (P := Tryz.prog) Tryz.underlying58 Tryz.underlying97 (by kernel_rfl) rfl rfl (by kernel_rfl) (by kernel_rfl) h with ⟨hcs, _⟩ | ⟨x, l, c, m, n, V0, V1, D0, D1, P0, P1, hcs, hb, hl, hm, hmm, _, hc⟩
  · simp at hcs
    obtain ⟨rfl, rfl, rfl⟩ := hcs
    exact ⟨fun _ => 0, fun _ => ByteArray.empty, .inl rfl⟩
  · simp at hcs
    obtain ⟨rfl, rfl, rfl⟩ := hcs
    by_cases h0 : len = 0
    · exact ⟨fun _ => 0, fun _ => ByteArray.empty, .inl h0⟩
    have hlm : len ≤ m := by rw [hmm]; split <;> omega
    obtain ⟨b, off, spot⟩ := x
    have c0 := (hc 0 (by omega)).1
    have hspot : spot = none := by simpa [Addr.add] using World.cell?_spot c0
    subst hspot
    have hlt : b < W.heap.size := by simpa [Addr.add] using World.block_lt_of_cell? W _ c0
    have each : ∀ i, i < m → ∃ q : Int × ByteArray, W.cell? ⟨b, off + i * 2, none⟩ = some (.int .u8 q.1) ∧ W.cell? ⟨b, off + i * 2 + 1, none⟩ = some (.string q.2) ∧ 0 ≤ q.1 ∧ q.1 ≤ 255 ∧ q.2.size ≤ maxLen := by
      intro i hi
      obtain ⟨e0, e1, t0, t1⟩ := hc i hi
      rw [add_plain] at e0 e1
      obtain ⟨z, hz, _, wz⟩ := DataW.trod_int Tryz.underlying5 t0
      obtain ⟨s, hs, _, ws⟩ := DataW.trod_string Tryz.underlying9 t1
      simp at hz hs
      have bz := bounds_u8 wz
      exact ⟨(z, s), by simpa [hz] using e0, by simpa [hs, Nat.add_assoc] using e1, bz.1, bz.2, ws⟩
    obtain ⟨q, hq⟩ := Go.Deep.choose_lt each
    exact ⟨fun i => (q i).1, fun i => (q i).2, .inr ⟨b, off, rfl, hl, hm, hlt, fun i hi => hq i (by omega)⟩⟩

theorem IsExs.len {w : World} {a : Option Addr} {len cap : Nat} {L : Nat → Int} {T : Nat → ByteArray} (h : IsExs w a len cap L T) : len ≤ maxLen := by
  rcases h with h | ⟨_, _, _, h1, h2, _⟩
  · rw [h]; exact Nat.zero_le _
  · exact Nat.le_trans h1 h2
theorem IsStrs.len {w : World} {a : Option Addr} {len cap : Nat} {T : Nat → ByteArray} (h : IsStrs w a len cap T) : len ≤ maxLen := by
  rcases h with h | ⟨_, _, _, h1, h2, _⟩
  · rw [h]; exact Nat.zero_le _
  · exact Nat.le_trans h1 h2

end Go.Proofs.YtfpodnleimhohabGreatDoor

/-
  WALKS: pick, turn.
-/
namespace Go.Proofs.YtfpodnleimhohabGreatDoor
open Go.RowKit
set_option linter.unusedVariables false

/-- Which of n things a raw number speaks of. -/
def pickN (c : Int) (n : Nat) : Nat := (if c < 0 then -(c + 1) else c).toNat % n
theorem pickN_lt (c : Int) {n : Nat} (h : 1 ≤ n) : pickN c n < n := Nat.mod_lt _ (by omega)

end Go.Proofs.YtfpodnleimhohabGreatDoor

/-
  WALKS: settings out of raw ones.
-/
namespace Go.Proofs.YtfpodnleimhohabGreatDoor
open Go.RowKit
set_option linter.unusedVariables false

/-- Settings that are made out of raw ones. -/
def setN (r : Raw) : Cf := ⟨r.seed, 1 + r.batch % 8, pickN r.rate 65537, pickN r.mom 65536, r.decay % 32⟩
theorem setN_ok (r : Raw) (hw : r.Wf) : (setN r).Ok :=
  ⟨hw.seed, by show 1 ≤ 1 + r.batch % 8; omega, by show 1 + r.batch % 8 ≤ 8; omega, by have := pickN_lt r.rate (n := 65537) (by decide); show pickN r.rate 65537 ≤ 65536; omega, pickN_lt r.mom (n := 65536) (by decide), by show r.decay % 32 ≤ 31; omega⟩
def Cf.raw (c : Cf) : Raw := ⟨c.seed, c.batch, c.rate, c.mom, c.decay⟩

end Go.Proofs.YtfpodnleimhohabGreatDoor

/-
  ARGUMENTS OPENED: settings, lists of numbers.
-/
namespace Go.Proofs.YtfpodnleimhohabGreatDoor
open Go.ChangeShapes Go.WideShapes Go.ChangeAt Go.RowKit
set_option linter.unusedVariables false

set_option maxRecDepth 100000 in
theorem open_config {H : Type} {enc : TypeId × Value → H} {W : World} {base : Nat} {spare : Nat → Bool} {held : Bool} {fuel : Nat} {cs : List Value} {x : DataW H × List MemPlace} (hl : cs.length = 5)
    (h : DataW.trod enc Tryz.prog W base spare held fuel 24 cs = some x) : ∃ r : Raw, r.Wf ∧ cs = r.cells := by
  obtain ⟨xs, k, hk, hxy, _, hxl, hf⟩ := DataW.trod_struct Tryz.underlying24 h
  match xs, hxl, cs, hl with
  | [y0, y1, y2, y3, y4], _, [v0, v1, v2, v3, v4], _ =>
    have g0 := hf 0 _ rfl
    have g1 := hf 1 _ rfl
    have g2 := hf 2 _ rfl
    have g3 := hf 3 _ rfl
    have g4 := hf 4 _ rfl
    simp [show Tryz.prog.cellsOf 22 = 1 by kernel_rfl, show Tryz.prog.cellsOf 5 = 1 by kernel_rfl, show Tryz.prog.cellsOf 21 = 1 by kernel_rfl] at g0 g1 g2 g3 g4
    obtain ⟨z0, hz0, _, wz0⟩ := DataW.trod_int Tryz.underlying22 g0
    obtain ⟨z1, hz1, _, wz1⟩ := DataW.trod_int Tryz.underlying5 g1
    obtain ⟨z2, hz2, _, wz2⟩ := DataW.trod_int Tryz.underlying21 g2
    obtain ⟨z3, hz3, _, wz3⟩ := DataW.trod_int Tryz.underlying21 g3
    obtain ⟨z4, hz4, _, wz4⟩ := DataW.trod_int Tryz.underlying5 g4
    simp at hz0 hz1 hz2 hz3 hz4
    have b0 := bounds_u64 wz0
    have b1 := bounds_u8 wz1
    have b2 := bounds_i32 wz2
    have b3 := bounds_i32 wz3
    have b4 := bounds_u8 wz4
    obtain ⟨q0, rfl⟩ := Int.eq_ofNat_of_zero_le b0.1
    obtain ⟨q1, rfl⟩ := Int.eq_ofNat_of_zero_le b1.1
    obtain ⟨q4, rfl⟩ := Int.eq_ofNat_of_zero_le b4.1
    refine ⟨⟨q0, q1, z2, z3, q4⟩, ⟨by show q0 < _; omega, by show q1 ≤ _; omega, ⟨by show _ ≤ z2; omega, by show z2 ≤ _; omega⟩, ⟨by show _ ≤ z3; omega, by show z3 ≤ _; omega⟩, by show q4 ≤ _; omega⟩, ?_⟩
    subst hz0 hz1 hz2 hz3 hz4
    rfl

theorem Cf.raw_cf (c : Cf) : c.raw.cf = c := by
  obtain ⟨a, b, c, d, e⟩ := c
  simp [Cf.raw, Raw.cf]
theorem Cf.raw_ok {c : Cf} (h : c.Ok) : c.raw.ok = true := by
  have h1 := h.batch1
  have h2 := h.batch8
  have h3 := h.rate
  have h4 := h.mom
  have h5 := h.decay
  obtain ⟨a, b, c, d, e⟩ := c
  simp only at h1 h2 h3 h4 h5
  exact decide_eq_true (by simp only [Cf.raw]; omega)
theorem Cf.raw_wf {c : Cf} (h : c.Ok) : c.raw.Wf := by
  have h0 := h.seed
  have h2 := h.batch8
  have h3 := h.rate
  have h4 := h.mom
  have h5 := h.decay
  obtain ⟨a, b, c, d, e⟩ := c
  simp only at *
  exact ⟨h0, by show b ≤ 255; omega, ⟨by show -2147483648 ≤ (c : Int); omega, by show (c : Int) ≤ 2147483647; omega⟩, ⟨by show -2147483648 ≤ (d : Int); omega, by show (d : Int) ≤ 2147483647; omega⟩, by show e ≤ 255; omega⟩

/-- What a walk is told of a []int. -/
def IsInts (w : World) (a : Option Addr) (len cap : Nat) (N : Nat → Int) : Prop :=
  len = 0 ∨ ∃ b off, a = some ⟨b, off, none⟩ ∧ len ≤ cap ∧ cap ≤ maxLen ∧ b < w.heap.size ∧
    ∀ i, i < len → w.cell? ⟨b, off + i, none⟩ = some (.int .i64 (N i)) ∧ -9223372036854775808 ≤ N i ∧ N i ≤ 9223372036854775807
theorem IsInts.later {w w' : World} {a : Option Addr} {len cap : Nat} {N : Nat → Int} (h : IsInts w a len cap N) (hb : Below w.heap.size w w') : IsInts w' a len cap N := by
  rcases h with h | ⟨b, off, h1, h2, h3, h4, h5⟩
  · exact .inl h
  · exact .inr ⟨b, off, h1, h2, h3, Nat.lt_of_lt_of_le h4 hb.size, fun i hi => ⟨(hb.cell (p := ⟨b, off + i, none⟩) h4).trans (h5 i hi).1, (h5 i hi).2⟩⟩
set_option maxRecDepth 100000 in
theorem open_ints {H : Type} {enc : TypeId × Value → H} {W : World} {base : Nat} {spare : Nat → Bool} {held : Bool} {fuel : Nat} {a : Option Addr} {len cap : Nat} {x : DataW H × List MemPlace}
    (h : DataW.trod enc Tryz.prog W base spare held fuel 73 [.slice a len cap] = some x) : ∃ N, IsInts W a len cap N := by
  rcases Go.Deep.open_slice (P := Tryz.prog) Tryz.underlying73 h with ⟨hcs, _⟩ | ⟨x, l, c, m, n, D, Pl, hcs, hb, hl, hm, hmm, _, hx⟩
  · simp at hcs
    obtain ⟨rfl, rfl, rfl⟩ := hcs
    exact ⟨fun _ => 0, .inl rfl⟩
  · simp at hcs
    obtain ⟨rfl, rfl, rfl⟩ := hcs
    by_cases h0 : len = 0
    · exact ⟨fun _ => 0, .inl h0⟩
    have hlm : len ≤ m := by rw [hmm]; split <;> omega
    have each : ∀ i, i < m → ∃ q : Int, W.cell? (x.add i) = some (.int .i64 q) ∧ -9223372036854775808 ≤ q ∧ q ≤ 9223372036854775807 := by
      intro i hi
      obtain ⟨cs', h1, h2⟩ := hx i hi
      rw [show Tryz.prog.cellsOf 3 = 1 by kernel_rfl] at h1
      obtain ⟨_, hlen, hcell⟩ := World.cells?_some h1
      match cs', hlen with
      | [v0], _ =>
        have e0 := hcell 0 (by omega)
        rw [Go.Deep.add_add] at e0
        obtain ⟨z0, hz0, _, wz0⟩ := DataW.trod_int Tryz.underlying3 h2
        simp at hz0
        have b0 := bounds_i64 wz0
        exact ⟨z0, by simpa [hz0] using e0, by omega, by omega⟩
    obtain ⟨q, hq⟩ := Go.Deep.choose_lt each
    obtain ⟨b, off, spot⟩ := x
    have c0 := (hq 0 (by omega)).1
    have hspot : spot = none := by simpa [Addr.add] using World.cell?_spot c0
    subst hspot
    have hlt : b < W.heap.size := by simpa [Addr.add] using World.block_lt_of_cell? W _ c0
    refine ⟨q, .inr ⟨b, off, rfl, hl, hm, hlt, fun i hi => ?_⟩⟩
    have := hq i (by omega)
    rw [add_plain] at this
    exact this
theorem IsInts.len {w : World} {a : Option Addr} {len cap : Nat} {N : Nat → Int} (h : IsInts w a len cap N) : len ≤ maxLen := by
  rcases h with h | ⟨_, _, _, h1, h2, _⟩
  · rw [h]; exact Nat.zero_le _
  · exact Nat.le_trans h1 h2
end Go.Proofs.YtfpodnleimhohabGreatDoor
