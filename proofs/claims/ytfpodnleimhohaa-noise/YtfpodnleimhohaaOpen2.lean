/-
  ARGUMENTS OPENED: settings, lists of numbers.
-/
import Derived.Test.YtfpodnleimhohaaOpen
import Derived.Test.YtfpodnleimhohaaWalksN
namespace Go.Proofs.Ytfpodnleimhohaa
open Go.ChangeShapes Go.WideShapes Go.ChangeAt Go.RowKit
set_option linter.unusedVariables false

set_option maxRecDepth 100000 in
theorem open_config {H : Type} {enc : TypeId × Value → H} {W : World} {base : Nat} {spare : Nat → Bool} {held : Bool} {fuel : Nat} {cs : List Value} {x : DataW H × List MemPlace} (hl : cs.length = 5)
    (h : DataW.trod enc Try.prog W base spare held fuel 70 cs = some x) : ∃ r : Raw, r.Wf ∧ cs = r.cells := by
  obtain ⟨xs, k, hk, hxy, _, hxl, hf⟩ := DataW.trod_struct Try.underlying70 h
  match xs, hxl, cs, hl with
  | [y0, y1, y2, y3, y4], _, [v0, v1, v2, v3, v4], _ =>
    have g0 := hf 0 _ rfl
    have g1 := hf 1 _ rfl
    have g2 := hf 2 _ rfl
    have g3 := hf 3 _ rfl
    have g4 := hf 4 _ rfl
    simp [show Try.prog.cellsOf 56 = 1 by kernel_rfl, show Try.prog.cellsOf 5 = 1 by kernel_rfl, show Try.prog.cellsOf 21 = 1 by kernel_rfl] at g0 g1 g2 g3 g4
    obtain ⟨z0, hz0, _, wz0⟩ := DataW.trod_int Try.underlying56 g0
    obtain ⟨z1, hz1, _, wz1⟩ := DataW.trod_int Try.underlying5 g1
    obtain ⟨z2, hz2, _, wz2⟩ := DataW.trod_int Try.underlying21 g2
    obtain ⟨z3, hz3, _, wz3⟩ := DataW.trod_int Try.underlying21 g3
    obtain ⟨z4, hz4, _, wz4⟩ := DataW.trod_int Try.underlying5 g4
    simp at hz0 hz1 hz2 hz3 hz4
    have b0 := bounds_u64 wz0
    have b1 := bounds_u8 wz1
    have b2 := bounds_i32 wz2
    have b3 := bounds_i32 wz3
    have b4 := bounds_u8 wz4
    obtain ⟨q0, rfl⟩ := Int.eq_ofNat_of_zero_le b0.1
    obtain ⟨q1, rfl⟩ := Int.eq_ofNat_of_zero_le b1.1
    obtain ⟨q4, rfl⟩ := Int.eq_ofNat_of_zero_le b4.1
    refine ⟨⟨q0, q1, z2, z3, q4⟩, ⟨by show q0 < _; omega, by show q1 ≤ _; omega, ⟨by show _ ≤ z2; omega, by show z2 ≤ _; omega⟩, ⟨by show _ ≤ z3; omega, by show z3 ≤ _; omega⟩, by show q4 ≤ _; omega⟩, ?_⟩
    subst hz0 hz1 hz2 hz3 hz4
    rfl

theorem Cf.raw_cf (c : Cf) : c.raw.cf = c := by
  obtain ⟨a, b, c, d, e⟩ := c
  simp [Cf.raw, Raw.cf]
theorem Cf.raw_ok {c : Cf} (h : c.Ok) : c.raw.ok = true := by
  have h1 := h.batch1
  have h2 := h.batch8
  have h3 := h.rate
  have h4 := h.mom
  have h5 := h.decay
  obtain ⟨a, b, c, d, e⟩ := c
  simp only at h1 h2 h3 h4 h5
  exact decide_eq_true (by simp only [Cf.raw]; omega)
theorem Cf.raw_wf {c : Cf} (h : c.Ok) : c.raw.Wf := by
  have h0 := h.seed
  have h2 := h.batch8
  have h3 := h.rate
  have h4 := h.mom
  have h5 := h.decay
  obtain ⟨a, b, c, d, e⟩ := c
  simp only at *
  exact ⟨h0, by show b ≤ 255; omega, ⟨by show -2147483648 ≤ (c : Int); omega, by show (c : Int) ≤ 2147483647; omega⟩, ⟨by show -2147483648 ≤ (d : Int); omega, by show (d : Int) ≤ 2147483647; omega⟩, by show e ≤ 255; omega⟩

/-- What a walk is told of a []int. -/
def IsInts (w : World) (a : Option Addr) (len cap : Nat) (N : Nat → Int) : Prop :=
  len = 0 ∨ ∃ b off, a = some ⟨b, off, none⟩ ∧ len ≤ cap ∧ cap ≤ maxLen ∧ b < w.heap.size ∧
    ∀ i, i < len → w.cell? ⟨b, off + i, none⟩ = some (.int .i64 (N i)) ∧ -9223372036854775808 ≤ N i ∧ N i ≤ 9223372036854775807
theorem IsInts.later {w w' : World} {a : Option Addr} {len cap : Nat} {N : Nat → Int} (h : IsInts w a len cap N) (hb : Below w.heap.size w w') : IsInts w' a len cap N := by
  rcases h with h | ⟨b, off, h1, h2, h3, h4, h5⟩
  · exact .inl h
  · exact .inr ⟨b, off, h1, h2, h3, Nat.lt_of_lt_of_le h4 hb.size, fun i hi => ⟨(hb.cell (p := ⟨b, off + i, none⟩) h4).trans (h5 i hi).1, (h5 i hi).2⟩⟩
set_option maxRecDepth 100000 in
theorem open_ints {H : Type} {enc : TypeId × Value → H} {W : World} {base : Nat} {spare : Nat → Bool} {held : Bool} {fuel : Nat} {a : Option Addr} {len cap : Nat} {x : DataW H × List MemPlace}
    (h : DataW.trod enc Try.prog W base spare held fuel 75 [.slice a len cap] = some x) : ∃ N, IsInts W a len cap N := by
  rcases Go.Deep.open_slice (P := Try.prog) Try.underlying75 h with ⟨hcs, _⟩ | ⟨x, l, c, m, n, D, Pl, hcs, hb, hl, hm, hmm, _, hx⟩
  · simp at hcs
    obtain ⟨rfl, rfl, rfl⟩ := hcs
    exact ⟨fun _ => 0, .inl rfl⟩
  · simp at hcs
    obtain ⟨rfl, rfl, rfl⟩ := hcs
    by_cases h0 : len = 0
    · exact ⟨fun _ => 0, .inl h0⟩
    have hlm : len ≤ m := by rw [hmm]; split <;> omega
    have each : ∀ i, i < m → ∃ q : Int, W.cell? (x.add i) = some (.int .i64 q) ∧ -9223372036854775808 ≤ q ∧ q ≤ 9223372036854775807 := by
      intro i hi
      obtain ⟨cs', h1, h2⟩ := hx i hi
      rw [show Try.prog.cellsOf 3 = 1 by kernel_rfl] at h1
      obtain ⟨_, hlen, hcell⟩ := World.cells?_some h1
      match cs', hlen with
      | [v0], _ =>
        have e0 := hcell 0 (by omega)
        rw [Go.Deep.add_add] at e0
        obtain ⟨z0, hz0, _, wz0⟩ := DataW.trod_int Try.underlying3 h2
        simp at hz0
        have b0 := bounds_i64 wz0
        exact ⟨z0, by simpa [hz0] using e0, by omega, by omega⟩
    obtain ⟨q, hq⟩ := Go.Deep.choose_lt each
    obtain ⟨b, off, spot⟩ := x
    have c0 := (hq 0 (by omega)).1
    have hspot : spot = none := by simpa [Addr.add] using World.cell?_spot c0
    subst hspot
    have hlt : b < W.heap.size := by simpa [Addr.add] using World.block_lt_of_cell? W _ c0
    refine ⟨q, .inr ⟨b, off, rfl, hl, hm, hlt, fun i hi => ?_⟩⟩
    have := hq i (by omega)
    rw [add_plain] at this
    exact this
theorem IsInts.len {w : World} {a : Option Addr} {len cap : Nat} {N : Nat → Int} (h : IsInts w a len cap N) : len ≤ maxLen := by
  rcases h with h | ⟨_, _, _, h1, h2, _⟩
  · rw [h]; exact Nat.zero_le _
  · exact Nat.le_trans h1 h2
end Go.Proofs.Ytfpodnleimhohaa
