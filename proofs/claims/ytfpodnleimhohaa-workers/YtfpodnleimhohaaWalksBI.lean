/-
  WALKS: a run over the frames of examples ('begun').
-/
import Derived.Test.YtfpodnleimhohaaWalksBH
import Derived.Test.YtfpodnleimhohaaLay
import Derived.Test.YtfpodnleimhohaaWalksN
namespace Go.Proofs.Ytfpodnleimhohaa
open Go.RowKit
set_option linter.unusedVariables false
variable {mk : ByteArray}

/-- The examples as labelled texts. -/
def exNat (X : List (Int × List UInt8)) : List Ex := X.map fun x => (x.1.toNat, x.2)
theorem exNat_length (X : List (Int × List UInt8)) : (exNat X).length = X.length := by simp [exNat]
theorem exsOf_lay (N : Nat → List UInt8) : ∀ (X : List (Int × List UInt8)) (i p : Nat), (∀ x ∈ X, ExOk x) → exsOf (layRecs N i p (bodies X)) = exNat X := by
  intro X
  induction X with
  | nil => intro i p _; rfl
  | cons x X ih =>
    intro i p h
    have hx := h x List.mem_cons_self
    have h8 := by8_toNat x.1 hx.1 (by have := hx.2.1; omega)
    have e : bodies (x :: X) = body x.1 x.2 :: bodies X := rfl
    rw [e, layRecs]
    simp only [exsOf, List.map_cons, exNat]
    have ih' := ih (i + 1) (p + (N i).length + (frameB (body x.1 x.2)).length) (fun y hy => h y (List.mem_cons_of_mem _ hy))
    simp only [exsOf, exNat] at ih'
    rw [ih']
    congr 1
    simp only [exOf, body, List.headD_cons, List.tail_cons]
    rw [show (by8 x.1).toNat = x.1.toNat by omega]
/-- What is framed is what is read. -/
theorem lay_recs (N : Nat → List UInt8) (hN : ∀ i, ∀ c ∈ N i, c ≠ 213) (X : List (Int × List UInt8)) (hX : ∀ x ∈ X, ExOk x) : exsOf (recs (layFrom N 0 (framesL X))) = exNat X ∧ (recs (layFrom N 0 (framesL X))).length = X.length := by
  have h := recsAt_lay (layFrom N 0 (framesL X)) N hN (bodies X) 0 0 (bodies_ok hX) (by omega) (by rw [List.drop_zero, frames_bodies])
  unfold recs
  rw [h]
  exact ⟨exsOf_lay N X 0 0 hX, by rw [layRecs_length]; simp [bodies]⟩
theorem exNat_ok {X : List (Int × List UInt8)} (h : ∀ x ∈ X, ExOk x) : ∀ x ∈ exNat X, x.1 < 4 ∧ x.2.length ≤ 200 := by
  intro x hx
  obtain ⟨y, hy, rfl⟩ := List.mem_map.1 hx
  obtain ⟨h0, h1, h2⟩ := h y hy
  exact ⟨by show y.1.toNat < 4; omega, by show y.2.length ≤ 200; omega⟩

set_option maxRecDepth 100000 in
set_option maxHeartbeats 2000000 in
theorem begun_any (r : Raw) (hw : r.Wf) (hr : r.ok = true) (a0 : Option Addr) (len0 cap0 : Nat) (L0 : Nat → Int) (T0 : Nat → ByteArray) (a1 : Option Addr) (len1 cap1 : Nat) (T1 : Nat → ByteArray) (w : World)
    (h0 : IsExs w a0 len0 cap0 L0 T0) (hm0 : len0 ≤ maxLen) (h1 : IsStrs w a1 len1 cap1 T1) (hm1 : len1 ≤ maxLen) :
    Calls Try.prog 30 #[.agg r.cells.toArray, .slice a0 len0 cap0, .slice a1 len1 cap1] w fun e w' => ∃ g vX, e = .returned (.tuple #[.pointer (some ⟨g, 0, none⟩), .string (bs (layFrom (noiseL T1 len1) 0 (framesL (exs len0 L0 T0)))), .int .i64 ((exs len0 L0 T0).length : Nat)]) ∧ w.heap.size ≤ g ∧
      ProgRun w' g r.cf (markB r.cf (bs (layFrom (noiseL T1 len1) 0 (framesL (exs len0 L0 T0))))) vX St.zero ∧ w'.ownsRow w.heap.size 27 2 vX (exs len0 L0 T0).length (exNsCells (exNat (exs len0 L0 T0))) ∧ Below w.heap.size w w' := by
  have HNew : Hid (∀ (s : ByteArray), s.size ≤ 600 → 0 < (recs (ls s)).length → ∀ w1, _) := fun s hs hne w1 => progNew_ok r hw hr s hs hne w1
  have H0 : Hid (IsExs w a0 len0 cap0 L0 T0) := h0
  have H1 : Hid (IsStrs w a1 len1 cap1 T1) := h1
  have hX8 := exs_len len0 L0 T0
  have HXok : Hid _ := exs_ok len0 L0 T0
  have HEx : Hid (∀ w1, IsExs w1 a0 len0 cap0 L0 T0 → _) := fun w1 h => examples_any a0 len0 cap0 L0 T0 w1 h hm0
  obtain ⟨X, HXe⟩ : ∃ X, Hid (exs len0 L0 T0 = X) := ⟨_, (rfl : _ = _)⟩
  rw [HXe.out] at hX8 HXok HEx ⊢
  have hl1 := layFrom_len (noiseL T1 len1) (noiseL_le T1 len1) (framesL X) 0 (framesL_le HXok.out)
  have hl2 : (framesL X).length = X.length := by simp [framesL]
  obtain ⟨hrl1, hrl2⟩ := lay_recs (noiseL T1 len1) (noiseL_213 T1 len1) X HXok.out
  obtain ⟨s, HS⟩ : ∃ s, Hid (bs (layFrom (noiseL T1 len1) 0 (framesL X)) = s) := ⟨_, (rfl : _ = _)⟩
  have hs : s.size ≤ 600 := by rw [← HS.out, bs_size]; omega
  have HLs : Hid (exsOf (recs (ls s)) = exNat X) := by show _ = _; rw [← HS.out, ls_bs]; exact hrl1
  have HLn : Hid ((recs (ls s)).length = X.length) := by show _ = _; rw [← HS.out, ls_bs]; exact hrl2
  rw [HS.out]
  clear hl1 hl2 hrl1 hrl2 h0 h1 hw hr
  obtain ⟨cf, Hcf⟩ : ∃ cf, Hid (r.cf = cf) := ⟨_, (rfl : _ = _)⟩
  rw [Hcf.out] at HNew ⊢
  obtain ⟨sd, bt, ra, mo, de⟩ := r
  show Calls Try.prog 30 #[.agg #[.int .u64 sd, .int .u8 bt, .int .i32 ra, .int .i32 mo, .int .u8 de], .slice a0 len0 cap0, .slice a1 len1 cap1] w _
  go_enter Try.func30, Try.ntmps30
  go_wp2_with fail
  obtain ⟨w0, Hw0⟩ : ∃ w0, Hid (w.alloc (.cells #[.int .u64 sd, .int .u8 bt, .int .i32 ra, .int .i32 mo, .int .u8 de] 70) = w0) := ⟨_, (rfl : _ = _)⟩
  rw [Hw0.out]
  have HB0 : Hid (Below w.heap.size w w0) := by rw [← Hw0.out]; exact (Below.refl _ _).alloc (Nat.le_refl _) _
  have HC0 : Hid (CellsAt w0 w.heap.size 70 [.int .u64 sd, .int .u8 bt, .int .i32 ra, .int .i32 mo, .int .u8 de]) := by rw [← Hw0.out]; exact CellsAt.new w _ _ _ rfl rfl
  clear Hw0
  refine (HEx.out _ (H0.out.later HB0.out)).mono ?_
  rintro e w2 ⟨vX, rfl, hX, hb2⟩
  have HoX : Hid (w2.ownsRow w0.heap.size 27 2 vX X.length (exsCells X)) := hX
  have HB2 : Hid (Below w.heap.size w w2) := HB0.out.trans (hb2.mono HB0.out.size)
  have HC2 : Hid (CellsAt w2 w.heap.size 70 [.int .u64 sd, .int .u8 bt, .int .i32 ra, .int .i32 mo, .int .u8 de]) := CellsAt.later HC0.out hb2
  clear hX hb2 HC0
  go_wp2_with fail
  refine (frames_any _ vX X _ HoX.out HXok.out hX8.2).mono ?_
  rintro e w3 ⟨vF, rfl, hF, hb3⟩
  have HoF : Hid (w3.ownsRow w2.heap.size 9 1 vF X.length (strCells (framesL X))) := hF
  have HB3 : Hid (Below w.heap.size w w3) := HB2.out.trans (hb3.mono HB2.out.size)
  have HC3 : Hid (CellsAt w3 w.heap.size 70 [.int .u64 sd, .int .u8 bt, .int .i32 ra, .int .i32 mo, .int .u8 de]) := CellsAt.later HC2.out hb3
  obtain ⟨aX, cX, hvX, hx1, hx2, _⟩ := own_read (ownsRow_below HoX.out hb3)
  subst hvX
  clear hF hb3 HoX HC2 HB2
  unfold maxLen at hx2
  go_wp2_with fail
  refine (laid_any _ vF (framesL X) _ (by rw [show (framesL X).length = X.length by simp [framesL]]; exact HoF.out) (framesL_le HXok.out) (by simpa [framesL] using hX8.2) a1 len1 cap1 T1 hm1 (H1.out.later HB3.out)).mono ?_
  rintro e w3' ⟨rfl, hw⟩
  have hw' := hw.symm
  clear hw
  subst hw'
  rw [HS.out]
  have c0 := CellsAt.cell HC3.out 0
  have c1 := CellsAt.cell HC3.out 1
  have c2 := CellsAt.cell HC3.out 2
  have c3 := CellsAt.cell HC3.out 3
  have c4 := CellsAt.cell HC3.out 4
  simp only [List.getElem?_cons_zero, List.getElem?_cons_succ] at c0 c1 c2 c3 c4
  have hXb : X.length ≤ 8 := hX8.2
  go_wp2_with fail
  refine (HNew.out s hs (by rw [HLn.out]; exact hX8.1) _).mono ?_
  rintro e w4 ⟨g, vY, rfl, hg, hPR, hO, hb4⟩
  rw [HLn.out, HLs.out] at hO
  have HP : Hid (ProgRun w4 g cf (markB cf s) vY St.zero ∧ w4.ownsRow w.heap.size 27 2 vY X.length (exNsCells (exNat X)) ∧ w.heap.size ≤ g ∧ Below w.heap.size w w4) := ⟨hPR, own_base hO HB3.out.size, Nat.le_trans HB3.out.size hg, HB3.out.trans (hb4.mono HB3.out.size)⟩
  clear hg hPR hO hb4 c0 c1 c2 c3 c4 hX8
  go_wp2
  go_ret3
  exact ⟨g, vY, rfl, HP.out.2.2.1, HP.out.1, HP.out.2.1, HP.out.2.2.2⟩
end Go.Proofs.Ytfpodnleimhohaa
