/-
  WALKS: examples out of raw ones; their frames.
-/
import Derived.Test.YtfpodnleimhohabWalks8
namespace Go.Proofs.Ytfpodnleimhohab
open Go.RowKit
set_option linter.unusedVariables false

theorem info_ex : (Try.prog.info? 72).map (fun i => (i.zero, i.size, i.bytes)) = some (some (.agg #[.int .u8 0, .string ⟨#[]⟩]), 2, 24) := by kernel_rfl

def exCells (x : Int × List UInt8) : List Value := [.int .u8 x.1, .string (bs x.2)]
def exsCells (l : List (Int × List UInt8)) : List Value := l.flatMap exCells
theorem exsCells_snoc (l : List (Int × List UInt8)) (x : Int × List UInt8) : exsCells (l ++ [x]) = exsCells l ++ exCells x := by simp [exsCells]
/-- The first k examples out of raw ones. -/
def exsTo (L : Nat → Int) (T : Nat → ByteArray) : Nat → List (Int × List UInt8)
  | 0 => []
  | k + 1 => exsTo L T k ++ [(L k % 4, (ls (T k)).take 40)]
theorem exsTo_length (L : Nat → Int) (T : Nat → ByteArray) : ∀ k, (exsTo L T k).length = k
  | 0 => rfl
  | k + 1 => by simp [exsTo, exsTo_length L T k]
/-- All of them: one to eight. -/
def exs (len : Nat) (L : Nat → Int) (T : Nat → ByteArray) : List (Int × List UInt8) :=
  if len = 0 then [(1, [97])] else exsTo L T (min len 8)

set_option maxHeartbeats 400000 in
theorem examples_zero (a : Option Addr) (cap : Nat) (L : Nat → Int) (T : Nat → ByteArray) (w : World) :
    Calls Try.prog 13 #[.slice a 0 cap] w fun e w' => ∃ v, e = .returned v ∧ w'.ownsRow w.heap.size 72 2 v (exs 0 L T).length (exsCells (exs 0 L T)) ∧ Below w.heap.size w w' := by
  obtain ⟨i0, hi, hz0, hz1, hz2⟩ := info_parts info_ex
  have HE : Hid (exs 0 L T = [(1, [97])]) := rfl
  go_enter Try.func13, Try.ntmps13
  go_wp2
  refine wp_loop_rounds 1 ?_
  rw [rounds_succ]
  go_wp2_with (at_builtin; refine wpList_append_own _ rfl (.tmp 34) (.tmp 36) 25 rfl w.heap.size 72 i0 (.agg #[.int .u8 0, .string ⟨#[]⟩]) 2 24 Try.underlying25 hi hz0 hz1 hz2 rfl (by decide) _ _ _ rfl ((World.ownsRow_nil w w.heap.size 72 2).alloc _) ⟨w.heap.size, 0, none⟩ 1 1 [.int .u8 1, .string ⟨#[97]⟩] rfl rfl (news_at _ _ rfl _ _ _ rfl) (oneCell_nums _ rfl) (by unfold maxLen; omega) (by omega) (by simp) ?_; intro v' w1 hown' hgrow hxx; clear hxx)
  go_ret
  refine ⟨_, rfl, ?_, ?_⟩
  · rw [HE.out]; exact hown'
  · exact ((Below.refl _ _).alloc (Nat.le_refl _) _).grown hgrow (by simp) (by intro k hk; exact absurd hk (by simp [Value.ownBlock, Act.eval]))

set_option maxRecDepth 4000 in
set_option maxHeartbeats 1000000 in
theorem examples_any (a : Option Addr) (len cap : Nat) (L : Nat → Int) (T : Nat → ByteArray) (w : World) (hx : IsExs w a len cap L T) (hlm : len ≤ maxLen) :
    Calls Try.prog 13 #[.slice a len cap] w fun e w' => ∃ v, e = .returned v ∧ w'.ownsRow w.heap.size 72 2 v (exs len L T).length (exsCells (exs len L T)) ∧ Below w.heap.size w w' := by
  obtain ⟨i0, hi, hz0, hz1, hz2⟩ := info_parts info_ex
  unfold maxLen at hlm
  rcases hx with rfl | ⟨b, off, rfl, hlen, hcap, hb, h⟩
  · exact examples_zero a cap L T w
  · unfold maxLen at hcap
    have H : Hid _ := h
    clear h
    by_cases hl0 : len = 0
    · subst hl0
      exact examples_zero _ cap L T w
    · go_enter Try.func13, Try.ntmps13
      go_wp2
      go_loopw [3, 4] (fun v i wr => ∃ k : Nat, k ≤ len ∧ k ≤ 8 ∧ i = .int .i64 k ∧ wr.ownsRow w.heap.size 72 2 v k (exsCells (exsTo L T k)) ∧ Below w.heap.size w wr) (fun _ i _ => len - (intOf i).toNat)
      case atStart => exact ⟨0, by omega, by omega, rfl, World.ownsRow_nil _ _ _ _, Below.refl _ _⟩
      case round =>
        obtain ⟨k, hk, hk8, rfl, hown, hbel⟩ := hrel
        by_cases hlt : k < len
        · by_cases h8 : k < 8
          · obtain ⟨c0, c1, l0, l1, tz⟩ := H.out k hlt
            have d0 := (hbel.cell (by exact hb)).trans c0
            have d1 := (hbel.cell (by exact hb)).trans c1
            have hz := hbel.size
            have hbz : b < wr.heap.size := by omega
            have hkl : (k : Int) < (len : Int) := by omega
            have htm : (L k).tmod 4 = L k % 4 := Int.tmod_eq_emod_of_nonneg l0
            have HB : Hid (∀ x, some b = u3.ownBlock → x) := fun x e => absurd (hown.lt b e.symm).1 (by omega)
            clear c0 c1
            go_wp2_with fail
            go_region_held_law (fun w' => w'.cell? ⟨b, off + k * 2, none⟩ = some (.int .u8 (L k)) ∧ w'.cell? ⟨b, off + k * 2 + 1, none⟩ = some (.string (T k))) (go_keep) (first | (go_at_call 23; refine (some_any _ 40 tz (by omega) _).mono ?_; rintro e w' ⟨rfl, rfl⟩) | (refine step_append_own rfl (.tmp 15) (.tmp 29) 25 rfl w.heap.size 72 i0 (.agg #[.int .u8 0, .string ⟨#[]⟩]) 2 24 Try.underlying25 hi hz0 hz1 hz2 rfl (by decide) _ _ _ rfl (by exact (hown.alloc _).drew) ⟨wr.heap.size, 0, none⟩ 1 1 [.int .u8 (L k % 4), .string (bs ((ls (T k)).take 40))] rfl rfl (by exact news_at _ _ rfl _ _ _ rfl) (oneCell_nums _ rfl) (by unfold maxLen; omega) (by omega) (by simp; omega) ?_; intro v' w1 hown' hgrow; have e0 : w1.cell? ⟨b, off + k * 2, none⟩ = some (.int .u8 (L k)) := hgrow.cell (by simp [go_sem, d0, hbz]) (fun e => HB.out False e); have e1 : w1.cell? ⟨b, off + k * 2 + 1, none⟩ = some (.string (T k)) := hgrow.cell (by simp [go_sem, d1, hbz]) (fun e => HB.out False e)))
            go_wp2
            go_roundw
            case rel =>
              refine ⟨k + 1, by omega, by omega, by go_num, ?_, ?_⟩
              · rw [show exsTo L T (k + 1) = exsTo L T k ++ [(L k % 4, (ls (T k)).take 40)] from rfl, exsCells_snoc]; exact hown'
              · exact ((hbel.alloc hbel.size _).drew).grown hgrow (by simp; omega) (fun j hj => (hown.lt j hj).1)
            case measure => simp [intOf]; omega
          · have HX : Hid (exs len L T = exsTo L T k) := by
              show exs len L T = _
              rw [exs, if_neg hl0, show min len 8 = k by omega]
            obtain ⟨ao, cp, rfl, hk1, hk2, _⟩ := own_read hown
            have hk0 : ((k : Int) == 0) = false := by simp; omega
            unfold maxLen at hk2
            go_wp2
            go_ret
            refine ⟨_, rfl, ?_, hbel⟩
            rw [HX.out, exsTo_length]; exact hown
        · have HX : Hid (exs len L T = exsTo L T k) := by
            show exs len L T = _
            rw [exs, if_neg hl0, show min len 8 = k by omega]
          obtain ⟨ao, cp, rfl, hk1, hk2, _⟩ := own_read hown
          have hk0 : ((k : Int) == 0) = false := by simp; omega
          unfold maxLen at hk2
          go_wp2
          go_ret
          refine ⟨_, rfl, ?_, hbel⟩
          rw [HX.out, exsTo_length]; exact hown
end Go.Proofs.Ytfpodnleimhohab
