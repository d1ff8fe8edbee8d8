/-
  WALKS: the program's New; a run of the program's in memory.
-/
import Derived.Test.YtfpodnleimhohabWalksBE
import Derived.Test.YtfpodnleimhohabWalks9
namespace Go.Proofs.Ytfpodnleimhohab
open Go.RowKit
set_option linter.unusedVariables false

set_option maxRecDepth 100000 in
set_option maxHeartbeats 1000000 in
theorem inBounds_any (r : Raw) (w : World) :
    Calls Try.prog 27 #[.agg r.cells.toArray] w fun e w' => e = .returned (.bool r.ok) ∧ Below w.heap.size w w' := by
  obtain ⟨sd, bt, ra, mo, de⟩ := r
  show Calls Try.prog 27 #[.agg #[.int .u64 sd, .int .u8 bt, .int .i32 ra, .int .i32 mo, .int .u8 de]] w _
  by_cases h0 : bt < 1
  · have HE : Hid (Raw.ok ⟨sd, bt, ra, mo, de⟩ = false) := by show _ = _; simp only [Raw.ok, decide_eq_false_iff_not]; omega
    have e0 : decide ((bt : Int) < 1) = true := by simp; omega
    rw [HE.out]
    clear HE h0
    go_enter Try.func27, Try.ntmps27
    go_wp2
    go_ret
    exact ⟨rfl, (Below.refl _ _).alloc (Nat.le_refl _) _⟩
  by_cases h1 : 8 < bt
  · have HE : Hid (Raw.ok ⟨sd, bt, ra, mo, de⟩ = false) := by show _ = _; simp only [Raw.ok, decide_eq_false_iff_not]; omega
    have e0 : decide ((bt : Int) < 1) = false := by simp; omega
    have e1 : decide ((8 : Int) < (bt : Int)) = true := by simp; omega
    rw [HE.out]
    clear HE h0 h1
    go_enter Try.func27, Try.ntmps27
    go_wp2
    go_ret
    exact ⟨rfl, (Below.refl _ _).alloc (Nat.le_refl _) _⟩
  by_cases h2 : ra < 0
  · have HE : Hid (Raw.ok ⟨sd, bt, ra, mo, de⟩ = false) := by show _ = _; simp only [Raw.ok, decide_eq_false_iff_not]; omega
    have e0 : decide ((bt : Int) < 1) = false := by simp; omega
    have e1 : decide ((8 : Int) < (bt : Int)) = false := by simp; omega
    have e2 : decide (ra < 0) = true := by simp; omega
    rw [HE.out]
    clear HE h0 h1 h2
    go_enter Try.func27, Try.ntmps27
    go_wp2
    go_ret
    exact ⟨rfl, (Below.refl _ _).alloc (Nat.le_refl _) _⟩
  by_cases h3 : 65536 < ra
  · have HE : Hid (Raw.ok ⟨sd, bt, ra, mo, de⟩ = false) := by show _ = _; simp only [Raw.ok, decide_eq_false_iff_not]; omega
    have e0 : decide ((bt : Int) < 1) = false := by simp; omega
    have e1 : decide ((8 : Int) < (bt : Int)) = false := by simp; omega
    have e2 : decide (ra < 0) = false := by simp; omega
    have e3 : decide ((65536 : Int) < ra) = true := by simp; omega
    rw [HE.out]
    clear HE h0 h1 h2 h3
    go_enter Try.func27, Try.ntmps27
    go_wp2
    go_ret
    exact ⟨rfl, (Below.refl _ _).alloc (Nat.le_refl _) _⟩
  by_cases h4 : mo < 0
  · have HE : Hid (Raw.ok ⟨sd, bt, ra, mo, de⟩ = false) := by show _ = _; simp only [Raw.ok, decide_eq_false_iff_not]; omega
    have e0 : decide ((bt : Int) < 1) = false := by simp; omega
    have e1 : decide ((8 : Int) < (bt : Int)) = false := by simp; omega
    have e2 : decide (ra < 0) = false := by simp; omega
    have e3 : decide ((65536 : Int) < ra) = false := by simp; omega
    have e4 : decide (mo < 0) = true := by simp; omega
    rw [HE.out]
    clear HE h0 h1 h2 h3 h4
    go_enter Try.func27, Try.ntmps27
    go_wp2
    go_ret
    exact ⟨rfl, (Below.refl _ _).alloc (Nat.le_refl _) _⟩
  by_cases h5 : 65535 < mo
  · have HE : Hid (Raw.ok ⟨sd, bt, ra, mo, de⟩ = false) := by show _ = _; simp only [Raw.ok, decide_eq_false_iff_not]; omega
    have e0 : decide ((bt : Int) < 1) = false := by simp; omega
    have e1 : decide ((8 : Int) < (bt : Int)) = false := by simp; omega
    have e2 : decide (ra < 0) = false := by simp; omega
    have e3 : decide ((65536 : Int) < ra) = false := by simp; omega
    have e4 : decide (mo < 0) = false := by simp; omega
    have e5 : decide ((65535 : Int) < mo) = true := by simp; omega
    rw [HE.out]
    clear HE h0 h1 h2 h3 h4 h5
    go_enter Try.func27, Try.ntmps27
    go_wp2
    go_ret
    exact ⟨rfl, (Below.refl _ _).alloc (Nat.le_refl _) _⟩
  have HE : Hid (Raw.ok ⟨sd, bt, ra, mo, de⟩ = decide ((de : Int) ≤ 31)) := by show _ = _; simp only [Raw.ok]; congr 1; apply propext; omega
  have e0 : decide ((bt : Int) < 1) = false := by simp; omega
  have e1 : decide ((8 : Int) < (bt : Int)) = false := by simp; omega
  have e2 : decide (ra < 0) = false := by simp; omega
  have e3 : decide ((65536 : Int) < ra) = false := by simp; omega
  have e4 : decide (mo < 0) = false := by simp; omega
  have e5 : decide ((65535 : Int) < mo) = false := by simp; omega
  rw [HE.out]
  clear HE h0 h1 h2 h3 h4 h5
  go_enter Try.func27, Try.ntmps27
  go_wp2
  go_ret
  exact ⟨rfl, (Below.refl _ _).alloc (Nat.le_refl _) _⟩

/-! ### examples in memory -/
def exNCells (x : Ex) : List Value := [.int .u8 (x.1 : Int), .string (bs x.2)]
def exNsCells (X : List Ex) : List Value := X.flatMap exNCells
theorem exNsCells_snoc (X : List Ex) (x : Ex) : exNsCells (X ++ [x]) = exNsCells X ++ exNCells x := by simp [exNsCells]
theorem exN_get {X : List Ex} {k : Nat} {x : Ex} (h : X[k]? = some x) : (exNsCells X)[k * 2]? = some (.int .u8 (x.1 : Int)) ∧ (exNsCells X)[k * 2 + 1]? = some (.string (bs x.2)) := by
  have f := flat_get exNCells 2 (fun _ => rfl) X k x h
  exact ⟨f 0 (by omega), f 1 (by omega)⟩

set_option maxRecDepth 100000 in
set_option maxHeartbeats 1000000 in
theorem examplesOf_any (bR : Nat) (vR : Value) (rs : List Rc) (hl : rs.length ≤ 600) (w : World) (hown : w.ownsRow bR 107 4 vR rs.length (recsCells rs)) :
    Calls Try.prog 29 #[vR] w fun e w' => ∃ v, e = .returned v ∧ w'.ownsRow w.heap.size 72 2 v rs.length (exNsCells (exsOf rs)) ∧ Below w.heap.size w w' := by
  obtain ⟨i0, hi, hz0, hz1, hz2⟩ := info_parts info_ex
  obtain ⟨aR, cR, rfl, hc1, hc2, hrd⟩ := own_read hown
  unfold maxLen at hc2
  have HRD : Hid _ := hrd
  clear hrd hown
  go_enter Try.func29, Try.ntmps29
  go_wp2_with fail
  go_loopw [3, 8] (fun v iv wr => ∃ k : Nat, k ≤ rs.length ∧ iv = .int .i64 k ∧ wr.ownsRow w.heap.size 72 2 v k (exNsCells (exsOf (rs.take k))) ∧ Below w.heap.size w wr) (fun _ i _ => rs.length - (intOf i).toNat)
  case atStart => exact ⟨0, by omega, rfl, World.ownsRow_nil _ _ _ _, Below.refl _ _⟩
  case round =>
    obtain ⟨k, hk, rfl, ho, hbel⟩ := hrel
    by_cases hlt : k < rs.length
    · obtain ⟨gR, rfl, hg1, hg2, hg3⟩ := HRD.out (by omega)
      have hrk := List.getElem?_eq_getElem hlt
      obtain ⟨q0, q1, q2, q3⟩ := rec_get hrk
      have c0 := (hbel.cell (p := ⟨gR, k * 4, none⟩) hg2).trans ((hg3 _ (by omega)).trans q0)
      have c1 := (hbel.cell (p := ⟨gR, k * 4 + 1, none⟩) hg2).trans ((hg3 _ (by omega)).trans q1)
      have c2 := (hbel.cell (p := ⟨gR, k * 4 + 2, none⟩) hg2).trans ((hg3 _ (by omega)).trans q2)
      have c3 := (hbel.cell (p := ⟨gR, k * 4 + 3, none⟩) hg2).trans ((hg3 _ (by omega)).trans q3)
      have HT : Hid (exNsCells (exsOf (rs.take (k + 1))) = exNsCells (exsOf (rs.take k)) ++ [.int .u8 ((rs[k].bd.headD 0).toNat : Int), .string (bs rs[k].bd.tail)]) := by
        show _ = _
        rw [List.take_succ_eq_append_getElem hlt]
        simp only [exsOf, List.map_append, List.map_cons, List.map_nil]
        rw [exNsCells_snoc]; rfl
      generalize rs[k] = rc at *
      generalize rc.bd.headD 0 = lb at *
      generalize bs rc.bd.tail = tx at *
      generalize rc.fr = fr at *
      generalize rc.to = tq at *
      have hz := hbel.size
      have hkl : (k : Int) < (rs.length : Int) := by omega
      clear q0 q1 q2 q3 hrk hg3
      go_wp2_with (at_builtin; refine wpList_append_own _ rfl (.tmp 12) (.tmp 15) 25 rfl w.heap.size 72 i0 (.agg #[.int .u8 0, .string ⟨#[]⟩]) 2 24 Try.underlying25 hi hz0 hz1 hz2 rfl (by decide) _ _ _ rfl ((ho.alloc _).alloc _) ⟨wr.heap.size + 1, 0, none⟩ 1 1 [.int .u8 (lb.toNat : Int), .string tx] rfl rfl (news_at _ _ (by simp) _ _ _ rfl) (oneCell_nums _ rfl) (by unfold maxLen; omega) (by omega) (by simp; omega) ?_; intro v' w3 ho3 hgr hxx; clear hxx)
      go_roundw
      case rel => exact ⟨k + 1, by omega, by go_num, by rw [HT.out]; exact ho3, ((hbel.alloc hz _).alloc (by simp; omega) _).grown hgr (by simp; omega) (fun j hj => (ho.lt j hj).1)⟩
      case measure => simp [intOf]; omega
    · obtain rfl : k = rs.length := by omega
      rw [List.take_length] at ho
      go_wp2
      go_ret
      exact ⟨_, rfl, ho, hbel⟩
end Go.Proofs.Ytfpodnleimhohab
