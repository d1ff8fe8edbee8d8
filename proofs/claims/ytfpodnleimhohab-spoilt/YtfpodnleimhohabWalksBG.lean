/-
  WALKS: the program's New; its Draw, Status, Weights.
-/
import Derived.Test.YtfpodnleimhohabWalksBF
import Derived.Test.YtfpodnleimhohabWalksS
namespace Go.Proofs.Ytfpodnleimhohab
open Go.RowKit
set_option linter.unusedVariables false
variable {mk : ByteArray}

/-- The cells of a run of the program's. -/
def prHead (cf : Cf) (mk : ByteArray) (lv : Value) (steps : Nat) : List Value := [.int .u64 cf.seed, .int .u8 cf.batch, .int .i32 cf.rate, .int .i32 cf.mom, .int .u8 cf.decay, .string mk, lv, .int .i64 steps]
abbrev ProgRun (w : World) (g : Nat) (cf : Cf) (mk : ByteArray) (lv : Value) (st : St) : Prop := LrnAt w g 59 (prHead cf mk lv st.steps) [] st
theorem pr_head (cf : Cf) (lv : Value) (st : St) {i : Nat} (h : i < 8) : (prHead cf mk lv st.steps ++ (lrnCells st ++ []))[i]? = (prHead cf mk lv st.steps)[i]? := by
  rw [List.getElem?_append_left (by simpa [prHead] using h)]

set_option maxRecDepth 100000 in
set_option maxHeartbeats 1000000 in
theorem nextDraw_any (g : Nat) (cf : Cf) (hcf : cf.Ok) (lv : Value) (st : St) (hst : st.Ok) (w : World) (hR : ProgRun w g cf mk lv st) :
    Calls Try.prog 40 #[.pointer (some ⟨g, 0, none⟩)] w fun e w' => e = .returned (.int .i64 (st.steps * cf.batch : Nat)) ∧ ∃ k, w' = w.drewN k := by
  have d1 := (CellsAt.cell hR 1).trans (pr_head cf lv st (by decide))
  have d7 := (CellsAt.cell hR 7).trans (pr_head cf lv st (by decide))
  simp only [prHead, List.getElem?_cons_zero, List.getElem?_cons_succ] at d1 d7
  have hs4 := hst.steps
  have hb8 := hcf.batch8
  have hmul : st.steps * cf.batch ≤ 400 * 8 := Nat.mul_le_mul hs4 hb8
  obtain ⟨j, Hj⟩ : ∃ j, Hid (st.steps * cf.batch = j) := ⟨_, (rfl : _ = _)⟩
  have hm1 : (st.steps : Int) * (cf.batch : Int) = (j : Int) := by rw [← Hj.out, Int.natCast_mul]
  rw [Hj.out] at hmul ⊢
  generalize st.steps = sp at *
  generalize cf.batch = bt at *
  clear hR
  go_enter Try.func40, Try.ntmps40
  go_wp2_with fail
  go_quiet (fail)
  go_wp2
  go_ret
  exact ⟨rfl, _, rfl⟩

set_option maxRecDepth 100000 in
set_option maxHeartbeats 1000000 in
theorem epochAndRow_any (g : Nat) (cf : Cf) (a : Option Addr) (n cap : Nat) (hn1 : 1 ≤ n) (hn2 : n ≤ 65536) (st : St) (j : Nat) (hj : j ≤ 100000) (w : World) (hR : ProgRun w g cf mk (.slice a n cap) st) :
    Calls Try.prog 41 #[.pointer (some ⟨g, 0, none⟩), .int .i64 j] w fun e w' => e = .returned (.tuple #[.int .i64 (j / n : Nat), .int .i64 (j % n : Nat)]) ∧ ∃ k, w' = w.drewN k := by
  have d6 := (CellsAt.cell hR 6).trans (pr_head cf (.slice a n cap) st (by decide))
  simp only [prHead, List.getElem?_cons_zero, List.getElem?_cons_succ] at d6
  obtain ⟨q, Hq⟩ : ∃ q, Hid (j / n = q) := ⟨_, (rfl : _ = _)⟩
  obtain ⟨r, Hr⟩ : ∃ r, Hid (j % n = r) := ⟨_, (rfl : _ = _)⟩
  rw [Hq.out, Hr.out]
  have hq1 : (j : Int) / (n : Int) = (q : Int) := by rw [← Hq.out, Int.natCast_ediv]
  have hq2 : (j : Int) % (n : Int) = (r : Int) := by rw [← Hr.out, Int.natCast_emod]
  have hq3 : (j : Int).tdiv (n : Int) = (q : Int) := by rw [Int.tdiv_eq_ediv_of_nonneg (by omega)]; exact hq1
  have hq4 : (j : Int).tmod (n : Int) = (r : Int) := by rw [Int.tmod_eq_emod_of_nonneg (by omega)]; exact hq2
  have hn0 : ((n : Int) == 0) = false := by simp; omega
  have hqb : q ≤ 100000 := by have := Nat.div_le_self j n; rw [Hq.out] at this; omega
  clear hR
  go_enter Try.func41, Try.ntmps41
  go_wp2_with fail
  go_quiet (fail)
  go_wp2
  go_ret2
  exact ⟨rfl, _, rfl⟩

set_option maxRecDepth 100000 in
set_option maxHeartbeats 1000000 in
theorem drawn_any (g : Nat) (cf : Cf) (hcf : cf.Ok) (a : Option Addr) (n cap : Nat) (hn1 : 1 ≤ n) (hn2 : n ≤ 65536) (st : St) (m : Nat) (hm : m ≤ 100000) (w : World) (hR : ProgRun w g cf mk (.slice a n cap) st) :
    Calls Try.prog 47 #[.pointer (some ⟨g, 0, none⟩), .int .i64 m] w fun e w' => e = .returned (.int .i64 (drawN cf n m : Nat)) ∧ ∃ k, w' = w.drewN k := by
  have d0 := (CellsAt.cell hR 0).trans (pr_head cf (.slice a n cap) st (by decide))
  have d6 := (CellsAt.cell hR 6).trans (pr_head cf (.slice a n cap) st (by decide))
  simp only [prHead, List.getElem?_cons_zero, List.getElem?_cons_succ] at d0 d6
  have HR : Hid (ProgRun w g cf mk (.slice a n cap) st) := hR
  clear hR
  obtain ⟨q, Hq⟩ : ∃ q, Hid (m / n = q) := ⟨_, (rfl : _ = _)⟩
  obtain ⟨r, Hr⟩ : ∃ r, Hid (m % n = r) := ⟨_, (rfl : _ = _)⟩
  obtain ⟨z, Hz⟩ : ∃ z, Hid ((cf.seed + q) % 18446744073709551616 = z) := ⟨_, (rfl : _ = _)⟩
  have HM : Hid (drawN cf n m = place (mixN z) n r) := by show _ = _; unfold drawN; rw [Hq.out, Hr.out, Hz.out]
  rw [HM.out]
  have hz2 : Hid (z < 18446744073709551616) := by show z < _; rw [← Hz.out]; exact Nat.mod_lt _ (by decide)
  have hql : q ≤ 100000 := by have := Nat.div_le_self m n; rw [Hq.out] at this; omega
  have hrl : r < n := by rw [← Hr.out]; exact Nat.mod_lt _ (by omega)
  have hw1 : IntKind.u64.wrap ((cf.seed : Int) + (q : Int)) = (z : Int) := by rw [IntKind.wrap_u64, ← Hz.out]; omega
  have HMl : Hid (mixN z < 18446744073709551616) := mixN_lt z
  have HPA : Hid (placeAns (mixN z) n r = (place (mixN z) n r, 0)) := if_pos ⟨hrl, hn2⟩
  have hyn := (place_perm (mixN z) hn2).maps r hrl
  clear HM
  obtain ⟨mz, Hmz⟩ : ∃ mz, Hid (mixN z = mz) := ⟨_, (rfl : _ = _)⟩
  rw [Hmz.out] at HMl HPA hyn ⊢
  obtain ⟨y, Hy⟩ : ∃ y, Hid (place mz n r = y) := ⟨_, (rfl : _ = _)⟩
  rw [Hy.out] at HPA hyn ⊢
  go_enter Try.func47, Try.ntmps47
  go_wp2_with fail
  refine (epochAndRow_any g cf a n cap hn1 hn2 st m hm _ HR.out).mono ?_
  rintro e w1 ⟨rfl, n1, rfl⟩
  rw [Hq.out, Hr.out]
  generalize cf.seed = sd at *
  have d0' : (w.drewN n1).cell? ⟨g, 0, none⟩ = some (.int .u64 sd) := d0
  have d6' : (w.drewN n1).cell? ⟨g, 6, none⟩ = some (.slice a n cap) := d6
  go_wp2_with fail
  refine (ordMix_any z hz2 _).mono ?_
  rintro e w2 ⟨rfl, hw⟩
  have hw' := hw.symm
  clear hw
  subst hw'
  rw [Hmz.out]
  go_wp2_with fail
  refine (ordPlace_any mz n r HMl (by omega) (by omega) _).mono ?_
  rintro e w3 ⟨rfl, n3, rfl⟩
  rw [HPA.out]
  go_wp2
  go_ret
  exact ⟨rfl, _, rfl⟩

end Go.Proofs.Ytfpodnleimhohab
