/-
  WALKS: the program's counts of a text.
-/
import Derived.Test.YtfpodnleimhohabGreatDoorWalksBA
import Derived.Test.YtfpodnleimhohabGreatDoorMath3
namespace Go.Proofs.YtfpodnleimhohabGreatDoor
open Go.RowKit
set_option linter.unusedVariables false

/-- The hash of the last rune. -/
def lastH (X : List Nat) (k : Nat) : Nat := if k = 0 then 2166136261 else hashFrom 2166136261 (X.getD (k - 1) 0)
/-- Memory while the runes are gone through. -/
structure LCnt (w wr : World) (s : ByteArray) (pos : Nat) (f : Nat → Int) : Prop where
  z : CellsAt wr w.heap.size 171 (tab 32 fun _ => 0)
  c : CellsAt wr (w.heap.size + 1) 171 (tab 32 f)
  i : wr.heap[w.heap.size + 2]? = some (.stringIter s pos)
  b : Below w.heap.size w wr
theorem LCnt.spared {w wr wr' : World} {s : ByteArray} {pos : Nat} {f f' : Nat → Int} (h : LCnt w wr s pos f) (hs : Spared wr wr' (fun k => k = w.heap.size + 1)) (hc : CellsAt wr' (w.heap.size + 1) 171 (tab 32 f')) : LCnt w wr' s pos f' := by
  have hz : w.heap.size + 2 < wr.heap.size := by
    have := h.i
    exact (Array.getElem?_eq_some_iff.1 this).1
  exact ⟨(hs.block _ (by omega) (by omega)).trans h.z, hc, (hs.block _ hz (by omega)).trans h.i, h.b.trans (hs.below (fun k hk => by omega) h.b.size)⟩
theorem LCnt.next {w wr : World} {s : ByteArray} {pos : Nat} {f : Nat → Int} (h : LCnt w wr s pos f) (pos' : Nat) : LCnt w (wr.iterAt (w.heap.size + 2) s pos') s pos' f := by
  have hz : w.heap.size + 2 < wr.heap.size := (Array.getElem?_eq_some_iff.1 h.i).1
  have hb : ∀ k, k ≠ w.heap.size + 2 → (wr.iterAt (w.heap.size + 2) s pos').heap[k]? = wr.heap[k]? := fun k hk => by
    show (wr.heap.setIfInBounds (w.heap.size + 2) _)[k]? = _
    rw [Array.getElem?_setIfInBounds_ne (fun e => hk e.symm)]
  refine ⟨(hb _ (by omega)).trans h.z, (hb _ (by omega)).trans h.c, ?_, ⟨h.b.os, h.b.tape, h.b.output, ?_, fun k hk => (hb k (by omega)).trans (h.b.block k hk)⟩⟩
  · show (wr.heap.setIfInBounds (w.heap.size + 2) _)[w.heap.size + 2]? = _
    rw [Array.getElem?_setIfInBounds_self, if_pos hz]
  · show w.heap.size ≤ (wr.heap.setIfInBounds (w.heap.size + 2) _).size
    rw [Array.size_setIfInBounds]; exact h.b.size

theorem info_counts : (Tryz.prog.info? 171).map (·.size) = some 32 := by kernel_rfl
theorem lastH_lt (X : List Nat) (k : Nat) : lastH X k < 4294967296 := by
  unfold lastH
  split
  · omega
  · exact hashFrom_lt _ _ (by omega)
theorem lastH_succ (X : List Nat) (k : Nat) : lastH X (k + 1) = hashFrom 2166136261 (X.getD k 0) := by
  unfold lastH
  rw [if_neg (by omega)]; rfl
theorem lastH_pos (X : List Nat) (k : Nat) (h : 0 < k) : lastH X k = hashFrom 2166136261 (X.getD (k - 1) 0) := by
  unfold lastH
  rw [if_neg (by omega)]

set_option maxRecDepth 100000 in
set_option maxHeartbeats 1000000 in
theorem countsOf_any (s : ByteArray) (hs : s.size ≤ 600) (w : World) :
    Calls Tryz.prog 82 #[.string s] w fun e w' => e = .returned (.agg (tab 32 fun b => ((countsN (ls s) b : Nat) : Int)).toArray) ∧ Below w.heap.size w w' := by
  have hXl : (runesN (ls s)).length ≤ 600 := by have := runesN_len (ls s); rw [ls_length] at this; omega
  obtain ⟨X, HX⟩ : ∃ X, Hid (runesN (ls s) = X) := ⟨_, (rfl : _ = _)⟩
  have HE : Hid ((fun b => ((countsN (ls s) b : Nat) : Int)) = capTo X X.length) := by show _ = _; rw [← HX.out, capTo_all]
  rw [HE.out]
  rw [HX.out] at hXl
  clear HE
  go_enter Tryz.func82, Tryz.ntmps82
  go_wp2_with fail
  obtain ⟨w3, Hw3⟩ : ∃ w3, Hid (((w.alloc (.cells #[.int .i64 0, .int .i64 0, .int .i64 0, .int .i64 0, .int .i64 0, .int .i64 0, .int .i64 0, .int .i64 0, .int .i64 0, .int .i64 0, .int .i64 0, .int .i64 0, .int .i64 0, .int .i64 0, .int .i64 0, .int .i64 0, .int .i64 0, .int .i64 0, .int .i64 0, .int .i64 0, .int .i64 0, .int .i64 0, .int .i64 0, .int .i64 0, .int .i64 0, .int .i64 0, .int .i64 0, .int .i64 0, .int .i64 0, .int .i64 0, .int .i64 0, .int .i64 0] 171)).alloc (.cells #[.int .i64 0, .int .i64 0, .int .i64 0, .int .i64 0, .int .i64 0, .int .i64 0, .int .i64 0, .int .i64 0, .int .i64 0, .int .i64 0, .int .i64 0, .int .i64 0, .int .i64 0, .int .i64 0, .int .i64 0, .int .i64 0, .int .i64 0, .int .i64 0, .int .i64 0, .int .i64 0, .int .i64 0, .int .i64 0, .int .i64 0, .int .i64 0, .int .i64 0, .int .i64 0, .int .i64 0, .int .i64 0, .int .i64 0, .int .i64 0, .int .i64 0, .int .i64 0] 171)).iter s 0 = w3) := ⟨_, (rfl : _ = _)⟩
  have H0 : Hid (LCnt w w3 s 0 (capTo X 0)) := by
    show LCnt _ _ _ _ _
    rw [← Hw3.out, capTo_zero]
    exact ⟨((CellsAt.new w _ _ _ rfl rfl).alloc _).alloc _, (CellsAt.new _ _ _ _ rfl (by simp)).alloc _, (by have h := World.iter_heap ((w.alloc (.cells #[.int .i64 0, .int .i64 0, .int .i64 0, .int .i64 0, .int .i64 0, .int .i64 0, .int .i64 0, .int .i64 0, .int .i64 0, .int .i64 0, .int .i64 0, .int .i64 0, .int .i64 0, .int .i64 0, .int .i64 0, .int .i64 0, .int .i64 0, .int .i64 0, .int .i64 0, .int .i64 0, .int .i64 0, .int .i64 0, .int .i64 0, .int .i64 0, .int .i64 0, .int .i64 0, .int .i64 0, .int .i64 0, .int .i64 0, .int .i64 0, .int .i64 0, .int .i64 0] 171)).alloc (.cells #[.int .i64 0, .int .i64 0, .int .i64 0, .int .i64 0, .int .i64 0, .int .i64 0, .int .i64 0, .int .i64 0, .int .i64 0, .int .i64 0, .int .i64 0, .int .i64 0, .int .i64 0, .int .i64 0, .int .i64 0, .int .i64 0, .int .i64 0, .int .i64 0, .int .i64 0, .int .i64 0, .int .i64 0, .int .i64 0, .int .i64 0, .int .i64 0, .int .i64 0, .int .i64 0, .int .i64 0, .int .i64 0, .int .i64 0, .int .i64 0, .int .i64 0, .int .i64 0] 171)) s 0; simpa using h), (((Below.refl _ _).alloc (Nat.le_refl _) _).alloc (by simp) _).alloc (by simp; omega) _⟩
  rw [Hw3.out, show w.heap.size + 1 + 1 = w.heap.size + 2 from rfl]
  clear Hw3
  go_loopg [4] X.length (fun g lv wr => ∃ pos k : Nat, g + k = X.length ∧ pos ≤ s.size ∧ (pos = 0 ↔ k = 0) ∧ lv = .int .u32 (lastH X k : Nat) ∧ Hid (X.drop k = runesN ((ls s).drop pos)) ∧ Hid (LCnt w wr s pos (capTo X k)))
  case atStart => exact ⟨0, 0, by omega, by omega, by simp, rfl, (by show _ = _; rw [List.drop_zero, List.drop_zero]; exact HX.out.symm), H0⟩
  case round =>
    obtain ⟨pos, k, hgk, hpos, hpk, rfl, HD, HS⟩ := hrel
    clear H0
    by_cases hlt : pos < s.size
    · have hne : (ls s).drop pos ≠ [] := by
        intro e
        have := congrArg List.length e
        rw [List.length_drop, ls_length] at this
        simp at this; omega
      obtain ⟨a1, a2, a3⟩ := firstR_le _ hne
      rw [List.length_drop, ls_length] at a3
      have HD2 : Hid (X.drop k = (firstR ((ls s).drop pos)).1 :: runesN ((ls s).drop (pos + (firstR ((ls s).drop pos)).2))) := by
        show _ = _
        rw [HD.out, runesN_cons _ hne, List.drop_drop]
      have hr := firstR_lt ((ls s).drop pos)
      have HDec := decode_first s pos hlt
      obtain ⟨r, Hr⟩ : ∃ r, Hid ((firstR ((ls s).drop pos)).1 = r) := ⟨_, (rfl : _ = _)⟩
      obtain ⟨n, Hn⟩ : ∃ n, Hid ((firstR ((ls s).drop pos)).2 = n) := ⟨_, (rfl : _ = _)⟩
      rw [Hr.out, Hn.out] at HD2
      rw [Hn.out] at a1 a2 a3
      rw [Hr.out] at hr
      have hnx : ∀ ty, (Instr.next (.pointer (some ⟨w.heap.size + 2, 0, none⟩)) true ty).run Tryz.prog wr = .ok (.tuple #[.bool true, .int .i64 pos, .int .i32 r]) (wr.iterAt (w.heap.size + 2) s (pos + n)) := fun ty => by
        have := Go.Lib.run_next_any_at (P := Tryz.prog) wr (w.heap.size + 2) s pos ty HS.out.i hlt
        rw [HDec] at this
        rw [Hr.out, Hn.out] at this
        exact this
      obtain ⟨hkl, hxk, hdk⟩ := drop_head HD2.out
      have HXk : Hid (X.getD k 0 = r) := by show _ = _; rw [List.getD_eq_getElem?_getD, hxk]; rfl
      have HDk : Hid _ := hdk
      have HS1 : Hid (LCnt w (wr.iterAt (w.heap.size + 2) s (pos + n)) s (pos + n) (capTo X k)) := HS.out.next (pos + n)
      have HLn : Hid (lastH X (k + 1) = hashFrom 2166136261 r) := by show _ = _; rw [lastH_succ, HXk.out]
      have hll := lastH_lt X k
      have hh1 := hashFrom_lt 2166136261 r (by omega)
      have HB1 : Hid (bucketN (fourN r) = hashFrom 2166136261 r % 32) := (hashFrom_one r).symm
      clear HD HD2 HDec hdk hxk HS Hr Hn hne
      by_cases hk : k = 0
      · obtain rfl : pos = 0 := hpk.2 hk
        have HC1 : Hid (bump (capTo X k) (hashFrom 2166136261 r % 32) = capTo X (k + 1)) := by
          show _ = _
          have h := HXk.out
          rw [hk] at h ⊢
          exact capTo_first X r _ h HB1.out
        generalize wr.iterAt (w.heap.size + 2) s (0 + n) = w4 at *
        go_wp2_with fail
        refine (hashRune_any 2166136261 r (by omega) hr _).mono ?_
        rintro e w5 ⟨rfl, hw⟩
        have hw' := hw.symm
        clear hw
        subst hw'
        generalize hashFrom 2166136261 r = H at *
        go_wp2_with fail
        refine (add_any (w.heap.size + 1) (capTo X k) (capN_lt _) H hh1 _ HS1.out.c).mono ?_
        rintro e w6 ⟨rfl, hc6, hs6⟩
        rw [HC1.out] at hc6
        have HS6 : Hid (LCnt w w6 s (0 + n) (capTo X (k + 1))) := HS1.out.spared hs6 hc6
        clear hc6 hs6 hnx
        go_wp2
        go_roundg (gk - 1)
        case measure => omega
        case rel => exact ⟨0 + n, k + 1, by omega, by omega, by omega, by rw [HLn.out], HDk, HS6⟩
      · have hpp : 0 < pos := Nat.pos_of_ne_zero fun e => hk (hpk.1 e)
        obtain ⟨y, Hy⟩ : ∃ y, Hid (X.getD (k - 1) 0 = y) := ⟨_, (rfl : _ = _)⟩
        have HLk : Hid (lastH X k = hashFrom 2166136261 y) := by show _ = _; rw [lastH_pos X k (by omega), Hy.out]
        have HB2 : Hid (bucketN (fourN y ++ fourN r) = hashFrom (lastH X k) r % 32) := by show _ = _; rw [HLk.out]; exact (hashFrom_two y r).symm
        have HC1 : Hid (bump (bump (capTo X k) (hashFrom (lastH X k) r % 32)) (hashFrom 2166136261 r % 32) = capTo X (k + 1)) := capTo_next X k r y _ _ (by omega) HXk.out Hy.out HB1.out HB2.out
        have hh2 := hashFrom_lt (lastH X k) r hll
        generalize wr.iterAt (w.heap.size + 2) s (pos + n) = w4 at *
        generalize lastH X k = L at *
        clear HB1 HB2 HLk
        go_wp2_with fail
        refine (hashRune_any L r hll hr _).mono ?_
        rintro e w5 ⟨rfl, hw⟩
        have hw' := hw.symm
        clear hw
        subst hw'
        generalize hashFrom L r = H2 at *
        go_wp2_with fail
        refine (add_any (w.heap.size + 1) (capTo X k) (capN_lt _) H2 hh2 _ HS1.out.c).mono ?_
        rintro e w6 ⟨rfl, hc6, hs6⟩
        have HS6 : Hid (LCnt w w6 s (pos + n) (bump (capTo X k) (H2 % 32))) := HS1.out.spared hs6 hc6
        clear hc6 hs6 hnx HS1
        have HCB : Hid (∀ b, 0 ≤ bump (capTo X k) (H2 % 32) b ∧ bump (capTo X k) (H2 % 32) b ≤ 7) := by
          show ∀ b, _
          intro b
          unfold capTo
          rw [bump_cap]; exact capN_lt _ b
        go_wp2_with fail
        refine (hashRune_any 2166136261 r (by omega) hr _).mono ?_
        rintro e w7 ⟨rfl, hw⟩
        have hw' := hw.symm
        clear hw
        subst hw'
        generalize hashFrom 2166136261 r = H at *
        go_wp2_with fail
        refine (add_any (w.heap.size + 1) _ HCB.out H hh1 _ HS6.out.c).mono ?_
        rintro e w8 ⟨rfl, hc8, hs8⟩
        rw [HC1.out] at hc8
        have HS8 : Hid (LCnt w w8 s (pos + n) (capTo X (k + 1))) := HS6.out.spared hs8 hc8
        clear hc8 hs8 HS6
        go_wp2
        go_roundg (gk - 1)
        case measure => omega
        case rel => exact ⟨pos + n, k + 1, by omega, by omega, by omega, by rw [HLn.out], HDk, HS8⟩
    · have hpe : pos = s.size := by omega
      have hke : k = X.length := by
        have h := HD.out
        rw [show (ls s).drop pos = [] from List.drop_of_length_le (by rw [ls_length]; omega)] at h
        have := congrArg List.length h
        rw [List.length_drop] at this
        simp [runesN, runesF] at this
        omega
      have hnx : ∀ ty, (Instr.next (.pointer (some ⟨w.heap.size + 2, 0, none⟩)) true ty).run Tryz.prog wr = .ok (.tuple #[.bool false]) wr := fun ty => Go.Lib.run_next_end_at (P := Tryz.prog) wr (w.heap.size + 2) s pos ty HS.out.i hlt
      subst hke
      obtain ⟨cs, Hcs⟩ : ∃ cs, Hid (tab 32 (capTo X X.length) = cs) := ⟨_, (rfl : _ = _)⟩
      have HcsL : Hid (cs.length = 32) := by show _ = _; rw [← Hcs.out]; exact tab_length _ _
      have HcsO : Hid (∀ u ∈ cs, u.oneCell' = true) := by show ∀ u ∈ cs, _; rw [← Hcs.out]; exact tab_one _ _
      have HI : Hid ((Tryz.prog.info? 171).map (·.size) = some cs.length) := by show _ = _; rw [HcsL.out]; exact info_counts
      have HI2 : Hid ((Tryz.prog.info? 171).map (·.size) = some cs.toArray.size) := by show _ = _; rw [List.size_toArray]; exact HI.out
      obtain ⟨A1, A2, _, A4⟩ := HS.out
      rw [Hcs.out] at A2
      have HRg : Hid (wr.rangeAt (w.heap.size + 1) 0 cs) := CellsAt.range A2
      have HTh : Hid (wr.there w.heap.size 0 cs.toArray.size) := by
        have := CellsAt.there A1
        rw [tab_length] at this
        show wr.there w.heap.size 0 cs.length
        rw [HcsL.out]; exact this
      have HA4 : Hid (Below w.heap.size w wr) := A4
      clear A1 A2 A4 HS HD
      go_wp2_with (first
        | (refine wpList_load_mid rfl 171 (.tmp 3) rfl _ _ rfl cs _ HRg.out Tryz.underlying171 rfl HI.out ?_)
        | (refine wpList_store_mid rfl 171 (.tmp 2) (.tmp 25) rfl _ _ cs.toArray rfl rfl HTh.out HI2.out (all_oneCell_toArray HcsO.out) ?_))
      have hld := run_loadVar_mid (P := Tryz.prog) (wr.setCells w.heap.size 0 cs) w.heap.size 0 171 cs _ (World.rangeAt_setCells_same _ _ _ _ (by have := HTh.out; rw [List.size_toArray] at this; exact this)) Tryz.underlying171 rfl HI.out
      rw [Hcs.out]
      refine bodyPost_ret (v := .agg cs.toArray) ?_ rfl ⟨rfl, below_setCells (by omega) cs 0 HA4.out⟩
      simp [results, Tryz.results82, asAddr, hld, Act.put]
end Go.Proofs.YtfpodnleimhohabGreatDoor
