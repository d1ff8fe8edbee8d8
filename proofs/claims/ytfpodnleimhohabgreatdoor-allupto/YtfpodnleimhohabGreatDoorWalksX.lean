/-
  WALKS: the document's counts.
-/
import Derived.Test.YtfpodnleimhohabGreatDoorGen
import Derived.Test.YtfpodnleimhohabGreatDoorWalksW
import Derived.Test.YtfpodnleimhohabGreatDoorArr
namespace Go.Proofs.YtfpodnleimhohabGreatDoor
open Go.RowKit
set_option linter.unusedVariables false

theorem four_own (r : Nat) (hr : r ≤ 1114111) (w : World) :
    Calls Tryz.prog 71 #[.int .i64 r] w fun e w' => e = .returned (.slice (some ⟨w.heap.size, 0, none⟩) 4 4) ∧ CellsAt w' w.heap.size 3 (intCells (fourN r)) ∧ w'.ownsRow w.heap.size 3 1 (.slice (some ⟨w.heap.size, 0, none⟩) 4 4) 4 (intCells (fourN r)) ∧ Below w.heap.size w w' := by
  refine (four_any r hr w).mono ?_
  rintro e w' ⟨rfl, rfl⟩
  exact ⟨rfl, CellsAt.new w _ _ _ rfl rfl, owns_new w w.heap.size 4 3 (intCells (fourN r)) (Nat.le_refl _) rfl (by unfold maxLen; omega), (Below.refl _ _).alloc (Nat.le_refl _) _⟩
theorem bucket_own {base : Nat} {v : Value} {l : List Nat} {n : Nat} {w : World} (h : w.ownsRow base 3 1 v n (intCells l)) (hn : n = l.length) (hl : l.length ≤ 16) (h256 : ∀ x ∈ l, x < 256) :
    Calls Tryz.prog 72 #[v] w fun e w' => e = .returned (.int .i64 (bucketN l : Nat)) ∧ w' = w := by
  subst hn
  obtain ⟨a, cap, rfl, h1, h2, h3⟩ := own_read h
  refine bucket_any a cap l w hl h256 h1 h2 fun hne => ?_
  obtain ⟨g, rfl, _, _, hg⟩ := h3 (List.length_pos_iff.2 hne)
  refine ⟨g, 0, rfl, fun i x hx => ?_⟩
  have hi : i < l.length := (List.getElem?_eq_some_iff.1 hx).1
  rw [Nat.zero_add]
  exact (hg i (by omega)).trans (intCells_get hx)

set_option maxRecDepth 100000 in
set_option maxHeartbeats 1000000 in
theorem counts_any (s : ByteArray) (hs : s.size ≤ 600) (w : World) (hL : LowAt w) :
    Calls Tryz.prog 37 #[.string s] w fun e w' => e = .returned (.agg (tab 32 (fun b => ((countsN (ls s) b : Nat) : Int))).toArray) ∧ Below w.heap.size w w' := by
  obtain ⟨i0, hi, hz0, hz1, hz2⟩ := info_parts info_int
  have HL : Hid (LowAt w) := hL
  obtain ⟨X, HX⟩ : ∃ X, Hid (runesN (ls s) = X) := ⟨_, (rfl : _ = _)⟩
  have HXl : Hid (X.length ≤ 600) := by have := runesN_len (ls s); rw [ls_length, HX.out] at this; show _ ≤ _; omega
  clear hL
  go_enter Tryz.func37, Tryz.ntmps37
  go_wp2_with fail
  obtain ⟨w2, Hw2⟩ : ∃ w2, Hid ((w.alloc (.cells #[.int .i64 0, .int .i64 0, .int .i64 0, .int .i64 0, .int .i64 0, .int .i64 0, .int .i64 0, .int .i64 0, .int .i64 0, .int .i64 0, .int .i64 0, .int .i64 0, .int .i64 0, .int .i64 0, .int .i64 0, .int .i64 0, .int .i64 0, .int .i64 0, .int .i64 0, .int .i64 0, .int .i64 0, .int .i64 0, .int .i64 0, .int .i64 0, .int .i64 0, .int .i64 0, .int .i64 0, .int .i64 0, .int .i64 0, .int .i64 0, .int .i64 0, .int .i64 0] 62)).alloc (.cells #[.int .i64 0, .int .i64 0, .int .i64 0, .int .i64 0, .int .i64 0, .int .i64 0, .int .i64 0, .int .i64 0, .int .i64 0, .int .i64 0, .int .i64 0, .int .i64 0, .int .i64 0, .int .i64 0, .int .i64 0, .int .i64 0, .int .i64 0, .int .i64 0, .int .i64 0, .int .i64 0, .int .i64 0, .int .i64 0, .int .i64 0, .int .i64 0, .int .i64 0, .int .i64 0, .int .i64 0, .int .i64 0, .int .i64 0, .int .i64 0, .int .i64 0, .int .i64 0] 62) = w2) := ⟨_, (rfl : _ = _)⟩
  rw [Hw2.out]
  have HC : Hid (CellsAt w2 w.heap.size 62 (tab 32 fun _ => 0) ∧ CellsAt w2 (w.heap.size + 1) 62 (tab 32 fun _ => 0) ∧ w2.heap.size = w.heap.size + 2 ∧ Below w.heap.size w w2) := by
    show _ ∧ _
    rw [← Hw2.out]
    exact ⟨(CellsAt.new w _ _ _ rfl rfl).alloc _, CellsAt.new _ _ _ _ rfl (by simp), by simp, ((Below.refl _ _).alloc (Nat.le_refl _) _).alloc (by simp) _⟩
  clear Hw2
  refine (runes_any s hs _ (HL.out.later HC.out.2.2.2)).mono ?_
  rintro e w3 ⟨vX, rfl, hown, hb3⟩
  rw [HX.out] at hown
  obtain ⟨aX, cX, rfl, hc1, hc2, _⟩ := own_read hown
  unfold maxLen at hc2
  have hXl := HXl.out
  have HO : Hid (w3.ownsRow w2.heap.size 3 1 (.slice aX X.length cX) X.length (intCells X)) := hown
  have HC3 : Hid (CellsAt w3 w.heap.size 62 (tab 32 fun _ => 0) ∧ CellsAt w3 (w.heap.size + 1) 62 (tab 32 fun _ => 0) ∧ Below w.heap.size w w3) :=
    ⟨HC.out.1.later hb3, HC.out.2.1.later hb3, HC.out.2.2.2.trans (hb3.mono (by have := HC.out.2.2.1; omega))⟩
  have hsz := HC.out.2.2.1
  rw [hsz] at HO
  clear hown HC hb3 hsz
  go_wp2_with fail
  have hrunes : Hid (∀ x ∈ X, x ≤ 1114111) := by
    show ∀ x ∈ X, _
    rw [← HX.out]; exact runesN_lt (ls s)
  go_loopw [5] (fun i wr => ∃ k : Nat, k ≤ X.length ∧ i = .int .i64 k ∧ Hid (CntAt w wr (.slice aX X.length cX) X (fun b => ((rawN X k b : Nat) : Int)))) (fun i _ => X.length - (intOf i).toNat)
  case atStart => exact ⟨0, Nat.zero_le _, rfl, ⟨HC3.out.1, HC3.out.2.1, HO.out, HC3.out.2.2⟩⟩
  case round =>
    obtain ⟨k, hk, rfl, HR⟩ := hrel
    clear HC3 HO
    by_cases hlt : k < X.length
    · obtain ⟨gX, rfl, d0⟩ := HR.out.read hlt
      have hx := hrunes.out _ (List.getElem_mem hlt)
      have HXk : Hid (X.getD k 0 = X[k]) := by show _ = _; rw [List.getD_eq_getElem?_getD, List.getElem?_eq_getElem hlt]; rfl
      generalize X[k] = x at *
      go_wp2_with fail
      refine (four_own x hx _).mono ?_
      rintro e w4 ⟨rfl, hF4, hO4, hb4⟩
      have HR4 : Hid (CntAt w w4 (.slice (some ⟨gX, 0, none⟩) X.length cX) X (fun b => ((rawN X k b : Nat) : Int))) := HR.out.later hb4
      have HF4 : Hid (CellsAt w4 wr.heap.size 3 (intCells (fourN x))) := hF4
      have hgB : w.heap.size + 2 ≤ wr.heap.size ∧ wr.heap.size < w4.heap.size := ⟨by have := HR.out.b.lt; omega, hF4.lt⟩
      clear d0 hF4 hb4 HR
      generalize wr.heap.size = gB at *
      go_wp2_with fail
      refine (bucket_own hO4 rfl (show 4 ≤ 16 by decide) (fourN_lt x)).mono ?_
      rintro e w5 ⟨rfl, hw⟩
      have hw' := hw.symm
      clear hw
      subst hw'
      clear hO4
      have hq := bucketN_lt (fourN x)
      obtain ⟨q, Hq⟩ : ∃ q, Hid (bucketN (fourN x) = q) := ⟨_, (rfl : _ = _)⟩
      rw [Hq.out] at hq ⊢
      have c3 := (HR4.out.b.cell q).trans (tab_get _ hq)
      have f3 := HR4.out.b.frozen q
      have hraw := rawN_le X k q
      have HC5 : Hid _ := HR4.out.set q ((rawN X k q : Nat) + 1)
      have HU : Hid (upd (fun b => ((rawN X k b : Nat) : Int)) q ((rawN X k q : Nat) + 1) = fun b => ((rawN X k b + (if q = b then 1 else 0) : Nat) : Int)) := upd_raw X k _ q rfl
      generalize rawN X k q = rq at *
      by_cases hk0 : 0 < k
      · obtain ⟨g', hg', d1⟩ := HC5.out.read (k := k - 1) (by omega)
        obtain rfl : gX = g' := by simpa using hg'
        have hy := hrunes.out _ (List.getElem_mem (show k - 1 < X.length by omega))
        have HXj : Hid (X.getD (k - 1) 0 = X[k - 1]) := by show _ = _; rw [List.getD_eq_getElem?_getD, List.getElem?_eq_getElem (by omega)]; rfl
        generalize X[k - 1] = y at *
        clear hg'
        go_wp2_with fail
        refine (four_own y hy _).mono ?_
        rintro e w6 ⟨rfl, hF6, hO6, hb6⟩
        have HF6 : Hid (CellsAt w6 gB 3 (intCells (fourN x))) := (HF4.out.other (by omega) q _).later hb6
        have hgA : gB < (w4.setCell ⟨w.heap.size + 1, q, none⟩ (.int .i64 ((rq : Int) + 1))).heap.size := by simp; exact hgB.2
        have HLat : Hid (∀ w', Below (w4.setCell ⟨w.heap.size + 1, q, none⟩ (.int .i64 ((rq : Int) + 1))).heap.size w6 w' → CntAt w w' (.slice (some ⟨gX, 0, none⟩) X.length cX) X (fun b => ((rawN X k b + (if q = b then 1 else 0) : Nat) : Int))) :=
          fun w' h => (HC5.out.later (hb6.trans h)).raw HU.out
        have hg6 := hF6.lt
        clear d1 hF6 hb6 HC5 c3 f3
        generalize (w4.setCell ⟨w.heap.size + 1, q, none⟩ (.int .i64 ((rq : Int) + 1))).heap.size = gA at *
        have HNews : Hid (∀ j u, (intCells (fourN x))[j]? = some u → w6.cell? ((⟨gB, 0, none⟩ : Addr).add j) = some u) := fun j u hj => by
          rw [Go.WideShapes.add_plain, Nat.zero_add, HF6.out.cell]; exact hj
        go_wp2_with (at_builtin; refine wpList_append_own _ rfl (.tmp 38) (.tmp 39) 73 rfl gA 3 i0 (.int .i64 0) 1 8 Tryz.underlying73 hi hz0 hz1 hz2 rfl (by decide) _ _ _ rfl hO6 ⟨gB, 0, none⟩ 4 4 (intCells (fourN x)) rfl rfl HNews.out (oneCell_nums _ rfl) (by unfold maxLen; omega) (by omega) (by omega) ?_; intro v' w7 ho7 hgr hxx; clear hxx)
        have HR7 : Hid _ := HLat.out w7 ((Below.refl _ _).grown hgr (by omega) (fun j hj => by cases hj; exact Nat.le_refl _))
        have HI : Hid (intCells (fourN y) ++ intCells (fourN x) = intCells (fourN y ++ fourN x)) := by show _ = _; simp [intCells]
        rw [HI.out] at ho7
        refine (bucket_own ho7 rfl (show 8 ≤ 16 by decide) (fun z hz => (List.mem_append.1 hz).elim (fourN_lt y z) (fourN_lt x z))).mono ?_
        rintro e w8 ⟨rfl, hw⟩
        have hw' := hw.symm
        clear hw
        subst hw'
        have hq2 := bucketN_lt (fourN y ++ fourN x)
        obtain ⟨q2, Hq2⟩ : ∃ q, Hid (bucketN (fourN y ++ fourN x) = q) := ⟨_, (rfl : _ = _)⟩
        rw [Hq2.out] at hq2 ⊢
        have c7 := (HR7.out.b.cell q2).trans (tab_get _ hq2)
        have f7 := HR7.out.b.frozen q2
        have hraw2 := rawN_le X k q2
        have HC8 : Hid _ := (HR7.out.set q2 ((((rawN X k q2 + (if q = q2 then 1 else 0) : Nat) : Int)) + 1)).raw (raw_next X k q q2 x y hk0 HXk.out HXj.out Hq.out Hq2.out _ rfl)
        have hr2 : rawN X k q2 + (if q = q2 then 1 else 0) ≤ 2 * k + 1 := by split <;> omega
        generalize rawN X k q2 + (if q = q2 then 1 else 0) = r2 at *
        clear ho7 hgr HLat HNews HF6 hO6 HR7
        go_wp2
        go_roundw
        case rel => exact ⟨k + 1, by omega, by go_num, HC8⟩
        case measure => simp [intOf]; omega
      · go_wp2
        go_roundw
        case rel =>
          obtain rfl : k = 0 := by omega
          exact ⟨1, by omega, rfl, HC5.out.raw (raw_next0 X q x HXk.out Hq.out _ HU.out)⟩
        case measure => simp [intOf]; omega
    · obtain rfl : k = X.length := by omega
      have HCn : Hid (∀ b, countsN (ls s) b = min 7 (rawN X X.length b)) := by show ∀ b, _; intro b; unfold countsN; rw [HX.out]
      have HNl : Hid (∀ b, rawN X X.length b ≤ 1200) := fun b => by have := rawN_le X X.length b; omega
      generalize rawN X X.length = N at *
      go_wp2_with fail
      have H0 : Hid (CntAt w wr (.slice aX X.length cX) X (cutTo N 0)) := HR.out.raw (by funext b; simp [cutTo])
      clear HR
      go_loopw [9] (fun i wq => ∃ k : Nat, k ≤ 32 ∧ i = .int .i64 k ∧ Hid (CntAt w wq (.slice aX X.length cX) X (cutTo N k))) (fun i _ => 32 - (intOf i).toNat)
      case atStart => exact ⟨0, by omega, rfl, H0⟩
      case round =>
        obtain ⟨k, hk, rfl, HR⟩ := hrel
        clear H0
        by_cases hlt : k < 32
        · have c3 := (HR.out.b.cell k).trans (tab_get _ hlt)
          rw [show cutTo N k k = ((N k : Nat) : Int) by simp [cutTo]] at c3
          have f3 := HR.out.b.frozen k
          have hn := HNl.out k
          by_cases h7 : 7 < N k
          · have HS : Hid _ := (HR.out.set k 7).raw (cut_yes N k h7)
            generalize N k = nk at *
            go_wp2
            go_roundw
            case rel => exact ⟨k + 1, by omega, by go_num, HS⟩
            case measure => simp [intOf]; omega
          · have HS : Hid _ := HR.out.raw (cut_no N k h7)
            generalize N k = nk at *
            go_wp2
            go_roundw
            case rel => exact ⟨k + 1, by omega, by go_num, HS⟩
            case measure => simp [intOf]; omega
        · obtain rfl : k = 32 := by omega
          have HE : Hid (tab 32 (cutTo N 32) = tab 32 (fun b => ((countsN (ls s) b : Nat) : Int))) := tab_congr fun b hb => by simp only [cutTo]; rw [if_pos hb, HCn.out]
          obtain ⟨A1, A2, _, A4⟩ := HR.out
          rw [HE.out] at A2
          have HA1 : Hid (CellsAt wr w.heap.size 62 (tab 32 fun _ => 0)) := A1
          have HA2 : Hid (CellsAt wr (w.heap.size + 1) 62 (tab 32 fun b => ((countsN (ls s) b : Nat) : Int))) := A2
          have HA4 : Hid (Below w.heap.size w wr) := A4
          clear A1 A2 A4 HR
          obtain ⟨cs, Hcs⟩ : ∃ cs, Hid (tab 32 (fun b => ((countsN (ls s) b : Nat) : Int)) = cs) := ⟨_, (rfl : _ = _)⟩
          have HcsL : Hid (cs.length = 32) := by show _ = _; rw [← Hcs.out]; exact tab_length _ _
          have HcsO : Hid (∀ u ∈ cs, u.oneCell' = true) := by show ∀ u ∈ cs, _; rw [← Hcs.out]; exact tab_one _ _
          have HI : Hid ((Tryz.prog.info? 62).map (·.size) = some cs.length) := by show _ = _; rw [HcsL.out]; kernel_rfl
          have HI2 : Hid ((Tryz.prog.info? 62).map (·.size) = some cs.toArray.size) := by show _ = _; rw [List.size_toArray]; exact HI.out
          rw [Hcs.out] at HA2
          have HRg : Hid (wr.rangeAt (w.heap.size + 1) 0 cs) := CellsAt.range HA2.out
          have HTh : Hid (wr.there w.heap.size 0 cs.toArray.size) := by
            have := CellsAt.there HA1.out
            rw [tab_length] at this
            show wr.there w.heap.size 0 cs.length
            rw [HcsL.out]; exact this
          go_wp2_with (first
            | (refine wpList_load_mid rfl 62 (.tmp 3) rfl _ _ rfl cs _ HRg.out Tryz.underlying62 rfl HI.out ?_)
            | (refine wpList_store_mid rfl 62 (.tmp 2) (.tmp 57) rfl _ _ cs.toArray rfl rfl HTh.out HI2.out (all_oneCell_toArray HcsO.out) ?_))
          have hld := run_loadVar_mid (P := Tryz.prog) (wr.setCells w.heap.size 0 cs) w.heap.size 0 62 cs _ (World.rangeAt_setCells_same _ _ _ _ (by have := HTh.out; rw [List.size_toArray] at this; exact this)) Tryz.underlying62 rfl HI.out
          rw [Hcs.out]
          refine bodyPost_ret (v := .agg cs.toArray) ?_ rfl ⟨rfl, below_setCells (Nat.le_refl _) cs 0 HA4.out⟩
          simp [results, Tryz.results37, asAddr, hld, Act.put]
end Go.Proofs.YtfpodnleimhohabGreatDoor
