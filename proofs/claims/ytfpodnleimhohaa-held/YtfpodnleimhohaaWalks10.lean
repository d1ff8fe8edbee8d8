/-
  WALKS: frames of examples; a shard laid of frames and noise.
-/
import Derived.Test.YtfpodnleimhohaaWalks9
namespace Go.Proofs.Ytfpodnleimhohaa
open Go.RowKit
set_option linter.unusedVariables false

theorem info_str : (Try.prog.info? 9).map (fun i => (i.zero, i.size, i.bytes)) = some (some (.string ⟨#[]⟩), 1, 16) := by kernel_rfl
/-- An example with a label and a short text. -/
def ExOk (x : Int × List UInt8) : Prop := 0 ≤ x.1 ∧ x.1 ≤ 3 ∧ x.2.length ≤ 40
theorem exsTo_ok (L : Nat → Int) (T : Nat → ByteArray) : ∀ k, ∀ x ∈ exsTo L T k, ExOk x
  | 0 => by simp [exsTo]
  | k + 1 => by
    intro x hx
    simp only [exsTo, List.mem_append, List.mem_singleton] at hx
    rcases hx with hx | rfl
    · exact exsTo_ok L T k x hx
    · refine ⟨?_, ?_, ?_⟩
      · show 0 ≤ L k % 4; omega
      · show L k % 4 ≤ 3; omega
      · show ((ls (T k)).take 40).length ≤ 40; rw [List.length_take]; omega
theorem exs_ok (len : Nat) (L : Nat → Int) (T : Nat → ByteArray) : ∀ x ∈ exs len L T, ExOk x := by
  unfold exs; split
  · intro x hx
    simp at hx
    subst hx
    exact ⟨by decide, by decide, by decide⟩
  · exact exsTo_ok L T _
theorem exs_len (len : Nat) (L : Nat → Int) (T : Nat → ByteArray) : 1 ≤ (exs len L T).length ∧ (exs len L T).length ≤ 8 := by
  unfold exs; split
  · simp
  · rw [exsTo_length]; omega
theorem frame_len (l : Int) (t : List UInt8) (h : t.length ≤ 40) : (frame l t).length = t.length + 7 := by
  unfold frame frameB
  have hl := body_length l t
  rw [hl, var_short _ (by omega)]
  simp [le_length, hl]
theorem frameAns_ex (l : Int) (t : List UInt8) (h1 : l ≤ 3) (h2 : t.length ≤ 40) : frameAns l (bs t) = (bs (frame l t), 0) := by
  rw [frameAns_ok _ _ (by omega) (by rw [bs_size]; omega), ls_bs]
/-- The frames of examples. -/
def framesL (X : List (Int × List UInt8)) : List (List UInt8) := X.map fun x => frame x.1 x.2
def strCells (F : List (List UInt8)) : List Value := F.map fun f => .string (bs f)
theorem ex_get {X : List (Int × List UInt8)} {k : Nat} {x : Int × List UInt8} (h : X[k]? = some x) : (exsCells X)[k * 2]? = some (.int .u8 x.1) ∧ (exsCells X)[k * 2 + 1]? = some (.string (bs x.2)) := by
  have f := flat_get exCells 2 (fun _ => rfl) X k x h
  exact ⟨f 0 (by omega), f 1 (by omega)⟩

set_option maxRecDepth 4000 in
set_option maxHeartbeats 1000000 in
theorem frames_any (base : Nat) (v : Value) (X : List (Int × List UInt8)) (w : World) (hown : w.ownsRow base 27 2 v X.length (exsCells X)) (hX : ∀ x ∈ X, ExOk x) (hX8 : X.length ≤ 8) :
    Calls Try.prog 18 #[v] w fun e w' => ∃ v', e = .returned (.tuple #[v', .bool true]) ∧ w'.ownsRow w.heap.size 9 1 v' X.length (strCells (framesL X)) ∧ Below w.heap.size w w' := by
  obtain ⟨i0, hi, hz0, hz1, hz2⟩ := info_parts info_str
  obtain ⟨aX, cX, rfl, hc1, hc2, HRd⟩ := own_read hown
  unfold maxLen at hc2
  have HR : Hid _ := HRd
  have HX : Hid _ := hX
  clear HRd hX hown
  go_enter Try.func18, Try.ntmps18
  go_wp2
  go_loopw [4, 5] (fun v i wr => ∃ k : Nat, k ≤ X.length ∧ i = .int .i64 k ∧ wr.ownsRow w.heap.size 9 1 v k (strCells (framesL (X.take k))) ∧ Below w.heap.size w wr) (fun _ i _ => X.length - (intOf i).toNat)
  case atStart => exact ⟨0, by omega, rfl, World.ownsRow_nil _ _ _ _, Below.refl _ _⟩
  case round =>
    obtain ⟨k, hk, rfl, ho, hbel⟩ := hrel
    by_cases hlt : k < X.length
    · obtain ⟨g, rfl, hgb, hgl, hgc⟩ := HR.out (by omega)
      obtain ⟨q0, q1⟩ := ex_get (List.getElem?_eq_getElem hlt)
      have hok := HX.out _ (List.getElem_mem hlt)
      have HT : Hid (X.take (k + 1) = X.take k ++ [X[k]]) := List.take_succ_eq_append_getElem hlt
      generalize hxe : X[k] = x at *
      obtain ⟨l, t⟩ := x
      obtain ⟨o1, o2, o3⟩ := hok
      simp only at o1 o2 o3 q0 q1
      have HA : Hid (frameAns l (bs t) = (bs (frame l t), 0)) := frameAns_ex l t o2 o3
      have HZ : Hid ((bs (frame l t)).size = t.length + 7) := (bs_size _).trans (frame_len l t o3)
      have C : Hid (w.cell? ⟨g, k * 2, none⟩ = some (.int .u8 l) ∧ w.cell? ⟨g, k * 2 + 1, none⟩ = some (.string (bs t))) := ⟨(hgc _ (by omega)).trans q0, (hgc _ (by omega)).trans q1⟩
      have htz : (bs t).size = t.length := bs_size t
      clear q0 q1 hgc hxe
      have d0 := (hbel.cell (p := ⟨g, k * 2, none⟩) hgl).trans C.out.1
      have d1 := (hbel.cell (p := ⟨g, k * 2 + 1, none⟩) hgl).trans C.out.2
      go_wp2_with fail
      refine (drillFrame_any l (bs t) o1 (by omega) (by unfold maxLen; omega) _).mono ?_
      rintro e w1 ⟨rfl, hb1⟩
      rw [HA.out]
      have hbel1 := hbel.trans (hb1.mono hbel.size)
      have ho1 := ownsRow_below ho hb1
      clear d0 d1 ho
      have d0 := (hbel1.cell (p := ⟨g, k * 2, none⟩) hgl).trans C.out.1
      have d1 := (hbel1.cell (p := ⟨g, k * 2 + 1, none⟩) hgl).trans C.out.2
      obtain ⟨Fr, HFr, hFz⟩ : ∃ Fr : ByteArray, Hid (bs (frame l t) = Fr) ∧ Fr.size = t.length + 7 := ⟨_, (rfl : _ = _), HZ.out⟩
      rw [HFr.out]
      generalize hbt : bs t = tx at *
      have hzs := hbel1.size
      go_wp2_with (at_builtin; refine wpList_append_own _ rfl (.tmp 36) (.tmp 38) 29 rfl w.heap.size 9 i0 (.string ⟨#[]⟩) 1 16 Try.underlying29 hi hz0 hz1 hz2 rfl (by decide) _ _ _ rfl (ho1.alloc _) ⟨w1.heap.size, 0, none⟩ 1 1 [.string Fr] rfl rfl (news_at _ _ rfl _ _ _ rfl) (oneCell_nums _ rfl) (by unfold maxLen; omega) (by omega) (by simp; omega) ?_; intro v' w2 ho2 hgr hxx; clear hxx)
      go_roundw
      case rel =>
        refine ⟨k + 1, by omega, by go_num, ?_, ?_⟩
        · rw [HT.out]
          have e : strCells (framesL (X.take k ++ [(l, t)])) = strCells (framesL (X.take k)) ++ [.string Fr] := by
            simp [strCells, framesL, HFr.out]
          rw [e]; exact ho2
        · exact (hbel1.alloc hzs _).grown hgr (by simp; omega) (fun j hj => (ho1.lt j hj).1)
      case measure => simp [intOf]; omega
    · obtain rfl : k = X.length := by omega
      rw [List.take_length] at ho
      go_wp2
      go_ret2
      exact ⟨_, rfl, ho, hbel⟩

/-- Noise and frames, one behind the other. -/
def layFrom (N : Nat → List UInt8) : Nat → List (List UInt8) → List UInt8
  | i, [] => N i
  | i, f :: fs => N i ++ (f ++ layFrom N (i + 1) fs)

set_option maxRecDepth 4000 in
set_option maxHeartbeats 1000000 in
theorem laid_any (base : Nat) (v : Value) (F : List (List UInt8)) (w : World) (hown : w.ownsRow base 9 1 v F.length (strCells F)) (hF : ∀ f ∈ F, f.length ≤ 47) (hF8 : F.length ≤ 8)
    (a : Option Addr) (len cap : Nat) (T : Nat → ByteArray) (hlm : len ≤ maxLen) (hT : IsStrs w a len cap T) :
    Calls Try.prog 20 #[v, .slice a len cap] w fun e w' => e = .returned (.string (bs (layFrom (noiseL T len) 0 F))) ∧ w' = w := by
  obtain ⟨aX, cX, rfl, hc1, hc2, HRd⟩ := own_read hown
  unfold maxLen at hc2
  have HR : Hid _ := HRd
  have HX : Hid _ := hF
  have HT : Hid _ := hT
  clear HRd hF hown hT
  go_enter Try.func20, Try.ntmps20
  go_wp2
  go_loop [5, 6] (fun s i => ∃ (k : Nat) (S : ByteArray), k ≤ F.length ∧ i = .int .i64 k ∧ s = .string S ∧ S.size ≤ k * 59 ∧ Hid (ls S ++ layFrom (noiseL T len) k (F.drop k) = layFrom (noiseL T len) 0 F)) (fun _ i => F.length - (intOf i).toNat)
  case atStart => exact ⟨0, ⟨#[]⟩, by omega, rfl, rfl, by decide, (rfl : _ = _)⟩
  case round =>
    obtain ⟨k, S, hk, rfl, rfl, hSz, HS⟩ := hrel
    have hnz : (bs (noiseL T len k)).size ≤ 12 := by rw [bs_size]; exact noiseL_le _ _ _
    by_cases hlt : k < F.length
    · obtain ⟨g, rfl, hgb, hgl, hgc⟩ := HR.out (by omega)
      have hfz := HX.out _ (List.getElem_mem hlt)
      have d0 : w.cell? ⟨g, k, none⟩ = some (.string (bs F[k])) := by
        rw [hgc k (by omega)]
        simp [strCells, List.getElem?_eq_getElem hlt]
      have HD : Hid (F.drop k = F[k] :: F.drop (k + 1)) := List.drop_eq_getElem_cons hlt
      obtain ⟨f, hf⟩ : ∃ f, F[k] = f := ⟨_, rfl⟩
      rw [hf] at hfz d0 HD
      obtain ⟨Fb, HFb, hFbz⟩ : ∃ Fb : ByteArray, Hid (bs f = Fb) ∧ Fb.size ≤ 47 := ⟨_, (rfl : _ = _), by rw [bs_size]; exact hfz⟩
      rw [HFb.out] at d0
      clear hgc hf hfz
      go_wp2_with fail
      refine (noise_any a len cap T k (by omega) hlm _ HT.out).mono ?_
      rintro e w1 ⟨rfl, hw⟩
      subst hw
      obtain ⟨Nb, HNb, hNz⟩ : ∃ Nb : ByteArray, Hid (bs (noiseL T len k) = Nb) ∧ Nb.size ≤ 12 := ⟨_, (rfl : _ = _), hnz⟩
      rw [HNb.out]
      clear hnz
      go_wp2
      go_round
      case rel =>
        refine ⟨k + 1, _, by omega, by go_num, rfl, ?_, ?_⟩
        · rw [ByteArray.size_append, ByteArray.size_append]; omega
        · show _ = _
          rw [← HS.out, HD.out, ls_append, ls_append, ← HNb.out, ← HFb.out, ls_bs, ls_bs]
          simp [layFrom]
      case measure => simp [intOf]; omega
    · obtain rfl : k = F.length := by omega
      go_wp2_with fail
      refine (noise_any a len cap T F.length (by omega) hlm _ HT.out).mono ?_
      rintro e w1 ⟨rfl, hw⟩
      subst hw
      go_wp2
      go_ret
      refine ⟨ret_str ?_, rfl⟩
      apply ls_inj
      rw [ls_append, ls_bs, ls_bs, ← HS.out]
      simp [layFrom]
end Go.Proofs.Ytfpodnleimhohaa
