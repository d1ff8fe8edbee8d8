/-
  THE STATEMENT 'Epochs': the walk of the law, and its row.
-/
import Derived.Test.YtfpodnleimhohaaWalksBI
import Derived.Test.YtfpodnleimhohaaOpen2
import Derived.Test.YtfpodnleimhohaaMathH
namespace Go.Proofs.Ytfpodnleimhohaa
open Go.ChangeShapes Go.WideShapes Go.ChangeAt Go.RowKit
set_option linter.unusedVariables false

/-- The draws of an epoch, the first k of them. -/
def drawL (cf : Cf) (n f k : Nat) : List Nat := (List.range k).map fun i => drawN cf n (f + i)
theorem drawL_snoc (cf : Cf) (n f k : Nat) : drawL cf n f (k + 1) = drawL cf n f k ++ [drawN cf n (f + k)] := by
  unfold drawL
  rw [List.range_succ, List.map_append]; rfl
theorem drawL_get (cf : Cf) (n f k i : Nat) (h : i < k) : (drawL cf n f k)[i]? = some (drawN cf n (f + i)) := by
  unfold drawL
  rw [List.getElem?_map, List.getElem?_range h]; rfl

set_option maxRecDepth 100000 in
set_option maxHeartbeats 2000000 in
theorem epochs_walk (r : Raw) (hw : r.Wf) (a0 : Option Addr) (len0 cap0 : Nat) (L0 : Nat → Int) (T0 : Nat → ByteArray) (ep : Int) (he0 : -9223372036854775808 ≤ ep) (he1 : ep ≤ 9223372036854775807) (w : World) (h0 : IsExs w a0 len0 cap0 L0 T0) (hm0 : len0 ≤ maxLen) :
    Calls Try.prog 9 #[.agg r.cells.toArray, .slice a0 len0 cap0, .int .i64 ep] w fun e w' => e = .returned (.bool true) ∧ Below w.heap.size w w' := by
  obtain ⟨i0, hi, hz0, hz1, hz2⟩ := info_parts info_int
  have HSet : Hid (∀ w1, _) := fun w1 => settings_any r hw w1
  have HcOk : Hid (setN r).Ok := setN_ok r hw
  obtain ⟨cf, Hcf⟩ : ∃ cf, Hid (setN r = cf) := ⟨_, (rfl : _ = _)⟩
  rw [Hcf.out] at HSet HcOk
  have HRc : Hid (cf.raw.cf = cf) := cf.raw_cf
  have HBeg : Hid (∀ w1, IsExs w1 a0 len0 cap0 L0 T0 → IsStrs w1 none 0 0 (fun _ => ByteArray.empty) → _) := fun w1 h1 h2 => begun_any cf.raw (Cf.raw_wf HcOk.out) (Cf.raw_ok HcOk.out) a0 len0 cap0 L0 T0 none 0 0 (fun _ => ByteArray.empty) w1 h1 hm0 h2 (Nat.zero_le _)
  have hX8 := exs_len len0 L0 T0
  obtain ⟨X, HXe⟩ : ∃ X, Hid (exs len0 L0 T0 = X) := ⟨_, (rfl : _ = _)⟩
  rw [HXe.out] at hX8 HBeg
  rw [HRc.out] at HBeg
  have H0 : Hid (IsExs w a0 len0 cap0 L0 T0) := h0
  clear h0 hw Hcf
  obtain ⟨sd, bt, ra, mo, de⟩ := r
  show Calls Try.prog 9 #[.agg #[.int .u64 sd, .int .u8 bt, .int .i32 ra, .int .i32 mo, .int .u8 de], .slice a0 len0 cap0, .int .i64 ep] w _
  go_enter Try.func9, Try.ntmps9
  go_wp2_with fail
  obtain ⟨w0, Hw0⟩ : ∃ w0, Hid (w.alloc (.cells #[.int .u64 sd, .int .u8 bt, .int .i32 ra, .int .i32 mo, .int .u8 de] 70) = w0) := ⟨_, (rfl : _ = _)⟩
  rw [Hw0.out]
  have HB0 : Hid (Below w.heap.size w w0) := by rw [← Hw0.out]; exact (Below.refl _ _).alloc (Nat.le_refl _) _
  clear Hw0
  refine (HSet.out _).mono ?_
  rintro e w1 ⟨rfl, hb1⟩
  have HB1 : Hid (Below w.heap.size w w1) := HB0.out.trans (hb1.mono HB0.out.size)
  clear hb1 HB0
  obtain ⟨sd', bt', ra', mo', de'⟩ := cf
  have HCe : Hid ((Cf.raw ⟨sd', bt', ra', mo', de'⟩).cells.toArray = #[.int .u64 sd', .int .u8 bt', .int .i32 ra', .int .i32 mo', .int .u8 de']) := rfl
  rw [HCe.out]
  go_wp2_with fail
  have HB2 : Hid (Below w.heap.size w (w1.alloc (.cells #[.int .u64 sd', .int .u8 bt', .int .i32 ra', .int .i32 mo', .int .u8 de'] 70))) := HB1.out.alloc HB1.out.size _
  generalize w1.alloc (.cells #[.int .u64 sd', .int .u8 bt', .int .i32 ra', .int .i32 mo', .int .u8 de'] 70) = w2 at *
  refine (HBeg.out _ (H0.out.later HB2.out) (.inl rfl)).mono ?_
  rintro e w3 ⟨g, vX, rfl, hg, hPR, hO, hb3⟩
  obtain ⟨aX, cX, hvX, hx1, hx2, _⟩ := own_read hO
  subst hvX
  have HP : Hid (ProgRun w3 g ⟨sd', bt', ra', mo', de'⟩ _ (.slice aX X.length cX) St.zero) := hPR
  have HB3 : Hid (Below w.heap.size w w3) := HB2.out.trans (hb3.mono HB2.out.size)
  clear hg hPR hO hb3 HB2 HBeg HSet HRc
  generalize bs (layFrom (noiseL (fun _ => ByteArray.empty) 0) 0 (framesL X)) = s
  have HcOk' : Hid (Cf.Ok ⟨sd', bt', ra', mo', de'⟩) := HcOk.out
  generalize (⟨sd', bt', ra', mo', de'⟩ : Cf) = cf at *
  obtain ⟨n, Hn⟩ : ∃ n, Hid (X.length = n) := ⟨_, (rfl : _ = _)⟩
  rw [Hn.out] at hX8 hx1 HP ⊢
  obtain ⟨hn1, hn8⟩ := hX8
  obtain ⟨q, Hq⟩ : ∃ q, Hid (3200 / n = q) := ⟨_, (rfl : _ = _)⟩
  have hq1 : (3200 : Int) / (n : Int) = (q : Int) := by rw [← Hq.out]; exact (Int.natCast_ediv 3200 n).symm
  have hq3 : (3200 : Int).tdiv (n : Int) = (q : Int) := by rw [Int.tdiv_eq_ediv_of_nonneg (by decide)]; exact hq1
  have hn0 : ((n : Int) == 0) = false := beq_eq_false_iff_ne.2 (by omega)
  have hqn : q * n ≤ 3200 := by rw [← Hq.out]; exact Nat.div_mul_le_self 3200 n
  have hq4 : 400 ≤ q := by rw [← Hq.out]; exact (Nat.le_div_iff_mul_le (by omega)).2 (by omega)
  have hq5 : q ≤ 3200 := by rw [← Hq.out]; exact Nat.div_le_self _ _
  obtain ⟨q', hq'⟩ : ∃ q', q = q' + 1 := ⟨q - 1, by omega⟩
  have HPick := pickN_lt ep (n := q') (by omega)
  obtain ⟨P, HPe⟩ : ∃ P, Hid (pickN ep q' = P) := ⟨_, (rfl : _ = _)⟩
  rw [HPe.out] at HPick
  have hfb : n * P + n ≤ 3200 := by
    have h1 : n * (P + 1) ≤ n * q := Nat.mul_le_mul_left _ (by omega)
    rw [Nat.mul_comm n q] at h1
    rw [Nat.mul_add] at h1
    omega
  obtain ⟨f, Hf⟩ : ∃ f, Hid (n * P = f) := ⟨_, (rfl : _ = _)⟩
  rw [Hf.out] at hfb
  have hf1 : (n : Int) * (P : Int) = (f : Int) := by rw [← Hf.out, Int.natCast_mul]
  have HDl : Hid (∀ k, k < n → drawN cf n (f + k) < n) := fun k hk => drawN_lt cf (f + k) hn1 (by omega)
  have HDi : Hid (∀ i k, i < k → k < n → drawN cf n (f + i) ≠ drawN cf n (f + k)) := fun i k hi hk e => by
    rw [← Hf.out, Nat.mul_comm] at e
    have := epoch_inj cf hn1 (by omega) (by omega) hk e
    omega
  have hqi : (q : Int) - 1 = (q' : Int) := by omega
  have hq'b : q' ≤ 3200 ∧ 1 ≤ q' := by omega
  clear hq' hqn hq4
  unfold maxLen at hx2
  go_wp2_with fail
  refine (pick_any ep q' he0 he1 (by omega) (by omega) _).mono ?_
  rintro e w4 ⟨rfl, hw⟩
  have hw' := hw.symm
  clear hw
  subst hw'
  rw [HPe.out]
  go_wp2_with fail
  clear hq1 hq3 hqi hf1
  go_loopw [12, 13] (fun v jv wr => ∃ k : Nat, k ≤ n ∧ jv = .int .i64 (f + k : Nat) ∧ wr.ownsRow w3.heap.size 3 1 v k (intCells (drawL cf n f k)) ∧ Below w3.heap.size w3 wr) (fun _ j _ => f + n - (intOf j).toNat)
  case atStart => exact ⟨0, by omega, rfl, World.ownsRow_nil _ _ _ _, Below.refl _ _⟩
  case round =>
    obtain ⟨k, hk, rfl, hown, hbr⟩ := hrel
    by_cases hlt : k < n
    · have HDr : Hid (drawAns cf n ((f : Int) + (k : Int)) = (drawN cf n (f + k), 0)) := by
        show _ = _
        unfold drawAns
        rw [if_pos ⟨by omega, by omega⟩]; rfl
      have hdl := HDl.out k hlt
      have HIn : Hid (∀ j, j < k → drawN cf n (f + j) ≠ drawN cf n (f + k)) := fun j hj => HDi.out j k hj hlt
      have HSn : Hid _ := drawL_snoc cf n f k
      have HGt : Hid _ := drawL_get cf n f k
      go_wp2_with fail
      refine (progDraw_any g cf HcOk'.out aX n cX hn1 (by omega) St.zero _ _ (CellsAt.later HP.out hbr)).mono ?_
      rintro e w5 ⟨rfl, n5, rfl⟩
      rw [HDr.out]
      generalize drawL cf n f k = D at *
      obtain ⟨p, Hp⟩ : ∃ p, Hid (drawN cf n (f + k) = p) := ⟨_, (rfl : _ = _)⟩
      rw [Hp.out] at hdl HIn HSn ⊢
      have hb2 : Below w3.heap.size w3 (wr.drewN n5) := below_drewN hbr _
      have hown2 : (wr.drewN n5).ownsRow w3.heap.size 3 1 _ k (intCells D) := hown
      generalize wr.drewN n5 = w5 at *
      obtain ⟨aS, cS, rfl, hcS1, hcS2, HRd⟩ := own_read hown2
      unfold maxLen at hcS2
      have HR : Hid _ := HRd
      have HO : Hid (w5.ownsRow w3.heap.size 3 1 (.slice aS k cS) k (intCells D)) := hown2
      clear HRd hown hown2
      go_wp2_with fail
      go_loopw [16] (fun j wq => ∃ m : Nat, m ≤ k ∧ j = .int .i64 m ∧ wq = w5) (fun j _ => k - (intOf j).toNat)
      case atStart => exact ⟨0, by omega, rfl, rfl⟩
      case round =>
        obtain ⟨m, hmk, rfl, rfl⟩ := hrel
        by_cases hml : m < k
        · obtain ⟨gS, rfl, hgb, hgl, hgc⟩ := HR.out (by omega)
          have hc := (hgc m (by omega)).trans (intCells_get (HGt.out m hml))
          have hne := HIn.out m hml
          generalize drawN cf n (f + m) = z at *
          have hzb : ((z : Int) == (p : Int)) = false := by simp; omega
          clear hgc
          go_wp2
          go_roundw
          case rel => exact ⟨m + 1, by omega, by go_num, trivial⟩
          case measure => simp [intOf]; omega
        · obtain rfl : m = k := by omega
          have hzs : w3.heap.size ≤ wr.heap.size := hb2.size
          have hoo : wr.ownsRow w3.heap.size 3 1 (.slice aS m cS) m (intCells D) := HO.out
          go_wp2_with (at_builtin; refine wpList_append_own _ rfl (.tmp 72) (.tmp 74) 75 rfl w3.heap.size 3 i0 (.int .i64 0) 1 8 Try.underlying75 hi hz0 hz1 hz2 rfl (by decide) _ _ _ rfl (hoo.alloc _) ⟨wr.heap.size, 0, none⟩ 1 1 [.int .i64 p] rfl rfl (news_at _ _ rfl _ _ _ rfl) (oneCell_nums _ rfl) (by unfold maxLen; omega) (by omega) (by simp; omega) ?_; intro v' w6 ho6 hgr hxx; clear hxx)
          go_roundw
          case rel =>
            refine ⟨m + 1, by omega, by go_num, ?_, ?_⟩
            · rw [HSn.out, intCells_snoc]; exact ho6
            · exact (hb2.alloc hzs _).grown hgr (by simp; omega) (fun j hj => (hoo.lt j hj).1)
          case measure => simp [intOf]; omega
    · obtain rfl : k = n := by omega
      go_wp2
      go_ret
      exact ⟨rfl, HB3.out.trans (hbr.mono HB3.out.size)⟩

set_option maxRecDepth 100000 in
theorem epochs_lifted (os : Os) (started : os.Started) (H : Type) (enc : TypeId × Value → H) :
    ReturnsInHanded {} Try.checked os 9 .any (Rows.epochsSpec.pre6 enc Try.prog Try.f9 Rows.epochsRow.domain false) (Rows.epochsSpec.post enc Try.prog Try.f9 false true false false) := by
  refine returnsInHanded_of_change (C := Try.checked) own started (by kernel_rfl) Try.func9
    (ChangeSpec.witness6 (enc := enc) (C := Try.checked) false ⟨#[], #[.agg #[.int .u64 0, .int .u8 0, .int .i32 0, .int .i32 0, .int .u8 0], .slice none 0 0, .int .i64 0], []⟩ 8 (by kernel_rfl) (by kernel_rfl) (by kernel_rfl) (by kernel_rfl)) ?_
  intro W base args ds gs before hval0 hW hcnd _
  have hval : ∀ (j : Nat) t v, Try.f9.params[j]? = some t → args[j]? = some v → Value.okWide Try.prog W .any base t v := hval0
  have hW' := hW
  obtain ⟨p, q, hA0, hV, rfl, hfz, hnd⟩ := hW
  have hA : DataW.TrodAll enc Try.prog W 0 (fun _ => true) true Try.f9.params.toList args.toList ds p := hA0
  rw [Try.params9] at hA hval
  obtain ⟨v0, vs0, d0, ds0, p0, q0, hargs, rfl, rfl, h0, r0⟩ := trodAll_cons hA
  obtain ⟨v1, vs1, d1, ds1, p1, q1, rfl, rfl, rfl, h1, r1⟩ := trodAll_cons r0
  obtain ⟨v2, vs2, d2, ds2, p2, q2, rfl, rfl, rfl, h2, r2⟩ := trodAll_cons r1
  obtain ⟨rfl, rfl, rfl⟩ := trodAll_nil r2
  obtain rfl : args = #[v0, v1, v2] := by cases args; simp_all
  obtain ⟨rfl, rfl⟩ := trodVars_none hV
  obtain ⟨cs, rfl, hcs⟩ := okWide_struct Try.underlying70 (hval 0 70 v0 rfl rfl)
  rw [show Try.prog.cellsOf 70 = 5 by kernel_rfl] at hcs
  obtain ⟨a1, len1, cap1, rfl⟩ := okWide_slice Try.underlying22 (hval 1 22 v1 rfl rfl)
  have k0 := h0
  have k1 := h1
  have lt0 : ∀ x ∈ p0, x.block < W.heap.size := by obtain ⟨m, hm⟩ := k0; exact DataW.trod_lt m _ _ _ hm
  have lt1 : ∀ x ∈ p1, x.block < W.heap.size := by obtain ⟨m, hm⟩ := k1; exact DataW.trod_lt m _ _ _ hm
  obtain ⟨r, hr, hrc⟩ : ∃ r : Raw, r.Wf ∧ cs.toList = r.cells := by
    obtain ⟨fuel, hf⟩ := h0
    exact open_config (by simpa using hcs) (by simpa [Value.cells] using hf)
  obtain rfl : cs = r.cells.toArray := by rw [← hrc]
  obtain ⟨L, T, hx⟩ : ∃ L T, IsExs W a1 len1 cap1 L T := by
    obtain ⟨fuel, hf⟩ := h1
    exact open_exs (by simpa [Value.cells] using hf)
  obtain ⟨n2, rfl, rfl, rfl, wf2⟩ := open_int Try.underlying3 (hval 2 3 v2 rfl rfl) h2
  clear hA0 hval0
  have b2 := bounds_i64 wf2
  refine (epochs_walk r hr a1 len1 cap1 L T n2 (by omega) (by omega) W hx hx.len).mono fun e W' ⟨he, bel⟩ => ?_
  subst he
  exact ⟨_, rfl, _, _, _, [], _, [], hW', trodAll_mk1 (shut_bool Try.underlying4 _), (trodAll_cons_mk (Below.trod laidOut (by kernel_rfl) (of_decide_eq_true (by kernel_rfl)) k0 bel lt0) (trodAll_cons_mk (Below.trod laidOut (by kernel_rfl) (of_decide_eq_true (by kernel_rfl)) k1 bel lt1) (trodAll_cons_mk (shut_int Try.underlying3 wf2) trodAll_mk0))), rfl, bel.frame _, fun h => by cases h⟩

theorem epochs_over : Rows.epochsRow.holds Try.pinned (OpenSpec.ofChange Rows.epochsSpec) :=
  OpenClaim.holds_of_wide 9 Try.f9 rfl rfl rfl rfl rfl rfl rfl ⟨rfl, rfl, rfl, rfl, rfl⟩ rfl rfl rfl rfl rfl (by kernel_rfl) Try.func9 (by kernel_rfl)
    (of_decide_eq_true (by kernel_rfl)) (by unfold Func.isWrapper; first | (rw [if_pos (by decide +kernel)]; kernel_rfl) | (rw [if_neg (by decide +kernel)]; exact ⟨rfl, rfl⟩))
    (fun os started H enc _ => epochs_lifted os started H enc)

theorem epochs_holds : Rows.EpochsSaid := epochs_over
#print axioms epochs_holds
end Go.Proofs.Ytfpodnleimhohaa
