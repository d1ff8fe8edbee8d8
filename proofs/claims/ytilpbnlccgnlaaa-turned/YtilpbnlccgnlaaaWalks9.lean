/-
  WALKS: examples out of raw ones; their frames.
-/
import Derived.Test.YtilpbnlccgnlaaaWalks8
namespace Go.Proofs.Ytilpbnlccgnlaaa
open Go.RowKit
set_option linter.unusedVariables false

/-- append to a row of the call's own, as one step of a region that draws its order. -/
theorem step_append_own {P : Program} {ops : Array Oper} {o : Oper} {a : Act} {w : World} {K : Act → World → Prop} {Q : Exit → Act → World → Prop} {E : Prop}
    (hg : o.guard = none) (s x : Operand) (t : TypeId) (hop : o.op = Op.call { callee := Callee.builtin Builtin.append, args := #[s, x], argTypes := #[t, t] })
    (base : Nat) (e : TypeId) (i : TypeInfo) (z : Value) (size bytes : Nat) (h1 : P.underlying t = some (.slice e)) (h2 : P.info? e = some i) (h3 : i.zero = some z) (h4 : i.size = size) (h5 : i.bytes = bytes) (h6 : z.cells.size = size) (h7 : 0 < size)
    (v : Value) (n : Nat) (xs : List Value) (hs : a.eval s = v) (hown : w.ownsRow base e size v n xs)
    (ad : Addr) (m c : Nat) (news : List Value) (hx : a.eval x = .slice (some ad) m c) (hn : news.length = m * size) (hc : ∀ j u, news[j]? = some u → w.cell? (ad.add j) = some u) (h1c : ∀ u ∈ news, u.oneCell' = true)
    (b1 : n + m ≤ maxLen) (b2 : (n + m) * bytes ≤ 140737488355328) (hb : base ≤ w.heap.size)
    (hK : ∀ v' w', w'.ownsRow base e size v' (n + m) (xs ++ news) → w.grownBy w' v.ownBlock → K (a.put o.dst v') w') :
    if Region.wanted o (yielded ops a.tmps) = true then Oper.wp P o a w K Q else E := by
  have hw : Region.wanted o (yielded ops a.tmps) = true := by simp [Region.wanted, hg]
  rw [if_pos hw]
  obtain ⟨v', w', hrun, r1, r2, _⟩ := run_append_own (P := P) w base t o.type e i z size bytes h1 h2 h3 h4 h5 h6 h7 v n xs hown ad m c news hn hc h1c b1 b2 hb
  unfold Oper.wp
  simp [execOp, hop, resolve, invoke, builtin, hs, hx, hrun, Result.andThen]
  exact hK v' w' r1 r2

/-- A row that the call owns, to be read by index. -/
theorem own_read {w : World} {base : Nat} {e : TypeId} {size : Nat} {v : Value} {n : Nat} {xs : List Value} (h : w.ownsRow base e size v n xs) :
    ∃ a cap, v = .slice a n cap ∧ n ≤ cap ∧ cap ≤ maxLen ∧ (0 < n → ∃ g, a = some ⟨g, 0, none⟩ ∧ base ≤ g ∧ g < w.heap.size ∧ ∀ j, j < n * size → w.cell? ⟨g, j, none⟩ = xs[j]?) := by
  rcases h.2 with ⟨rfl, rfl⟩ | ⟨g, cap, cur, rfl, hb, hh, hnc, hcm, hcs, ht⟩
  · exact ⟨none, 0, rfl, Nat.le_refl _, Nat.zero_le _, fun h => absurd h (by omega)⟩
  · exact ⟨_, cap, rfl, hnc, hcm, fun _ => ⟨g, rfl, hb, lt_of_block hh, fun j hj => h.cellAt j hj⟩⟩
theorem flat_get {α : Type} (f : α → List Value) (m : Nat) (hm : ∀ a, (f a).length = m) : ∀ (l : List α) (k : Nat) (a : α), l[k]? = some a → ∀ j, j < m → (l.flatMap f)[k * m + j]? = (f a)[j]? := by
  intro l
  induction l with
  | nil => intro k a h; simp at h
  | cons b l ih =>
    intro k a h j hj
    cases k with
    | zero =>
      simp at h
      subst h
      rw [List.flatMap_cons, Nat.zero_mul, Nat.zero_add, List.getElem?_append_left (by rw [hm]; exact hj)]
    | succ k =>
      simp at h
      rw [List.flatMap_cons, List.getElem?_append_right (by rw [hm, Nat.succ_mul]; omega), hm, Nat.succ_mul, show k * m + m + j - m = k * m + j by omega]
      exact ih k a h j hj

theorem rec_get {rs : List Rc} {k : Nat} {r : Rc} (h : rs[k]? = some r) : (recsCells rs)[k * 4]? = some (.int .i64 r.fr) ∧ (recsCells rs)[k * 4 + 1]? = some (.int .i64 r.to) ∧ (recsCells rs)[k * 4 + 2]? = some (.int .u8 ((r.bd.headD 0).toNat : Int)) ∧ (recsCells rs)[k * 4 + 3]? = some (.string (bs r.bd.tail)) := by
  have f := flat_get recCells 4 (fun _ => rfl) rs k r h
  exact ⟨f 0 (by omega), f 1 (by omega), f 2 (by omega), f 3 (by omega)⟩
theorem gap_get {gs : List (Nat × Nat)} {k : Nat} {g : Nat × Nat} (h : gs[k]? = some g) : (gapsCells gs)[k * 2]? = some (.int .i64 g.1) ∧ (gapsCells gs)[k * 2 + 1]? = some (.int .i64 g.2) := by
  have f := flat_get gapCells 2 (fun _ => rfl) gs k g h
  exact ⟨f 0 (by omega), f 1 (by omega)⟩


theorem info_ex : (Try.prog.info? 27).map (fun i => (i.zero, i.size, i.bytes)) = some (some (.agg #[.int .u8 0, .string ⟨#[]⟩]), 2, 24) := by kernel_rfl

def exCells (x : Int × List UInt8) : List Value := [.int .u8 x.1, .string (bs x.2)]
def exsCells (l : List (Int × List UInt8)) : List Value := l.flatMap exCells
theorem exsCells_snoc (l : List (Int × List UInt8)) (x : Int × List UInt8) : exsCells (l ++ [x]) = exsCells l ++ exCells x := by simp [exsCells]
/-- The first k examples out of raw ones. -/
def exsTo (L : Nat → Int) (T : Nat → ByteArray) : Nat → List (Int × List UInt8)
  | 0 => []
  | k + 1 => exsTo L T k ++ [(L k % 4, (ls (T k)).take 40)]
theorem exsTo_length (L : Nat → Int) (T : Nat → ByteArray) : ∀ k, (exsTo L T k).length = k
  | 0 => rfl
  | k + 1 => by simp [exsTo, exsTo_length L T k]
/-- All of them: one to eight. -/
def exs (len : Nat) (L : Nat → Int) (T : Nat → ByteArray) : List (Int × List UInt8) :=
  if len = 0 then [(1, [97])] else exsTo L T (min len 8)

set_option maxHeartbeats 400000 in
theorem examples_zero (a : Option Addr) (cap : Nat) (L : Nat → Int) (T : Nat → ByteArray) (w : World) :
    Calls Try.prog 13 #[.slice a 0 cap] w fun e w' => ∃ v, e = .returned v ∧ w'.ownsRow w.heap.size 27 2 v (exs 0 L T).length (exsCells (exs 0 L T)) ∧ Below w.heap.size w w' := by
  obtain ⟨i0, hi, hz0, hz1, hz2⟩ := info_parts info_ex
  have HE : Hid (exs 0 L T = [(1, [97])]) := rfl
  go_enter Try.func13, Try.ntmps13
  go_wp2
  refine wp_loop_rounds 1 ?_
  rw [rounds_succ]
  go_wp2_with (at_builtin; refine wpList_append_own _ rfl (.tmp 34) (.tmp 36) 22 rfl w.heap.size 27 i0 (.agg #[.int .u8 0, .string ⟨#[]⟩]) 2 24 Try.underlying22 hi hz0 hz1 hz2 rfl (by decide) _ _ _ rfl ((World.ownsRow_nil w w.heap.size 27 2).alloc _) ⟨w.heap.size, 0, none⟩ 1 1 [.int .u8 1, .string ⟨#[97]⟩] rfl rfl (news_at _ _ rfl _ _ _ rfl) (oneCell_nums _ rfl) (by unfold maxLen; omega) (by omega) (by simp) ?_; intro v' w1 hown' hgrow hxx; clear hxx)
  go_ret
  refine ⟨_, rfl, ?_, ?_⟩
  · rw [HE.out]; exact hown'
  · exact ((Below.refl _ _).alloc (Nat.le_refl _) _).grown hgrow (by simp) (by intro k hk; exact absurd hk (by simp [Value.ownBlock, Act.eval]))

set_option maxRecDepth 4000 in
set_option maxHeartbeats 1000000 in
theorem examples_any (a : Option Addr) (len cap : Nat) (L : Nat → Int) (T : Nat → ByteArray) (w : World) (hx : IsExs w a len cap L T) (hlm : len ≤ maxLen) :
    Calls Try.prog 13 #[.slice a len cap] w fun e w' => ∃ v, e = .returned v ∧ w'.ownsRow w.heap.size 27 2 v (exs len L T).length (exsCells (exs len L T)) ∧ Below w.heap.size w w' := by
  obtain ⟨i0, hi, hz0, hz1, hz2⟩ := info_parts info_ex
  unfold maxLen at hlm
  rcases hx with rfl | ⟨b, off, rfl, hlen, hcap, hb, h⟩
  · exact examples_zero a cap L T w
  · unfold maxLen at hcap
    have H : Hid _ := h
    clear h
    by_cases hl0 : len = 0
    · subst hl0
      exact examples_zero _ cap L T w
    · go_enter Try.func13, Try.ntmps13
      go_wp2
      go_loopw [3, 4] (fun v i wr => ∃ k : Nat, k ≤ len ∧ k ≤ 8 ∧ i = .int .i64 k ∧ wr.ownsRow w.heap.size 27 2 v k (exsCells (exsTo L T k)) ∧ Below w.heap.size w wr) (fun _ i _ => len - (intOf i).toNat)
      case atStart => exact ⟨0, by omega, by omega, rfl, World.ownsRow_nil _ _ _ _, Below.refl _ _⟩
      case round =>
        obtain ⟨k, hk, hk8, rfl, hown, hbel⟩ := hrel
        by_cases hlt : k < len
        · by_cases h8 : k < 8
          · obtain ⟨c0, c1, l0, l1, tz⟩ := H.out k hlt
            have d0 := (hbel.cell (by exact hb)).trans c0
            have d1 := (hbel.cell (by exact hb)).trans c1
            have hz := hbel.size
            have hbz : b < wr.heap.size := by omega
            have hkl : (k : Int) < (len : Int) := by omega
            have htm : (L k).tmod 4 = L k % 4 := Int.tmod_eq_emod_of_nonneg l0
            have HB : Hid (∀ x, some b = u3.ownBlock → x) := fun x e => absurd (hown.lt b e.symm).1 (by omega)
            clear c0 c1
            go_wp2_with fail
            go_region_held_law (fun w' => w'.cell? ⟨b, off + k * 2, none⟩ = some (.int .u8 (L k)) ∧ w'.cell? ⟨b, off + k * 2 + 1, none⟩ = some (.string (T k))) (go_keep) (first | (go_at_call 18; refine (some_any _ 40 tz (by omega) _).mono ?_; rintro e w' ⟨rfl, rfl⟩) | (refine step_append_own rfl (.tmp 15) (.tmp 29) 22 rfl w.heap.size 27 i0 (.agg #[.int .u8 0, .string ⟨#[]⟩]) 2 24 Try.underlying22 hi hz0 hz1 hz2 rfl (by decide) _ _ _ rfl (by exact (hown.alloc _).drew) ⟨wr.heap.size, 0, none⟩ 1 1 [.int .u8 (L k % 4), .string (bs ((ls (T k)).take 40))] rfl rfl (by exact news_at _ _ rfl _ _ _ rfl) (oneCell_nums _ rfl) (by unfold maxLen; omega) (by omega) (by simp; omega) ?_; intro v' w1 hown' hgrow; have e0 : w1.cell? ⟨b, off + k * 2, none⟩ = some (.int .u8 (L k)) := hgrow.cell (by simp [go_sem, d0, hbz]) (fun e => HB.out False e); have e1 : w1.cell? ⟨b, off + k * 2 + 1, none⟩ = some (.string (T k)) := hgrow.cell (by simp [go_sem, d1, hbz]) (fun e => HB.out False e)))
            go_wp2
            go_roundw
            case rel =>
              refine ⟨k + 1, by omega, by omega, by go_num, ?_, ?_⟩
              · rw [show exsTo L T (k + 1) = exsTo L T k ++ [(L k % 4, (ls (T k)).take 40)] from rfl, exsCells_snoc]; exact hown'
              · exact ((hbel.alloc hbel.size _).drew).grown hgrow (by simp; omega) (fun j hj => (hown.lt j hj).1)
            case measure => simp [intOf]; omega
          · have HX : Hid (exs len L T = exsTo L T k) := by
              show exs len L T = _
              rw [exs, if_neg hl0, show min len 8 = k by omega]
            obtain ⟨ao, cp, rfl, hk1, hk2, _⟩ := own_read hown
            have hk0 : ((k : Int) == 0) = false := by simp; omega
            unfold maxLen at hk2
            go_wp2
            go_ret
            refine ⟨_, rfl, ?_, hbel⟩
            rw [HX.out, exsTo_length]; exact hown
        · have HX : Hid (exs len L T = exsTo L T k) := by
            show exs len L T = _
            rw [exs, if_neg hl0, show min len 8 = k by omega]
          obtain ⟨ao, cp, rfl, hk1, hk2, _⟩ := own_read hown
          have hk0 : ((k : Int) == 0) = false := by simp; omega
          unfold maxLen at hk2
          go_wp2
          go_ret
          refine ⟨_, rfl, ?_, hbel⟩
          rw [HX.out, exsTo_length]; exact hown
end Go.Proofs.Ytilpbnlccgnlaaa
