import Derived.Test.YtfpodnleimhohaaGreatDoorWalks9
import Derived.Test.YtfpodnleimhohaaGreatDoorSpare
/-
  WALKS: a list that is written full with a mark, and made longer by marks: the law of append for it; the number of the next list.
-/
namespace Go.Proofs.YtfpodnleimhohaaGreatDoor
open Go.RowKit
set_option linter.unusedVariables false

/-- So many marks, one behind the other. -/
def fills (mk : List Value) : Nat → List Value
  | 0 => []
  | n + 1 => mk ++ fills mk n
theorem fills_length (mk : List Value) (n : Nat) : (fills mk n).length = n * mk.length := by
  induction n with
  | zero => simp [fills]
  | succ n ih => simp [fills, ih, Nat.succ_mul]; omega
theorem fills_add (mk : List Value) (n m : Nat) : fills mk (n + m) = fills mk n ++ fills mk m := by
  induction n with
  | zero => simp [fills]
  | succ n ih => rw [show n + 1 + m = (n + m) + 1 by omega]; simp [fills, ih]
theorem fills_take (mk : List Value) (p q : Nat) (h : p ≤ q) : (fills mk q).take (p * mk.length) = fills mk p := by
  obtain ⟨r, rfl⟩ := Nat.le.dest h
  rw [fills_add, ← fills_length mk p, List.take_left]
theorem fills_one {mk : List Value} (h : ∀ u ∈ mk, u.oneCell' = true) (n : Nat) : ∀ u ∈ fills mk n, u.oneCell' = true := by
  induction n with
  | zero => simp [fills]
  | succ n ih =>
    intro u hu
    rcases List.mem_append.1 hu with hu | hu
    · exact h u hu
    · exact ih u hu
theorem fills_get (mk : List Value) (n k j : Nat) (hk : k < n) (hj : j < mk.length) : (fills mk n)[k * mk.length + j]? = mk[j]? := by
  obtain ⟨r, rfl⟩ := Nat.le.dest hk
  rw [show k.succ + r = k + (1 + r) by omega, fills_add, List.getElem?_append_right (by rw [fills_length]; omega), fills_length, show k * mk.length + j - k * mk.length = j by omega, show 1 + r = r + 1 by omega]
  simp only [fills]
  rw [List.getElem?_append_left hj]

/-- A slice that is full of marks. -/
def Full (w : World) (base e : Nat) (mk : List Value) (v : Value) (p : Nat) : Prop := w.ownsRow base e mk.length v p (fills mk p)
/-- The block of a row is what the row says. -/
theorem own_block {w : World} {base e size g n cap : Nat} {xs : List Value} (h : w.ownsRow base e size (.slice (some ⟨g, 0, none⟩) n cap) n xs) :
    ∃ cur, base ≤ g ∧ w.heap[g]? = some (.cells cur e (0, 0)) ∧ n ≤ cap ∧ cap ≤ maxLen ∧ cur.size = cap * size ∧ cur.toList.take (n * size) = xs := by
  rcases h.2 with ⟨h', _⟩ | ⟨g', cap', cur, h', hb, hg, hnc, hcm, hcs, htake⟩
  · simp at h'
  · simp only [Value.slice.injEq, Option.some.injEq, Addr.mk.injEq, and_true, true_and] at h'
    obtain ⟨rfl, rfl⟩ := h'
    exact ⟨cur, hb, hg, hnc, hcm, hcs, htake⟩

section
variable {P : Program} (w : World)
theorem run_append_mark (base : Nat) (t ty e : TypeId) (i : TypeInfo) (z : Value) (mk : List Value) (bytes : Nat) (ht : P.underlying t = some (.slice e)) (hi : P.info? e = some i) (hz : i.zero = some z)
    (hsize : i.size = mk.length) (hby : i.bytes = bytes) (hzs : z.cells.size = mk.length) (hsz : 0 < mk.length) (hmk : ∀ u ∈ mk, u.oneCell' = true)
    (v : Value) (n : Nat) (hown : Full w base e mk v n)
    (a : Addr) (m c : Nat) (hnews : ∀ j u, (fills mk m)[j]? = some u → w.cell? (a.add j) = some u)
    (h63 : n + m ≤ maxLen) (hbytes : (n + m) * bytes ≤ 140737488355328) (hbase : base ≤ w.heap.size) :
    ∃ v' w', (Builtin.append_ #[t, t] ty #[v, .slice (some a) m c]).run P w = .ok v' w' ∧ Full w' base e mk v' (n + m) ∧ w.grownBy w' v.ownBlock ∧
      (∀ o p, p ≤ n + m → Full w base e mk o p → Full w' base e mk o p) := by
  have e1 : fills mk n ++ fills mk m = fills mk (n + m) := (fills_add mk n m).symm
  have hl : (fills mk m).length = m * mk.length := fills_length mk m
  have still : ∀ w', w.grownBy w' none → ∀ o p, Full w base e mk o p → Full w' base e mk o p := fun w' hg o p h =>
    World.ownsRow.kept h hg (by cases hv : Value.ownBlock o <;> simp)
  rcases hown.2 with ⟨rfl, rfl⟩ | ⟨g, cap, cur, rfl, hb, hh, hnc, hcm, hcs, ht'⟩
  · obtain ⟨v', w', hr, h2, h3, _⟩ := run_append_own (P := P) w base t ty e i z mk.length bytes ht hi hz hsize hby hzs hsz (.slice none 0 0) 0 (fills mk 0) hown a m c (fills mk m) hl hnews (fills_one hmk m) h63 hbytes hbase
    rw [e1] at h2
    exact ⟨v', w', hr, h2, h3, fun o p _ h => still w' h3 o p h⟩
  · by_cases hroom : n + m ≤ cap
    · obtain ⟨w', hr, h2, h3⟩ := run_append_fits (P := P) w base t ty e i mk.length ht hi hsize g n cap (fills mk n) hown a m c (fills mk m) hl hnews (fills_one hmk m) hroom
      rw [e1] at h2
      refine ⟨_, w', hr, h2, h3, fun o p hp ho => ?_⟩
      obtain ⟨cur', _, hh', _, _, hcs', htk⟩ := own_block h2
      refine ⟨ho.1, ?_⟩
      rcases ho.2 with hn | ⟨go, co, cu, rfl, hbo, hho, hpo, hco, hso, hto⟩
      · exact .inl hn
      · by_cases hg : go = g
        · subst hg
          rw [hh] at hho
          simp at hho
          subst hho
          refine .inr ⟨go, co, cur', rfl, hbo, hh', hpo, hco, ?_, ?_⟩
          · rw [hcs', ← hcs, hso]
          · have := fills_take mk p (n + m) hp
            rw [← htk, List.take_take] at this
            rw [← this]
            congr 1
            have : p * mk.length ≤ (n + m) * mk.length := Nat.mul_le_mul_right _ hp
            omega
        · refine .inr ⟨go, co, cu, rfl, hbo, ?_, hpo, hco, hso, hto⟩
          rw [h3.block go (lt_of_block hho) (by simp; exact hg)]
          exact hho
    · obtain ⟨v', w', hr, h2, h3⟩ := run_append_arg_grows (P := P) w t ty e i z mk.length bytes ht hi hz hsize hby hzs hsz ⟨g, 0, none⟩ n cap (fills mk n) (fills_length mk n) (fun j u hj => World.ownsRow.cells hown rfl j u hj) a m c (fills mk m) hl hnews (by omega) h63 hbytes
      rw [e1] at h2
      refine ⟨v', w', hr, ?_, ?_, fun o p _ h => still w' h3 o p h⟩
      · refine ⟨h2.1, ?_⟩
        rcases h2.2 with hn | ⟨g2, c2, u2, e2, hb2, r2⟩
        · exact .inl hn
        · exact .inr ⟨g2, c2, u2, e2, Nat.le_trans hbase hb2, r2⟩
      · exact ⟨h3.os, h3.tape, h3.output, h3.size, fun k hk _ => h3.block k hk (by simp)⟩

theorem wpList_append_mark {ops : Array Oper} {rest : List Oper} {o : Oper} {a : Act} {Q : Exit → Act → World → Prop} (hgd : o.guard = none) (s x : Operand) (t : TypeId)
    (ho : o.op = .call { callee := .builtin .append, args := #[s, x], argTypes := #[t, t] })
    (base : Nat) (e : TypeId) (i : TypeInfo) (z : Value) (mk : List Value) (bytes : Nat) (ht : P.underlying t = some (.slice e)) (hi : P.info? e = some i) (hz : i.zero = some z)
    (hsize : i.size = mk.length) (hby : i.bytes = bytes) (hzs : z.cells.size = mk.length) (hsz : 0 < mk.length) (hmk : ∀ u ∈ mk, u.oneCell' = true)
    (v : Value) (n : Nat) (hs : a.eval s = v) (hown : Full w base e mk v n)
    (ad : Addr) (m c : Nat) (hx : a.eval x = .slice (some ad) m c) (hnews : ∀ j u, (fills mk m)[j]? = some u → w.cell? (ad.add j) = some u)
    (h63 : n + m ≤ maxLen) (hbytes : (n + m) * bytes ≤ 140737488355328) (hbase : base ≤ w.heap.size)
    (h : ∀ v' w', Full w' base e mk v' (n + m) → w.grownBy w' v.ownBlock → (∀ o p, p ≤ n + m → Full w base e mk o p → Full w' base e mk o p) → wpList P ops Q rest (a.put o.dst v') w') : wpList P ops Q (o :: rest) a w :=
  wpList_plain hgd fun _ hK => by
    obtain ⟨v', w', hr, h2, h3, h4⟩ := run_append_mark (P := P) w base t o.type e i z mk bytes ht hi hz hsize hby hzs hsz hmk v n hown ad m c hnews h63 hbytes hbase
    unfold Oper.wp execOp
    simp only [ho, resolve, invoke, builtin, Sem.run_bind, Sem.run_pure, Result.andThen_ok, List.map_toArray, List.map_cons, List.map_nil, hs, hx, hr]
    exact hK _ _ (h v' w' h2 h3 h4)
end

/-- A Book at an address: its four lists. -/
structure BookAt (w : World) (g o : Nat) (nI nW nR nG : Nat) (aI : Option Addr) (cI : Nat) (aW : Option Addr) (cW : Nat) (aR : Option Addr) (cR : Nat) (aG : Option Addr) (cG : Nat) : Prop where
  c0 : w.cell? ⟨g, o, none⟩ = some (.slice aI nI cI)
  c1 : w.cell? ⟨g, o + 1, none⟩ = some (.slice aW nW cW)
  c2 : w.cell? ⟨g, o + 2, none⟩ = some (.slice aR nR cR)
  c3 : w.cell? ⟨g, o + 3, none⟩ = some (.slice aG nG cG)
  f0 : w.frozen? ⟨g, o, none⟩ = false
  f1 : w.frozen? ⟨g, o + 1, none⟩ = false
  f2 : w.frozen? ⟨g, o + 2, none⟩ = false
  f3 : w.frozen? ⟨g, o + 3, none⟩ = false
theorem BookAt.kept {w w' : World} {g o nI nW nR nG : Nat} {aI : Option Addr} {cI : Nat} {aW : Option Addr} {cW : Nat} {aR : Option Addr} {cR : Nat} {aG : Option Addr} {cG : Nat} (h : BookAt w g o nI nW nR nG aI cI aW cW aR cR aG cG)
    (hb : w'.heap[g]? = w.heap[g]?) : BookAt w' g o nI nW nR nG aI cI aW cW aR cR aG cG :=
  ⟨(World.cell?_of_block (w := w) (a := ⟨g, o, none⟩) hb).trans h.c0, (World.cell?_of_block (w := w) (a := ⟨g, o + 1, none⟩) hb).trans h.c1, (World.cell?_of_block (w := w) (a := ⟨g, o + 2, none⟩) hb).trans h.c2, (World.cell?_of_block (w := w) (a := ⟨g, o + 3, none⟩) hb).trans h.c3,
   (World.frozen?_of_block (w := w) (a := ⟨g, o, none⟩) hb).trans h.f0, (World.frozen?_of_block (w := w) (a := ⟨g, o + 1, none⟩) hb).trans h.f1, (World.frozen?_of_block (w := w) (a := ⟨g, o + 2, none⟩) hb).trans h.f2, (World.frozen?_of_block (w := w) (a := ⟨g, o + 3, none⟩) hb).trans h.f3⟩

set_option maxHeartbeats 400000 in
theorem number_any (g o nI nW nR nG : Nat) (aI : Option Addr) (cI : Nat) (aW : Option Addr) (cW : Nat) (aR : Option Addr) (cR : Nat) (aG : Option Addr) (cG : Nat) (w : World) (hB : BookAt w g o nI nW nR nG aI cI aW cW aR cR aG cG)
    (h : nI ≤ 100000000 ∧ nW ≤ 100000000 ∧ nR ≤ 100000000 ∧ nG ≤ 100000000) :
    Calls Tryz.prog 43 #[.pointer (some ⟨g, o, none⟩)] w fun e w' => e = .returned (.int .i64 (-1000 - (nI : Int) - nW - nR - nG)) ∧ ∃ n, w' = w.drewN n := by
  obtain ⟨c0, c1, c2, c3, _, _, _, _⟩ := hB
  obtain ⟨h1, h2, h3, h4⟩ := h
  go_enter Tryz.func43, Tryz.ntmps43
  go_wp2
  go_quiet (fail)
  go_wp2
  go_ret
  exact ⟨rfl, _, rfl⟩
end Go.Proofs.YtfpodnleimhohaaGreatDoor

/-
  WALKS: a list is kept.
-/
namespace Go.Proofs.YtfpodnleimhohaaGreatDoor
open Go.RowKit
set_option linter.unusedVariables false

/-- On the way: the mark's block, the new entry's block, the list full. -/
structure KSt (w W : World) (base r0 x0 : Nat) (mk : List Value) (e te : Nat) (vL : Value) (n : Nat) (xs : Array Value) : Prop where
  rb : W.heap[r0]? = some (.cells mk.toArray e (0, 0))
  xb : W.heap[x0]? = some (.cells xs te (0, 0))
  full : Full W base e mk vL n
  sp : Spared w W (fun b => some b = vL.ownBlock)
  rw' : w.heap.size ≤ r0
  xw : w.heap.size ≤ x0
  vl : ∀ k, vL.ownBlock = some k → k < r0 ∧ k < x0
theorem KSt.step {w W w2 : World} {base r0 x0 : Nat} {mk : List Value} {e te : Nat} {vL : Value} {n : Nat} {xs : Array Value} {T : Obj} {k : Nat} {v : Value} (s : KSt w W base r0 x0 mk e te vL n xs) (hne : e ≠ te) (i : Nat)
    (hg : (W.alloc T).grownBy w2 vL.ownBlock) (hst : ∀ o p, p ≤ n + k → Full (W.alloc T) base e mk o p → Full w2 base e mk o p) (hv : Full w2 base e mk v (n + k)) :
    KSt w (w2.setCell ⟨x0, i, none⟩ v) base r0 x0 mk e te vL n (xs.setIfInBounds i v) ∧ Full (w2.setCell ⟨x0, i, none⟩ v) base e mk v (n + k) ∧ (∀ o p, p ≤ n + k → Full W base e mk o p → Full (w2.setCell ⟨x0, i, none⟩ v) base e mk o p) := by
  have lx := lt_of_block s.xb
  have lr := lt_of_block s.rb
  have ax : (W.alloc T).heap[x0]? = some (.cells xs te (0, 0)) := (Below.heap_alloc W T x0 lx).trans s.xb
  have ar : (W.alloc T).heap[r0]? = some (.cells mk.toArray e (0, 0)) := (Below.heap_alloc W T r0 lr).trans s.rb
  have x2 : w2.heap[x0]? = some (.cells xs te (0, 0)) := (hg.block x0 (by simp; omega) (fun h => by have := (s.vl x0 h.symm).2; omega)).trans ax
  have r2 : w2.heap[r0]? = some (.cells mk.toArray e (0, 0)) := (hg.block r0 (by simp; omega) (fun h => by have := (s.vl r0 h.symm).1; omega)).trans ar
  have hrx : r0 ≠ x0 := by
    intro h; rw [h, x2] at r2; simp at r2; exact hne r2.2.symm
  have keep : ∀ o p, Full w2 base e mk o p → Full (w2.setCell ⟨x0, i, none⟩ v) base e mk o p := fun o p h =>
    ownsRow_setCell_other h (own_ne h x2 hne) v
  have all : ∀ o p, p ≤ n + k → Full W base e mk o p → Full (w2.setCell ⟨x0, i, none⟩ v) base e mk o p := fun o p hp h => keep o p (hst o p hp (World.ownsRow.alloc h T))
  refine ⟨⟨?_, heap_setCell_same w2 x0 i xs te v x2, all vL n (by omega) s.full, ?_, s.rw', s.xw, s.vl⟩, keep v _ hv, all⟩
  · rw [heap_setCell_other w2 _ r0 v hrx]; exact r2
  · refine ((s.sp.trans (Spared.of_grown (World.grownBy_alloc W T vL.ownBlock)) (fun _ _ h => h)).trans (Spared.of_grown hg) (fun _ _ h => h)).trans (Spared.of_set w2 x0 i v) ?_
    intro j hj h
    have := s.xw
    omega
theorem KSt.after {w W w2 : World} {base r0 x0 : Nat} {mk : List Value} {e te : Nat} {vL : Value} {n : Nat} {xs : Array Value} {T : Obj} (s : KSt w W base r0 x0 mk e te vL n xs) (hg : (W.alloc T).grownBy w2 vL.ownBlock) :
    w2.heap[x0]? = some (.cells xs te (0, 0)) := by
  have lx := lt_of_block s.xb
  exact (hg.block x0 (by simp; omega) (fun h => by have := (s.vl x0 h.symm).2; omega)).trans ((Below.heap_alloc W T x0 lx).trans s.xb)
theorem KSt.rc {w W : World} {base r0 x0 : Nat} {mk : List Value} {e te : Nat} {vL : Value} {n : Nat} {xs : Array Value} (s : KSt w W base r0 x0 mk e te vL n xs) (j : Nat) : W.cell? ⟨r0, j, none⟩ = mk[j]? := by
  simp [World.cell?, s.rb]
theorem KSt.xc {w W : World} {base r0 x0 : Nat} {mk : List Value} {e te : Nat} {vL : Value} {n : Nat} {xs : Array Value} (s : KSt w W base r0 x0 mk e te vL n xs) (j : Nat) : W.cell? ⟨x0, j, none⟩ = xs[j]? ∧ W.frozen? ⟨x0, j, none⟩ = false := by
  constructor
  · simp [World.cell?, s.xb]
  · simp [World.frozen?, s.xb]

/-- A full slice behind an append to a row of another type and a store below the base. -/
theorem full_end {wc w3 : World} {base e te size n : Nat} {mk : List Value} {v row u : Value} {p : Nat} {rc : List Value} {T : Obj} {g j : Nat} (h : Full wc base e mk v p) (hr : wc.ownsRow base te size row n rc) (hne : e ≠ te)
    (hg : (wc.alloc T).drew.grownBy w3 row.ownBlock) (hgb : g < base) : Full (w3.setCell ⟨g, j, none⟩ u) base e mk v p := by
  refine ownsRow_setCell_below ?_ hgb u
  refine World.ownsRow.kept (World.ownsRow.drew (World.ownsRow.alloc h T)) hg ?_
  cases hv : v.ownBlock with
  | none => exact .inl rfl
  | some b =>
    right
    intro hb
    obtain ⟨cs, hh⟩ := own_tag hr hb.symm
    exact own_ne h hh hne hv
/-- What was spared, to the end of it. -/
theorem spared_end {w w1 wc w3 : World} {vL row u : Value} {T : Obj} {g j : Nat} (hb : Below w.heap.size w w1) (hs : w1.heap.size = w.heap.size) (h : Spared w1 wc (fun b => some b = vL.ownBlock)) (hg : (wc.alloc T).drew.grownBy w3 row.ownBlock) :
    Spared w (w3.setCell ⟨g, j, none⟩ u) (fun k => k = g ∨ some k = vL.ownBlock ∨ some k = row.ownBlock) := by
  have a : Spared w wc (fun k => k = g ∨ some k = vL.ownBlock ∨ some k = row.ownBlock) :=
    (Spared.of_below hb _).trans h (fun i _ hi => .inr (.inl hi))
  have b : Spared wc (wc.alloc T).drew (fun _ => False) := Spared.of_below (((Below.refl _ _).alloc (Nat.le_refl _) T).drew) _
  exact ((a.trans b (fun _ _ hi => hi.elim)).trans (Spared.of_grown hg) (fun i _ hi => .inr (.inr hi))).trans (Spared.of_set w3 g j u) (fun i _ hi => .inl hi)

/-- One more mark is written into the list. -/
theorem fill_set4 (a b c d : Value) (k : Nat) (xs : List Value) (h : k * 4 + 4 ≤ xs.length) :
    ((((fills [a, b, c, d] k ++ xs.drop (k * 4)).set (k * 4) a).set (k * 4 + 1) b).set (k * 4 + 2) c).set (k * 4 + 3) d = fills [a, b, c, d] (k + 1) ++ xs.drop ((k + 1) * 4) := by
  have hl : (fills [a, b, c, d] k).length = k * 4 := by rw [fills_length]; rfl
  obtain ⟨y0, y1, y2, y3, ys, hy⟩ : ∃ y0 y1 y2 y3 ys, xs.drop (k * 4) = y0 :: y1 :: y2 :: y3 :: ys := by
    have hd : 4 ≤ (xs.drop (k * 4)).length := by rw [List.length_drop]; omega
    match hq : xs.drop (k * 4), hd with
    | y0 :: y1 :: y2 :: y3 :: ys, _ => exact ⟨y0, y1, y2, y3, ys, rfl⟩
  have hy2 : xs.drop ((k + 1) * 4) = ys := by
    rw [show (k + 1) * 4 = k * 4 + 4 by omega, ← List.drop_drop, hy]; rfl
  rw [hy2, fills_add, hy, ← hl]
  simp [List.set_append_right, fills]
theorem fill_set2 (a b : Value) (k : Nat) (xs : List Value) (h : k * 2 + 2 ≤ xs.length) :
    ((fills [a, b] k ++ xs.drop (k * 2)).set (k * 2) a).set (k * 2 + 1) b = fills [a, b] (k + 1) ++ xs.drop ((k + 1) * 2) := by
  have hl : (fills [a, b] k).length = k * 2 := by rw [fills_length]; rfl
  obtain ⟨y0, y1, ys, hy⟩ : ∃ y0 y1 ys, xs.drop (k * 2) = y0 :: y1 :: ys := by
    have hd : 2 ≤ (xs.drop (k * 2)).length := by rw [List.length_drop]; omega
    match hq : xs.drop (k * 2), hd with
    | y0 :: y1 :: ys, _ => exact ⟨y0, y1, ys, rfl⟩
  have hy2 : xs.drop ((k + 1) * 2) = ys := by
    rw [show (k + 1) * 2 = k * 2 + 2 by omega, ← List.drop_drop, hy]; rfl
  rw [hy2, fills_add, hy, ← hl]
  simp [List.set_append_right, fills]
end Go.Proofs.YtfpodnleimhohaaGreatDoor

/-
  WALKS: keepRecords, keepGaps.
-/
namespace Go.Proofs.YtfpodnleimhohaaGreatDoor
open Go.RowKit
set_option linter.unusedVariables false

def mkR (m : Int) : List Value := [.int .i64 m, .int .i64 m, .int .u8 0, .string ⟨#[]⟩]
theorem info_recs : (Tryz.prog.info? 90).map (fun i => (i.zero, i.size, i.bytes)) = some (some (.agg #[.slice none 0 0, .slice none 0 0, .slice none 0 0, .slice none 0 0, .int .i64 0]), 5, 104) := by kernel_rfl
theorem below_of_drewN {w w1 : World} (h : ∃ n, w1 = w.drewN n) : Below w.heap.size w w1 ∧ w1.heap.size = w.heap.size := by
  obtain ⟨n, rfl⟩ := h
  exact ⟨below_drewN (Below.refl _ _) n, rfl⟩
theorem BookAt.below {w w' : World} {g o nI nW nR nG : Nat} {aI : Option Addr} {cI : Nat} {aW : Option Addr} {cW : Nat} {aR : Option Addr} {cR : Nat} {aG : Option Addr} {cG : Nat} (h : BookAt w g o nI nW nR nG aI cI aW cW aR cR aG cG) {B : Nat}
    (hb : Below B w w') (hg : g < B) : BookAt w' g o nI nW nR nG aI cI aW cW aR cR aG cG := h.kept (hb.block g hg)

theorem block_at {W w2 : World} {row : Option Nat} (hg : W.grownBy w2 row) (b : Nat) (hlt : b < W.heap.size) (hne : some b ≠ row) : (∀ {j}, w2.cell? ⟨b, j, none⟩ = W.cell? ⟨b, j, none⟩) ∧ (∀ {j}, w2.frozen? ⟨b, j, none⟩ = W.frozen? ⟨b, j, none⟩) :=
  ⟨fun {j} => World.cell?_of_block (w := W) (a := ⟨b, j, none⟩) (hg.block b hlt hne), fun {j} => World.frozen?_of_block (w := W) (a := ⟨b, j, none⟩) (hg.block b hlt hne)⟩

def mkG (m : Int) : List Value := [.int .i64 m, .int .i64 m]
theorem info_gapE : (Tryz.prog.info? 93).map (fun i => (i.zero, i.size, i.bytes)) = some (some (.agg #[.slice none 0 0, .slice none 0 0, .slice none 0 0, .slice none 0 0, .int .i64 0]), 5, 104) := by kernel_rfl

end Go.Proofs.YtfpodnleimhohaaGreatDoor

/-
  WALKS: what was kept is looked at.
-/
namespace Go.Proofs.YtfpodnleimhohaaGreatDoor
open Go.RowKit
set_option linter.unusedVariables false

set_option maxRecDepth 4000 in
set_option maxHeartbeats 1000000 in
theorem fullRecords_any (base p : Nat) (v : Value) (m : Int) (w : World) (h : Full w base 99 (mkR m) v p) (hp : p ≤ 10000) :
    Calls Tryz.prog 28 #[v, .int .i64 m] w fun e w' => e = .returned (.bool true) ∧ w' = w := by
  obtain ⟨a, c, rfl, h1, h2, HRd⟩ := own_read h
  unfold maxLen at h2
  have HR : Hid _ := HRd
  clear HRd h
  go_enter Tryz.func28, Tryz.ntmps28
  go_wp2
  go_loop [5] (fun i => ∃ k : Nat, k ≤ p ∧ i = .int .i64 k) (fun i => p - (intOf i).toNat)
  case atStart => exact ⟨0, by omega, rfl⟩
  case round =>
    obtain ⟨k, hk, rfl⟩ := hrel
    by_cases hlt : k < p
    · obtain ⟨g, rfl, _, _, hg⟩ := HR.out (by omega)
      have q : ∀ j, j < 4 → w.cell? ⟨g, k * 4 + j, none⟩ = (mkR m)[j]? := fun j hj => (hg (k * 4 + j) (by show k * 4 + j < p * 4; omega)).trans (fills_get (mkR m) p k j hlt hj)
      have q0 := q 0 (by omega)
      have q1 := q 1 (by omega)
      have q2 := q 2 (by omega)
      have q3 := q 3 (by omega)
      simp only [mkR, List.getElem?_cons_zero, List.getElem?_cons_succ, Nat.add_zero] at q0 q1 q2 q3
      clear q hg
      go_wp2
      go_round
      case rel => exact ⟨k + 1, by omega, by go_num⟩
      case measure => simp [intOf]; omega
    · go_wp2
      go_ret
      exact ⟨rfl, rfl⟩

set_option maxRecDepth 4000 in
set_option maxHeartbeats 1000000 in
theorem fullGaps_any (base p : Nat) (v : Value) (m : Int) (w : World) (h : Full w base 103 (mkG m) v p) (hp : p ≤ 10000) :
    Calls Tryz.prog 29 #[v, .int .i64 m] w fun e w' => e = .returned (.bool true) ∧ w' = w := by
  obtain ⟨a, c, rfl, h1, h2, HRd⟩ := own_read h
  unfold maxLen at h2
  have HR : Hid _ := HRd
  clear HRd h
  go_enter Tryz.func29, Tryz.ntmps29
  go_wp2
  go_loop [5] (fun i => ∃ k : Nat, k ≤ p ∧ i = .int .i64 k) (fun i => p - (intOf i).toNat)
  case atStart => exact ⟨0, by omega, rfl⟩
  case round =>
    obtain ⟨k, hk, rfl⟩ := hrel
    by_cases hlt : k < p
    · obtain ⟨g, rfl, _, _, hg⟩ := HR.out (by omega)
      have q : ∀ j, j < 2 → w.cell? ⟨g, k * 2 + j, none⟩ = (mkG m)[j]? := fun j hj => (hg (k * 2 + j) (by show k * 2 + j < p * 2; omega)).trans (fills_get (mkG m) p k j hlt hj)
      have q0 := q 0 (by omega)
      have q1 := q 1 (by omega)
      simp only [mkG, List.getElem?_cons_zero, List.getElem?_cons_succ, Nat.add_zero] at q0 q1
      clear q hg
      go_wp2
      go_round
      case rel => exact ⟨k + 1, by omega, by go_num⟩
      case measure => simp [intOf]; omega
    · go_wp2
      go_ret
      exact ⟨rfl, rfl⟩

/-- A list that was kept: itself, the three that are longer, its mark, its length. -/
structure Ent where
  l : Value
  a : Value
  b : Value
  c : Value
  m : Int
  n : Nat
def entCells (x : Ent) : List Value := [x.l, x.a, x.b, x.c, .int .i64 x.m]
def entsCells (l : List Ent) : List Value := l.flatMap entCells
theorem entsCells_snoc (l : List Ent) (x : Ent) : entsCells (l ++ [x]) = entsCells l ++ entCells x := by simp [entsCells]
theorem ent_get {l : List Ent} {k : Nat} {x : Ent} (h : l[k]? = some x) : (entsCells l)[k * 5]? = some x.l ∧ (entsCells l)[k * 5 + 1]? = some x.a ∧ (entsCells l)[k * 5 + 2]? = some x.b ∧ (entsCells l)[k * 5 + 3]? = some x.c ∧ (entsCells l)[k * 5 + 4]? = some (.int .i64 x.m) := by
  have f := flat_get entCells 5 (fun _ => rfl) l k x h
  exact ⟨f 0 (by omega), f 1 (by omega), f 2 (by omega), f 3 (by omega), f 4 (by omega)⟩
/-- It reads as its owner wrote it. -/
structure EntIs (w : World) (base e : Nat) (mk : Int → List Value) (x : Ent) : Prop where
  l : Full w base e (mk x.m) x.l x.n
  a : Full w base e (mk x.m) x.a (x.n + 1)
  b : Full w base e (mk x.m) x.b (x.n + 2)
  c : Full w base e (mk x.m) x.c (x.n + 3)
  n : x.n ≤ 1000
theorem EntIs.later {w w' : World} {base e : Nat} {mk : Int → List Value} {x : Ent} (h : EntIs w base e mk x) (hb : Below w.heap.size w w') : EntIs w' base e mk x :=
  ⟨ownsRow_below h.l hb, ownsRow_below h.a hb, ownsRow_below h.b hb, ownsRow_below h.c hb, h.n⟩

set_option maxRecDepth 100000 in
set_option maxHeartbeats 4000000 in
theorem looks_any (g o : Nat) (aI : Option Addr) (cI : Nat) (aW : Option Addr) (cW : Nat) (aR : Option Addr) (cR : Nat) (aG : Option Addr) (cG : Nat) (base : Nat) (ER EG : List Ent) (w : World)
    (hB : BookAt w g o 0 0 ER.length EG.length aI cI aW cW aR cR aG cG) (hR : w.ownsRow base 90 5 (.slice aR ER.length cR) ER.length (entsCells ER)) (hG : w.ownsRow base 93 5 (.slice aG EG.length cG) EG.length (entsCells EG))
    (hER : ∀ x ∈ ER, EntIs w base 99 mkR x) (hEG : ∀ x ∈ EG, EntIs w base 103 mkG x) (hg : g < w.heap.size) (h1 : ER.length ≤ 100000000) (h2 : EG.length ≤ 100000000) :
    Calls Tryz.prog 11 #[.pointer (some ⟨g, o, none⟩)] w fun e w' => e = .returned (.bool true) ∧ Below w.heap.size w w' := by
  have HB : Hid _ := hB
  have HER : Hid _ := hER
  have HEG : Hid _ := hEG
  obtain ⟨_, _, hv1, hR1, hR2, HRr⟩ := own_read hR
  simp at hv1
  obtain ⟨rfl, rfl⟩ := hv1
  obtain ⟨_, _, hv2, hG1, hG2, HGg⟩ := own_read hG
  simp at hv2
  obtain ⟨rfl, rfl⟩ := hv2
  have HR : Hid _ := HRr
  have HG : Hid _ := HGg
  unfold maxLen at hR2 hG2
  have c0 := hB.c0
  have c1 := hB.c1
  clear hER hEG HRr HGg hR hG hB
  go_enter Tryz.func11, Tryz.ntmps11
  go_wp2
  refine wp_loop_rounds 1 ?_
  rw [rounds_succ]
  go_wp2
  refine wp_loop_rounds 1 ?_
  rw [rounds_succ]
  go_wp2
  go_loopw [7] (fun i wr => ∃ k : Nat, k ≤ ER.length ∧ i = .int .i64 k ∧ Below w.heap.size w wr) (fun i _ => ER.length - (intOf i).toNat)
  case atStart => exact ⟨0, by omega, rfl, Below.refl _ _⟩
  case round =>
    obtain ⟨k, hk, rfl, hbr⟩ := hrel
    have d2 := (hbr.cell (p := ⟨g, o + 2, none⟩) hg).trans HB.out.c2
    have d3 := (hbr.cell (p := ⟨g, o + 3, none⟩) hg).trans HB.out.c3
    by_cases hlt : k < ER.length
    · obtain ⟨gr, rfl, _, hgl, hgc⟩ := HR.out (by omega)
      obtain ⟨q0, q1, q2, q3, q4⟩ := ent_get (List.getElem?_eq_getElem hlt)
      have hE := HER.out _ (List.getElem_mem hlt)
      have e0 := ((hbr.cell (p := ⟨gr, k * 5, none⟩) hgl).trans (hgc _ (by omega))).trans q0
      have e1 := ((hbr.cell (p := ⟨gr, k * 5 + 1, none⟩) hgl).trans (hgc _ (by omega))).trans q1
      have e2 := ((hbr.cell (p := ⟨gr, k * 5 + 2, none⟩) hgl).trans (hgc _ (by omega))).trans q2
      have e3 := ((hbr.cell (p := ⟨gr, k * 5 + 3, none⟩) hgl).trans (hgc _ (by omega))).trans q3
      have e4 := ((hbr.cell (p := ⟨gr, k * 5 + 4, none⟩) hgl).trans (hgc _ (by omega))).trans q4
      clear q0 q1 q2 q3 q4 hgc
      generalize (ER[k]'hlt) = x at *
      have HE2 : Hid (EntIs wr base 99 mkR x) := EntIs.later hE hbr
      obtain ⟨l, a, b, c, m, n⟩ := x
      obtain ⟨al, cl, hl, _, _, _⟩ := own_read hE.l
      obtain ⟨aa, ca, ha, _, _, _⟩ := own_read hE.a
      obtain ⟨ab, cb, hb, _, _, _⟩ := own_read hE.b
      obtain ⟨ac, cc, hc, _, _, _⟩ := own_read hE.c
      simp only at hl ha hb hc e0 e1 e2 e3 e4
      subst hl ha hb hc
      have hnb : n ≤ 1000 := hE.n
      clear hE
      have hki : (k : Int) < (ER.length : Int) := by omega
      go_wp2_with fail
      refine (fullRecords_any base n _ m _ (World.ownsRow.alloc HE2.out.l _) (by omega)).mono ?_
      rintro e w' ⟨rfl, hw⟩
      subst hw
      go_wp2_with fail
      refine (fullRecords_any base (n + 1) _ m _ (World.ownsRow.alloc HE2.out.a _) (by omega)).mono ?_
      rintro e w' ⟨rfl, hw⟩
      subst hw
      go_wp2_with fail
      refine (fullRecords_any base (n + 2) _ m _ (World.ownsRow.alloc HE2.out.b _) (by omega)).mono ?_
      rintro e w' ⟨rfl, hw⟩
      subst hw
      go_wp2_with fail
      refine (fullRecords_any base (n + 3) _ m _ (World.ownsRow.alloc HE2.out.c _) (by omega)).mono ?_
      rintro e w' ⟨rfl, hw⟩
      subst hw
      go_wp2
      go_roundw
      case rel => exact ⟨k + 1, by omega, by go_num, hbr.alloc hbr.size _⟩
      case measure => simp [intOf]; omega
    · go_wp2
      go_loopw [9] (fun i wr => ∃ k : Nat, k ≤ EG.length ∧ i = .int .i64 k ∧ Below w.heap.size w wr) (fun i _ => EG.length - (intOf i).toNat)
      case atStart => exact ⟨0, by omega, rfl, hbr⟩
      case round =>
        obtain ⟨k, hk, rfl, hbr⟩ := hrel
        have d2 := (hbr.cell (p := ⟨g, o + 2, none⟩) hg).trans HB.out.c2
        have d3 := (hbr.cell (p := ⟨g, o + 3, none⟩) hg).trans HB.out.c3
        by_cases hlt : k < EG.length
        · obtain ⟨gr, rfl, _, hgl, hgc⟩ := HG.out (by omega)
          obtain ⟨q0, q1, q2, q3, q4⟩ := ent_get (List.getElem?_eq_getElem hlt)
          have hE := HEG.out _ (List.getElem_mem hlt)
          have e0 := ((hbr.cell (p := ⟨gr, k * 5, none⟩) hgl).trans (hgc _ (by omega))).trans q0
          have e1 := ((hbr.cell (p := ⟨gr, k * 5 + 1, none⟩) hgl).trans (hgc _ (by omega))).trans q1
          have e2 := ((hbr.cell (p := ⟨gr, k * 5 + 2, none⟩) hgl).trans (hgc _ (by omega))).trans q2
          have e3 := ((hbr.cell (p := ⟨gr, k * 5 + 3, none⟩) hgl).trans (hgc _ (by omega))).trans q3
          have e4 := ((hbr.cell (p := ⟨gr, k * 5 + 4, none⟩) hgl).trans (hgc _ (by omega))).trans q4
          clear q0 q1 q2 q3 q4 hgc
          generalize (EG[k]'hlt) = x at *
          have HE2 : Hid (EntIs wr base 103 mkG x) := EntIs.later hE hbr
          obtain ⟨l, a, b, c, m, n⟩ := x
          obtain ⟨al, cl, hl, _, _, _⟩ := own_read hE.l
          obtain ⟨aa, ca, ha, _, _, _⟩ := own_read hE.a
          obtain ⟨ab, cb, hb, _, _, _⟩ := own_read hE.b
          obtain ⟨ac, cc, hc, _, _, _⟩ := own_read hE.c
          simp only at hl ha hb hc e0 e1 e2 e3 e4
          subst hl ha hb hc
          have hnb : n ≤ 1000 := hE.n
          clear hE
          have hki : (k : Int) < (EG.length : Int) := by omega
          go_wp2_with fail
          refine (fullGaps_any base n _ m _ (World.ownsRow.alloc HE2.out.l _) (by omega)).mono ?_
          rintro e w' ⟨rfl, hw⟩
          subst hw
          go_wp2_with fail
          refine (fullGaps_any base (n + 1) _ m _ (World.ownsRow.alloc HE2.out.a _) (by omega)).mono ?_
          rintro e w' ⟨rfl, hw⟩
          subst hw
          go_wp2_with fail
          refine (fullGaps_any base (n + 2) _ m _ (World.ownsRow.alloc HE2.out.b _) (by omega)).mono ?_
          rintro e w' ⟨rfl, hw⟩
          subst hw
          go_wp2_with fail
          refine (fullGaps_any base (n + 3) _ m _ (World.ownsRow.alloc HE2.out.c _) (by omega)).mono ?_
          rintro e w' ⟨rfl, hw⟩
          subst hw
          go_wp2
          go_roundw
          case rel => exact ⟨k + 1, by omega, by go_num, hbr.alloc hbr.size _⟩
          case measure => simp [intOf]; omega
        · go_wp2
          go_ret
          exact ⟨rfl, hbr⟩

end Go.Proofs.YtfpodnleimhohaaGreatDoor
