/-
  WALKS: a list that is written full with a mark, and made longer by marks: the law of append for it; the number of the next list.
-/
import Derived.Test.YtfpodnleimhohaaWalks9
namespace Go.Proofs.Ytfpodnleimhohaa
open Go.RowKit
set_option linter.unusedVariables false

/-- So many marks, one behind the other. -/
def fills (mk : List Value) : Nat → List Value
  | 0 => []
  | n + 1 => mk ++ fills mk n
theorem fills_length (mk : List Value) (n : Nat) : (fills mk n).length = n * mk.length := by
  induction n with
  | zero => simp [fills]
  | succ n ih => simp [fills, ih, Nat.succ_mul]; omega
theorem fills_add (mk : List Value) (n m : Nat) : fills mk (n + m) = fills mk n ++ fills mk m := by
  induction n with
  | zero => simp [fills]
  | succ n ih => rw [show n + 1 + m = (n + m) + 1 by omega]; simp [fills, ih]
theorem fills_take (mk : List Value) (p q : Nat) (h : p ≤ q) : (fills mk q).take (p * mk.length) = fills mk p := by
  obtain ⟨r, rfl⟩ := Nat.le.dest h
  rw [fills_add, ← fills_length mk p, List.take_left]
theorem fills_one {mk : List Value} (h : ∀ u ∈ mk, u.oneCell' = true) (n : Nat) : ∀ u ∈ fills mk n, u.oneCell' = true := by
  induction n with
  | zero => simp [fills]
  | succ n ih =>
    intro u hu
    rcases List.mem_append.1 hu with hu | hu
    · exact h u hu
    · exact ih u hu
theorem fills_get (mk : List Value) (n k j : Nat) (hk : k < n) (hj : j < mk.length) : (fills mk n)[k * mk.length + j]? = mk[j]? := by
  obtain ⟨r, rfl⟩ := Nat.le.dest hk
  rw [show k.succ + r = k + (1 + r) by omega, fills_add, List.getElem?_append_right (by rw [fills_length]; omega), fills_length, show k * mk.length + j - k * mk.length = j by omega, show 1 + r = r + 1 by omega]
  simp only [fills]
  rw [List.getElem?_append_left hj]

/-- A slice that is full of marks. -/
def Full (w : World) (base e : Nat) (mk : List Value) (v : Value) (p : Nat) : Prop := w.ownsRow base e mk.length v p (fills mk p)
/-- The block of a row is what the row says. -/
theorem own_block {w : World} {base e size g n cap : Nat} {xs : List Value} (h : w.ownsRow base e size (.slice (some ⟨g, 0, none⟩) n cap) n xs) :
    ∃ cur, base ≤ g ∧ w.heap[g]? = some (.cells cur e (0, 0)) ∧ n ≤ cap ∧ cap ≤ maxLen ∧ cur.size = cap * size ∧ cur.toList.take (n * size) = xs := by
  rcases h.2 with ⟨h', _⟩ | ⟨g', cap', cur, h', hb, hg, hnc, hcm, hcs, htake⟩
  · simp at h'
  · simp only [Value.slice.injEq, Option.some.injEq, Addr.mk.injEq, and_true, true_and] at h'
    obtain ⟨rfl, rfl⟩ := h'
    exact ⟨cur, hb, hg, hnc, hcm, hcs, htake⟩

section
variable {P : Program} (w : World)
theorem run_append_mark (base : Nat) (t ty e : TypeId) (i : TypeInfo) (z : Value) (mk : List Value) (bytes : Nat) (ht : P.underlying t = some (.slice e)) (hi : P.info? e = some i) (hz : i.zero = some z)
    (hsize : i.size = mk.length) (hby : i.bytes = bytes) (hzs : z.cells.size = mk.length) (hsz : 0 < mk.length) (hmk : ∀ u ∈ mk, u.oneCell' = true)
    (v : Value) (n : Nat) (hown : Full w base e mk v n)
    (a : Addr) (m c : Nat) (hnews : ∀ j u, (fills mk m)[j]? = some u → w.cell? (a.add j) = some u)
    (h63 : n + m ≤ maxLen) (hbytes : (n + m) * bytes ≤ 140737488355328) (hbase : base ≤ w.heap.size) :
    ∃ v' w', (Builtin.append_ #[t, t] ty #[v, .slice (some a) m c]).run P w = .ok v' w' ∧ Full w' base e mk v' (n + m) ∧ w.grownBy w' v.ownBlock ∧
      (∀ o p, p ≤ n + m → Full w base e mk o p → Full w' base e mk o p) := by
  have e1 : fills mk n ++ fills mk m = fills mk (n + m) := (fills_add mk n m).symm
  have hl : (fills mk m).length = m * mk.length := fills_length mk m
  have still : ∀ w', w.grownBy w' none → ∀ o p, Full w base e mk o p → Full w' base e mk o p := fun w' hg o p h =>
    World.ownsRow.kept h hg (by cases hv : Value.ownBlock o <;> simp)
  rcases hown.2 with ⟨rfl, rfl⟩ | ⟨g, cap, cur, rfl, hb, hh, hnc, hcm, hcs, ht'⟩
  · obtain ⟨v', w', hr, h2, h3, _⟩ := run_append_own (P := P) w base t ty e i z mk.length bytes ht hi hz hsize hby hzs hsz (.slice none 0 0) 0 (fills mk 0) hown a m c (fills mk m) hl hnews (fills_one hmk m) h63 hbytes hbase
    rw [e1] at h2
    exact ⟨v', w', hr, h2, h3, fun o p _ h => still w' h3 o p h⟩
  · by_cases hroom : n + m ≤ cap
    · obtain ⟨w', hr, h2, h3⟩ := run_append_fits (P := P) w base t ty e i mk.length ht hi hsize g n cap (fills mk n) hown a m c (fills mk m) hl hnews (fills_one hmk m) hroom
      rw [e1] at h2
      refine ⟨_, w', hr, h2, h3, fun o p hp ho => ?_⟩
      obtain ⟨cur', _, hh', _, _, hcs', htk⟩ := own_block h2
      refine ⟨ho.1, ?_⟩
      rcases ho.2 with hn | ⟨go, co, cu, rfl, hbo, hho, hpo, hco, hso, hto⟩
      · exact .inl hn
      · by_cases hg : go = g
        · subst hg
          rw [hh] at hho
          simp at hho
          subst hho
          refine .inr ⟨go, co, cur', rfl, hbo, hh', hpo, hco, ?_, ?_⟩
          · rw [hcs', ← hcs, hso]
          · have := fills_take mk p (n + m) hp
            rw [← htk, List.take_take] at this
            rw [← this]
            congr 1
            have : p * mk.length ≤ (n + m) * mk.length := Nat.mul_le_mul_right _ hp
            omega
        · refine .inr ⟨go, co, cu, rfl, hbo, ?_, hpo, hco, hso, hto⟩
          rw [h3.block go (lt_of_block hho) (by simp; exact hg)]
          exact hho
    · obtain ⟨v', w', hr, h2, h3⟩ := run_append_arg_grows (P := P) w t ty e i z mk.length bytes ht hi hz hsize hby hzs hsz ⟨g, 0, none⟩ n cap (fills mk n) (fills_length mk n) (fun j u hj => World.ownsRow.cells hown rfl j u hj) a m c (fills mk m) hl hnews (by omega) h63 hbytes
      rw [e1] at h2
      refine ⟨v', w', hr, ?_, ?_, fun o p _ h => still w' h3 o p h⟩
      · refine ⟨h2.1, ?_⟩
        rcases h2.2 with hn | ⟨g2, c2, u2, e2, hb2, r2⟩
        · exact .inl hn
        · exact .inr ⟨g2, c2, u2, e2, Nat.le_trans hbase hb2, r2⟩
      · exact ⟨h3.os, h3.tape, h3.output, h3.size, fun k hk _ => h3.block k hk (by simp)⟩

theorem wpList_append_mark {ops : Array Oper} {rest : List Oper} {o : Oper} {a : Act} {Q : Exit → Act → World → Prop} (hgd : o.guard = none) (s x : Operand) (t : TypeId)
    (ho : o.op = .call { callee := .builtin .append, args := #[s, x], argTypes := #[t, t] })
    (base : Nat) (e : TypeId) (i : TypeInfo) (z : Value) (mk : List Value) (bytes : Nat) (ht : P.underlying t = some (.slice e)) (hi : P.info? e = some i) (hz : i.zero = some z)
    (hsize : i.size = mk.length) (hby : i.bytes = bytes) (hzs : z.cells.size = mk.length) (hsz : 0 < mk.length) (hmk : ∀ u ∈ mk, u.oneCell' = true)
    (v : Value) (n : Nat) (hs : a.eval s = v) (hown : Full w base e mk v n)
    (ad : Addr) (m c : Nat) (hx : a.eval x = .slice (some ad) m c) (hnews : ∀ j u, (fills mk m)[j]? = some u → w.cell? (ad.add j) = some u)
    (h63 : n + m ≤ maxLen) (hbytes : (n + m) * bytes ≤ 140737488355328) (hbase : base ≤ w.heap.size)
    (h : ∀ v' w', Full w' base e mk v' (n + m) → w.grownBy w' v.ownBlock → (∀ o p, p ≤ n + m → Full w base e mk o p → Full w' base e mk o p) → wpList P ops Q rest (a.put o.dst v') w') : wpList P ops Q (o :: rest) a w :=
  wpList_plain hgd fun _ hK => by
    obtain ⟨v', w', hr, h2, h3, h4⟩ := run_append_mark (P := P) w base t o.type e i z mk bytes ht hi hz hsize hby hzs hsz hmk v n hown ad m c hnews h63 hbytes hbase
    unfold Oper.wp execOp
    simp only [ho, resolve, invoke, builtin, Sem.run_bind, Sem.run_pure, Result.andThen_ok, List.map_toArray, List.map_cons, List.map_nil, hs, hx, hr]
    exact hK _ _ (h v' w' h2 h3 h4)
end

/-- A Book at an address: its four lists. -/
structure BookAt (w : World) (g o : Nat) (nI nW nR nG : Nat) (aI : Option Addr) (cI : Nat) (aW : Option Addr) (cW : Nat) (aR : Option Addr) (cR : Nat) (aG : Option Addr) (cG : Nat) : Prop where
  c0 : w.cell? ⟨g, o, none⟩ = some (.slice aI nI cI)
  c1 : w.cell? ⟨g, o + 1, none⟩ = some (.slice aW nW cW)
  c2 : w.cell? ⟨g, o + 2, none⟩ = some (.slice aR nR cR)
  c3 : w.cell? ⟨g, o + 3, none⟩ = some (.slice aG nG cG)
  f0 : w.frozen? ⟨g, o, none⟩ = false
  f1 : w.frozen? ⟨g, o + 1, none⟩ = false
  f2 : w.frozen? ⟨g, o + 2, none⟩ = false
  f3 : w.frozen? ⟨g, o + 3, none⟩ = false
theorem BookAt.kept {w w' : World} {g o nI nW nR nG : Nat} {aI : Option Addr} {cI : Nat} {aW : Option Addr} {cW : Nat} {aR : Option Addr} {cR : Nat} {aG : Option Addr} {cG : Nat} (h : BookAt w g o nI nW nR nG aI cI aW cW aR cR aG cG)
    (hb : w'.heap[g]? = w.heap[g]?) : BookAt w' g o nI nW nR nG aI cI aW cW aR cR aG cG :=
  ⟨(World.cell?_of_block (w := w) (a := ⟨g, o, none⟩) hb).trans h.c0, (World.cell?_of_block (w := w) (a := ⟨g, o + 1, none⟩) hb).trans h.c1, (World.cell?_of_block (w := w) (a := ⟨g, o + 2, none⟩) hb).trans h.c2, (World.cell?_of_block (w := w) (a := ⟨g, o + 3, none⟩) hb).trans h.c3,
   (World.frozen?_of_block (w := w) (a := ⟨g, o, none⟩) hb).trans h.f0, (World.frozen?_of_block (w := w) (a := ⟨g, o + 1, none⟩) hb).trans h.f1, (World.frozen?_of_block (w := w) (a := ⟨g, o + 2, none⟩) hb).trans h.f2, (World.frozen?_of_block (w := w) (a := ⟨g, o + 3, none⟩) hb).trans h.f3⟩

set_option maxHeartbeats 400000 in
theorem number_any (g o nI nW nR nG : Nat) (aI : Option Addr) (cI : Nat) (aW : Option Addr) (cW : Nat) (aR : Option Addr) (cR : Nat) (aG : Option Addr) (cG : Nat) (w : World) (hB : BookAt w g o nI nW nR nG aI cI aW cW aR cR aG cG)
    (h : nI ≤ 100000000 ∧ nW ≤ 100000000 ∧ nR ≤ 100000000 ∧ nG ≤ 100000000) :
    Calls Try.prog 62 #[.pointer (some ⟨g, o, none⟩)] w fun e w' => e = .returned (.int .i64 (-1000 - (nI : Int) - nW - nR - nG)) ∧ ∃ n, w' = w.drewN n := by
  obtain ⟨c0, c1, c2, c3, _, _, _, _⟩ := hB
  obtain ⟨h1, h2, h3, h4⟩ := h
  go_enter Try.func62, Try.ntmps62
  go_wp2
  go_quiet (fail)
  go_wp2
  go_ret
  exact ⟨rfl, _, rfl⟩
end Go.Proofs.Ytfpodnleimhohaa
