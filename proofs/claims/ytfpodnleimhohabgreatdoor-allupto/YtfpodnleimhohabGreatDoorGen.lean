/-
  WHAT BOTH SIDES USE: tables, rows, runs, settings, as far as no function of either side is named.
-/
import Derived.Test.YtfpodnleimhohabGreatDoorMathL
import Derived.Test.YtfpodnleimhohabGreatDoorOwn
import Derived.Test.YtfpodnleimhohabGreatDoorArr
import Derived.Test.YtfpodnleimhohabGreatDoorRecs
import Derived.Test.YtfpodnleimhohabGreatDoorSpare
import Derived.Deep.LoopGhost
import Derived.BigRegion
namespace Go.Proofs.YtfpodnleimhohabGreatDoor
open Go.RowKit
set_option linter.unusedVariables false

theorem ret_intU {k : IntKind} {a b : Int} (h : a = b) : Ending.returned (.int k a) = .returned (.int k b) := by rw [h]
theorem info_int : (Tryz.prog.info? 3).map (fun i => (i.zero, i.size, i.bytes)) = some (some (.int .i64 0), 1, 8) := by kernel_rfl

theorem tdiv_two (y : Int) : y.tdiv 2 = if 0 ≤ y ∨ y % 2 = 0 then y / 2 else y / 2 + 1 := by
  rw [Int.tdiv_eq_ediv]
  by_cases h : 0 ≤ y ∨ y % 2 = 0
  · rw [if_pos h, if_pos (h.imp id Int.dvd_of_emod_eq_zero)]; omega
  · rw [if_neg h, if_neg (fun e => h (e.imp id Int.emod_eq_zero_of_dvd))]; rfl
theorem tdiv_low (y : Int) (h : y < 0 ∧ y.tdiv 2 * 2 ≠ y) : y.tdiv 2 - 1 = y / 2 := by
  have e := tdiv_two y
  rw [e] at h ⊢
  split at h <;> split <;> omega
theorem tdiv_same (y : Int) (h : ¬ (y < 0 ∧ y.tdiv 2 * 2 ≠ y)) : y.tdiv 2 = y / 2 := by
  have e := tdiv_two y
  rw [e] at h ⊢
  split at h <;> split <;> omega
theorem four_eq (r : Nat) : ([r / 16777216 % 256, r / 65536 % 256, r / 256 % 256, r % 256].map fun x : Nat => Value.int .i64 (x : Int)) = (fourN r).map fun x : Nat => Value.int .i64 (x : Int) := rfl
theorem hash_eq (H x : Nat) (hH : H < 4294967296) (hx : x < 256) : bits BinOp.xor IntKind.u32 (H : Int) (x : Int) * 16777619 % 4294967296 = ((hashF H x : Nat) : Int) := by
  rw [u32_xor_nat _ _ hH (by omega)]
  unfold hashF
  generalize H ^^^ x = y
  omega
/-- What the package variable holds. -/
def LowAt (w : World) : Prop := ∀ i, i < 5 → w.cell? ⟨0, i, none⟩ = some (.int .i64 (lowOf i : Nat))

theorem LowAt.pos {w : World} (h : LowAt w) : 0 < w.heap.size := World.block_lt_of_cell? w _ (h 0 (by decide))
theorem LowAt.later {w w' : World} (h : LowAt w) (hb : Below w.heap.size w w') : LowAt w' := fun i hi => (hb.cell (p := ⟨0, i, none⟩) h.pos).trans (h i hi)

/-- How a first byte is told. -/
theorem head_cases (b : Nat) (h : 128 ≤ b) : (headOf b = (2, b - 192) ∧ 192 ≤ b ∧ b < 224) ∨ (headOf b = (3, b - 224) ∧ 224 ≤ b ∧ b < 240) ∨ (headOf b = (4, b - 240) ∧ 240 ≤ b ∧ b < 248) ∨ (headOf b = (0, 0) ∧ (b < 192 ∨ 248 ≤ b)) := by
  unfold headOf
  split
  · left; exact ⟨rfl, by omega, by omega⟩
  · split
    · right; left; exact ⟨rfl, by omega, by omega⟩
    · split
      · right; right; left; exact ⟨rfl, by omega, by omega⟩
      · right; right; right; exact ⟨rfl, by omega⟩

theorem contF_bad {g : Nat} {d : UInt8} {t : List UInt8} {r : Nat} {l : List UInt8} {res : Option Nat} (h : contF (g + 1) l r = res) (hl : l = d :: t) (hd : d.toNat < 128 ∨ 192 ≤ d.toNat) : res = none := by
  rw [← h, hl]; simp only [contF]; rw [if_pos hd]
theorem contF_ok {g : Nat} {d : UInt8} {t : List UInt8} {r : Nat} {l : List UInt8} {res : Option Nat} (h : contF (g + 1) l r = res) (hl : l = d :: t) (hd : ¬ (d.toNat < 128 ∨ 192 ≤ d.toNat)) : contF g t (64 * r + d.toNat - 128) = res := by
  rw [← h, hl]; simp only [contF]; rw [if_neg hd]
/-- What comes out behind the bytes. -/
def firstE (n : Nat) : Option Nat → Nat × Nat
  | none => (65533, 1)
  | some r => if r < lowOf n ∨ 1114111 < r ∨ (55296 ≤ r ∧ r ≤ 57343) then (65533, 1) else (r, n)
theorem firstR_of {s : ByteArray} {c : UInt8} {n r0 : Nat} {res : Option Nat} (hD : ls s = c :: (ls s).drop 1) (h128 : ¬ c.toNat < 128) (h : headOf c.toNat = (n, r0)) (hn : 2 ≤ n) (hlen : ¬ s.size < n) (hres : contF (n - 1) ((ls s).drop 1) r0 = res) : firstR (ls s) = firstE n res := by
  have hz : ((ls s).drop 1).length + 1 = s.size := by
    have := congrArg List.length hD
    rw [List.length_cons, ls_length] at this; omega
  rw [hD]
  simp only [firstR]
  rw [if_neg h128, h, if_neg (by simp only; omega)]
  simp only
  rw [hres]
  cases res <;> rfl
theorem firstR_short {s : ByteArray} {c : UInt8} {n r0 : Nat} (hD : ls s = c :: (ls s).drop 1) (h128 : ¬ c.toNat < 128) (h : headOf c.toNat = (n, r0)) (hlen : s.size < n) : firstR (ls s) = (65533, 1) := by
  have hz : ((ls s).drop 1).length + 1 = s.size := by
    have := congrArg List.length hD
    rw [List.length_cons, ls_length] at this; omega
  rw [hD]
  simp only [firstR]
  rw [if_neg h128, h, if_pos (.inr (by simp only; omega))]

theorem drop_getElemV (R : ByteArray) (k : Nat) (h : k < R.size) : (ls R).drop k = R[k] :: (ls R).drop (k + 1) := by
  rw [List.drop_eq_getElem_cons (by rw [ls_length]; exact h)]; rfl

/-- The cells of a list of numbers. -/
def intCells (l : List Nat) : List Value := l.map fun x : Nat => .int .i64 (x : Int)
theorem intCells_snoc (l : List Nat) (x : Nat) : intCells (l ++ [x]) = intCells l ++ [.int .i64 (x : Int)] := by simp [intCells]
theorem intCells_get {l : List Nat} {i x : Nat} (h : l[i]? = some x) : (intCells l)[i]? = some (.int .i64 (x : Int)) := by simp [intCells, h]

theorem fourN_lt (r : Nat) : ∀ x ∈ fourN r, x < 256 := by
  intro x hx
  simp only [fourN, List.mem_cons, List.not_mem_nil, or_false] at hx
  rcases hx with h | h | h | h <;> omega
/-- One more of a bucket. -/
theorem upd_raw (X : List Nat) (k : Nat) (f : Nat → Int) (q : Nat) (hf : f = fun b => ((rawN X k b : Nat) : Int)) :
    upd f q ((rawN X k q : Nat) + 1) = fun b => ((rawN X k b + (if q = b then 1 else 0) : Nat) : Int) := by
  subst hf
  funext b
  simp only [upd]
  by_cases h : b = q
  · subst h; simp
  · rw [if_neg h, if_neg (fun e => h e.symm)]; simp

/-- The counts behind the k-th rune. -/
theorem raw_next0 (X : List Nat) (q x : Nat) (hx : X.getD 0 0 = x) (hq : bucketN (fourN x) = q) (f : Nat → Int) (hf : f = fun b => ((rawN X 0 b + (if q = b then 1 else 0) : Nat) : Int)) : f = fun b => ((rawN X 1 b : Nat) : Int) := by
  rw [hf]
  funext b
  rw [rawN_succ, hx, hq]; simp
theorem raw_next (X : List Nat) (k q q2 x y : Nat) (hk : 0 < k) (hx : X.getD k 0 = x) (hy : X.getD (k - 1) 0 = y) (hq : bucketN (fourN x) = q) (hq2 : bucketN (fourN y ++ fourN x) = q2) (f : Nat → Int)
    (hf : f = fun b => ((rawN X k b + (if q = b then 1 else 0) : Nat) : Int)) : upd f q2 (f q2 + 1) = fun b => ((rawN X (k + 1) b : Nat) : Int) := by
  rw [hf]
  funext b
  rw [rawN_succ, hx, hy, hq, hq2]
  have e : (0 < k ∧ q2 = b) ↔ b = q2 := ⟨fun e => e.2.symm, fun e => ⟨hk, e.symm⟩⟩
  simp only [upd, e]
  by_cases h : b = q2
  · subst h; simp only [if_true]; omega
  · simp only [h, if_false, Nat.add_zero]

/-- The counts, the first k of them cut. -/
def cutTo (N : Nat → Nat) (k b : Nat) : Int := if b < k then ((min 7 (N b) : Nat) : Int) else (N b : Int)
theorem cut_yes (N : Nat → Nat) (k : Nat) (h : 7 < N k) : upd (cutTo N k) k 7 = cutTo N (k + 1) := by
  funext b
  simp only [upd, cutTo]
  by_cases e : b = k
  · subst e; rw [if_pos rfl, if_pos (by omega)]; omega
  · rw [if_neg e]
    by_cases l : b < k
    · rw [if_pos l, if_pos (by omega)]
    · rw [if_neg l, if_neg (by omega)]
theorem cut_no (N : Nat → Nat) (k : Nat) (h : ¬ 7 < N k) : cutTo N k = cutTo N (k + 1) := by
  funext b
  simp only [cutTo]
  by_cases e : b = k
  · subst e; rw [if_neg (by omega), if_pos (by omega)]; omega
  · by_cases l : b < k
    · rw [if_pos l, if_pos (by omega)]
    · rw [if_neg l, if_neg (by omega)]

/-- How memory stands while counts are made. -/
structure CntAt (w wr : World) (v : Value) (X : List Nat) (f : Nat → Int) : Prop where
  a : CellsAt wr w.heap.size 62 (tab 32 fun _ => 0)
  b : CellsAt wr (w.heap.size + 1) 62 (tab 32 f)
  o : wr.ownsRow (w.heap.size + 2) 3 1 v X.length (intCells X)
  l : Below w.heap.size w wr
theorem CntAt.later {w wr wr' : World} {v : Value} {X : List Nat} {f : Nat → Int} (h : CntAt w wr v X f) (hb : Below wr.heap.size wr wr') : CntAt w wr' v X f :=
  ⟨h.a.later hb, h.b.later hb, ownsRow_below h.o hb, h.l.trans (hb.mono h.l.size)⟩
theorem CntAt.set {w wr : World} {v : Value} {X : List Nat} {f : Nat → Int} (h : CntAt w wr v X f) (q : Nat) (z : Int) : CntAt w (wr.setCell ⟨w.heap.size + 1, q, none⟩ (.int .i64 z)) v X (upd f q z) :=
  ⟨h.a.other (by omega) _ _, by rw [← tab_set]; exact h.b.set q _, ownsRow_setCell_below h.o (by show w.heap.size + 1 < w.heap.size + 2; omega) _, h.l.setCell (by show w.heap.size ≤ w.heap.size + 1; omega) _⟩
theorem CntAt.raw {w wr : World} {v : Value} {X : List Nat} {f g : Nat → Int} (h : CntAt w wr v X f) (e : f = g) : CntAt w wr v X g := e ▸ h
theorem CntAt.read {w wr : World} {a : Option Addr} {cap : Nat} {X : List Nat} {f : Nat → Int} (h : CntAt w wr (.slice a X.length cap) X f) {k : Nat} (hk : k < X.length) : ∃ g, a = some ⟨g, 0, none⟩ ∧ wr.cell? ⟨g, k, none⟩ = some (.int .i64 ((X[k] : Nat) : Int)) := by
  obtain ⟨a', c', hv, _, _, hrd⟩ := own_read h.o
  obtain ⟨rfl, rfl⟩ : a = a' ∧ cap = c' := by simpa using hv
  obtain ⟨g, rfl, _, _, hgc⟩ := hrd (by omega)
  exact ⟨g, rfl, (hgc k (by omega)).trans (intCells_get (List.getElem?_eq_getElem hk))⟩

theorem bestF_next_yes {s : Nat → Int} {but : Int} {k : Nat} {o : Int} (h : bestF s but k = o) (h1 : (k : Int) ≠ but) (h2 : o < 0 ∨ s o.toNat < s k) : bestF s but (k + 1) = (k : Int) := by
  simp only [bestF]; rw [h, if_pos ⟨h1, h2⟩]
theorem bestF_next_no {s : Nat → Int} {but : Int} {k : Nat} {o : Int} (h : bestF s but k = o) (h1 : ¬ ((k : Int) ≠ but ∧ (o < 0 ∨ s o.toNat < s k))) : bestF s but (k + 1) = o := by
  simp only [bestF]; rw [h, if_neg h1]

def flat (t : Tab) : Nat → Int := fun i => t (i / 32) (i % 32)
theorem flat_at (t : Tab) {c b : Nat} (hb : b < 32) : flat t (c * 32 + b) = t c b := by
  unfold flat
  rw [show (c * 32 + b) / 32 = c by omega, show (c * 32 + b) % 32 = b by omega]
/-- The cells of a run of the document's. -/
def headCells (cf : Cf) (shard : ByteArray) (lv : Value) (steps : Nat) : List Value :=
  [.int .u64 cf.seed, .int .u8 cf.batch, .int .i32 cf.rate, .int .i32 cf.mom, .int .u8 cf.decay, .string shard, lv, .int .i64 steps]
def runCells (cf : Cf) (shard : ByteArray) (lv : Value) (st : St) : List Value := headCells cf shard lv st.steps ++ (tab 128 (flat st.w) ++ tab 128 (flat st.v))
theorem runCells_head (cf : Cf) (shard : ByteArray) (lv : Value) (st : St) {i : Nat} (h : i < 8) : (runCells cf shard lv st)[i]? = (headCells cf shard lv st.steps)[i]? := by
  unfold runCells; rw [List.getElem?_append_left (by simpa [headCells] using h)]
theorem runCells_w (cf : Cf) (shard : ByteArray) (lv : Value) (st : St) {c b : Nat} (hc : c < 4) (hb : b < 32) : (runCells cf shard lv st)[8 + c * 32 + b]? = some (.int .i64 (st.w c b)) := by
  unfold runCells
  rw [List.getElem?_append_right (by simp [headCells]; omega), List.getElem?_append_left (by rw [tab_length]; simp [headCells]; omega)]
  rw [show 8 + c * 32 + b - (headCells cf shard lv st.steps).length = c * 32 + b by simp [headCells]; omega, tab_get _ (by omega), flat_at _ hb]
theorem runCells_v (cf : Cf) (shard : ByteArray) (lv : Value) (st : St) {c b : Nat} (hc : c < 4) (hb : b < 32) : (runCells cf shard lv st)[136 + c * 32 + b]? = some (.int .i64 (st.v c b)) := by
  unfold runCells
  rw [List.getElem?_append_right (by simp [headCells]; omega), List.getElem?_append_right (by rw [tab_length]; simp [headCells]; omega), tab_length]
  rw [show 136 + c * 32 + b - (headCells cf shard lv st.steps).length - 128 = c * 32 + b by simp [headCells]; omega, tab_get _ (by omega), flat_at _ hb]
/-- Scores, as far as they are made. -/
def scTo (n : Nat → Nat) (t : Tab) (c b c' : Nat) : Int := if c' < c then scoreN n t c' else if c' = c then sumTo (fun b => (n b : Int) * t c b) b else 0
theorem scTo_next (n : Nat → Nat) (t : Tab) (c b : Nat) : upd (scTo n t c b) c (scTo n t c b c + (n b : Int) * t c b) = scTo n t c (b + 1) := by
  funext c'
  simp only [upd, scTo]
  by_cases h : c' = c
  · subst h; simp [sumTo]
  · simp [h]
theorem scTo_row (n : Nat → Nat) (t : Tab) (c : Nat) : scTo n t c 32 = scTo n t (c + 1) 0 := by
  funext c'
  simp only [scTo]
  by_cases h : c' < c
  · rw [if_pos h, if_pos (by omega)]
  · by_cases e : c' = c
    · subst e; rw [if_neg (by omega), if_pos rfl, if_pos (by omega)]; rfl
    · rw [if_neg h, if_neg e, if_neg (by omega)]
      by_cases e' : c' = c + 1
      · rw [if_pos e']; rfl
      · rw [if_neg e']
theorem scTo_at (n : Nat → Nat) (t : Tab) (c b : Nat) : scTo n t c b c = sumTo (fun b => (n b : Int) * t c b) b := by simp [scTo]
theorem sc_bound (n : Nat → Nat) (hn : ∀ b, n b ≤ 7) (t : Tab) (c : Nat) (ht : ∀ b, b < 32 → -16777216 ≤ t c b ∧ t c b ≤ 16777216) (b : Nat) (hb : b ≤ 32) : -(3758096384 : Int) ≤ sumTo (fun b => (n b : Int) * t c b) b ∧ sumTo (fun b => (n b : Int) * t c b) b ≤ 3758096384 := by
  have := sumTo_le (fun b => (n b : Int) * t c b) 117440512 32 (fun i hi => by
    have h1 := hn i
    obtain ⟨h2, h3⟩ := ht i hi
    have : (n i : Int) = 0 ∨ (n i : Int) = 1 ∨ (n i : Int) = 2 ∨ (n i : Int) = 3 ∨ (n i : Int) = 4 ∨ (n i : Int) = 5 ∨ (n i : Int) = 6 ∨ (n i : Int) = 7 := by omega
    show _ ≤ (n i : Int) * t c i ∧ (n i : Int) * t c i ≤ _
    rcases this with e | e | e | e | e | e | e | e <;> rw [e] <;> omega) b hb
  omega
theorem mul_bound (x : Nat) (y : Int) (hx : x ≤ 7) (h2 : -16777216 ≤ y) (h3 : y ≤ 16777216) : -117440512 ≤ (x : Int) * y ∧ (x : Int) * y ≤ 117440512 := by
  have : (x : Int) = 0 ∨ (x : Int) = 1 ∨ (x : Int) = 2 ∨ (x : Int) = 3 ∨ (x : Int) = 4 ∨ (x : Int) = 5 ∨ (x : Int) = 6 ∨ (x : Int) = 7 := by omega
  rcases this with e | e | e | e | e | e | e | e <;> rw [e] <;> omega

/-- The answer of Draw. -/
def drawAns (cf : Cf) (n : Nat) (j : Int) : Nat × Nat := if 0 ≤ j ∧ j ≤ 3200 then (drawN cf n j.toNat, 0) else (0, 3)

/-- The answer of Status. -/
def statusAns (cf : Cf) (n : Nat) (st : St) : List Value := [.int .i64 st.steps, .int .i64 (st.steps * cf.batch / n : Nat), .int .i64 (st.steps * cf.batch % n : Nat)]
theorem info_i32 : (Tryz.prog.info? 21).map (fun i => (i.zero, i.size, i.bytes)) = some (some (.int .i32 0), 1, 4) := by kernel_rfl
/-- The cells of the first k weights of a class. -/
def wCells (f : Nat → Int) (k : Nat) : List Value := (List.range k).map fun i => .int .i32 (f i)
theorem wCells_snoc (f : Nat → Int) (k : Nat) : wCells f (k + 1) = wCells f k ++ [.int .i32 (f k)] := by
  unfold wCells; rw [List.range_succ, List.map_append]; rfl

/-- The answer of Guess. -/
def guessAns (t : Tab) (s : List UInt8) : Nat × Int := (bestN (scoreN (countsN s) t) (-1), scoreN (countsN s) t (bestN (scoreN (countsN s) t) (-1)))
/-- The labelled text of a record. -/
def exOf (r : Rc) : Ex := ((r.bd.headD 0).toNat, r.bd.tail)
def exsOf (rs : List Rc) : List Ex := rs.map exOf
theorem exOf_ok {r : Rc} (h : bodyOk r.bd = true) : (exOf r).1 < 4 ∧ (exOf r).2.length ≤ 200 := by
  obtain ⟨a, b, bd⟩ := r
  cases bd with
  | nil => simp [bodyOk] at h
  | cons c t => simp [bodyOk] at h; simp [exOf]; omega

/-- How many of the first so many rows are such. -/
def cntTo (p : Nat → Bool) : Nat → Nat
  | 0 => 0
  | q + 1 => cntTo p q + (if p q then 1 else 0)
/-- The row q of a step. -/
abbrev rowAt (cf : Cf) (X : List Ex) (st : St) (q : Nat) : Ex := rowN cf X (st.steps * cf.batch + q)
/-- What a worker's count is behind so many rows. -/
def mTo (cf : Cf) (X : List Ex) (st : St) (W row i : Nat) : Nat := cntTo (fun q => decide (i * cf.batch / W ≤ q ∧ q < (i + 1) * cf.batch / W) && missN st.w (rowAt cf X st q)) row
/-- Memory while the rows of a step are gone through. -/
structure StepF (w wr : World) (W : Nat) (f : Nat → Int) (M : Nat → Nat) : Prop where
  G : CellsAt wr w.heap.size 63 (tab 128 f)
  m : CellsAt wr (w.heap.size + 1) 3 (tab W fun i => ((M i : Nat) : Int))
  b : Below w.heap.size w wr
abbrev StepAt (w wr : World) (W : Nat) (G : Tab) (M : Nat → Nat) : Prop := StepF w wr W (flat G) M
theorem StepF.later {w wr wr' : World} {W : Nat} {f : Nat → Int} {M : Nat → Nat} (h : StepF w wr W f M) (hb : Below wr.heap.size wr wr') : StepF w wr' W f M :=
  ⟨h.G.later hb, h.m.later hb, h.b.trans (hb.mono h.b.size)⟩
theorem StepF.drew {w wr : World} {W : Nat} {f : Nat → Int} {M : Nat → Nat} (h : StepF w wr W f M) : StepF w wr.drew W f M := ⟨h.G, h.m, h.b.drew⟩
theorem StepF.drewN {w wr : World} {W : Nat} {f : Nat → Int} {M : Nat → Nat} (h : StepF w wr W f M) (n : Nat) : StepF w (wr.drewN n) W f M := ⟨h.G, h.m, below_drewN h.b n⟩
theorem StepF.setG {w wr : World} {W : Nat} {f : Nat → Int} {M : Nat → Nat} (h : StepF w wr W f M) (i : Nat) (z : Int) : StepF w (wr.setCell ⟨w.heap.size, i, none⟩ (.int .i64 z)) W (upd f i z) M :=
  ⟨by rw [← tab_set]; exact h.G.set i _, h.m.other (by omega) _ _, h.b.setCell (p := ⟨w.heap.size, i, none⟩) (Nat.le_refl _) _⟩
theorem StepF.setM {w wr : World} {W : Nat} {f : Nat → Int} {M M' : Nat → Nat} (h : StepF w wr W f M) (i z : Nat) (hM : ∀ j, j < W → M' j = if j = i then z else M j) : StepF w (wr.setCell ⟨w.heap.size + 1, i, none⟩ (.int .i64 (z : Nat))) W f M' :=
  ⟨h.G.other (by omega) _ _, by
    have e : tab W (fun j => ((M' j : Nat) : Int)) = tab W (upd (fun i => ((M i : Nat) : Int)) i (z : Nat)) := tab_congr fun j hj => by
      simp only [upd]; rw [hM j hj]; split <;> rfl
    rw [e, ← tab_set]; exact h.m.set i _, h.b.setCell (p := ⟨w.heap.size + 1, i, none⟩) (by show w.heap.size ≤ w.heap.size + 1; omega) _⟩
theorem StepF.to {w wr : World} {W : Nat} {f f' : Nat → Int} {M M' : Nat → Nat} (h : StepF w wr W f M) (hf : tab 128 f = tab 128 f') (hM : ∀ j, j < W → M j = M' j) : StepF w wr W f' M' :=
  ⟨hf ▸ h.G, by
    have e : tab W (fun j => ((M j : Nat) : Int)) = tab W (fun j => ((M' j : Nat) : Int)) := tab_congr fun j hj => by rw [hM j hj]
    rw [← e]; exact h.m, h.b⟩
/-- G, as far as a row has been added. -/
def addTo (G : Tab) (lab rv : Nat) (n : Nat → Nat) (b : Nat) : Tab := fun c b' => G c b' + (if b' < b then (if c = lab then (n b' : Int) else 0) - (if c = rv then (n b' : Int) else 0) else 0)
theorem addTo_zero (G : Tab) (lab rv : Nat) (n : Nat → Nat) : addTo G lab rv n 0 = G := by funext c b; simp [addTo]
theorem addTo_lab (G : Tab) (lab rv : Nat) (n : Nat → Nat) (b : Nat) : addTo G lab rv n b lab b = G lab b := by simp [addTo]
theorem addTo_rv (G : Tab) (lab rv : Nat) (n : Nat → Nat) (b : Nat) : addTo G lab rv n b rv b = G rv b := by simp [addTo]
theorem addTo_next (G : Tab) (lab rv : Nat) (n : Nat → Nat) (b : Nat) (hne : rv ≠ lab) (hb : b < 32) :
    tab 128 (upd (upd (flat (addTo G lab rv n b)) (lab * 32 + b) (G lab b + n b)) (rv * 32 + b) (G rv b - n b)) = tab 128 (flat (addTo G lab rv n (b + 1))) := tab_congr fun i hi => by
  have hdm := Nat.div_add_mod i 32
  have hml : i % 32 < 32 := Nat.mod_lt _ (by decide)
  simp only [upd, flat, addTo]
  generalize i / 32 = c at *
  generalize i % 32 = b' at *
  by_cases e : b' = b
  · subst e
    by_cases e1 : c = rv
    · subst e1
      rw [if_pos (show i = c * 32 + b' by omega), if_pos (show b' < b' + 1 by omega), if_neg hne, if_pos rfl]; omega
    · by_cases e2 : c = lab
      · subst e2
        rw [if_neg (show ¬ i = rv * 32 + b' by omega), if_pos (show i = c * 32 + b' by omega), if_pos (show b' < b' + 1 by omega), if_pos rfl, if_neg e1]; omega
      · rw [if_neg (show ¬ i = rv * 32 + b' by omega), if_neg (show ¬ i = lab * 32 + b' by omega), if_neg (Nat.lt_irrefl b'), if_pos (show b' < b' + 1 by omega), if_neg e2, if_neg e1]; omega
  · rw [if_neg (show ¬ i = rv * 32 + b by omega), if_neg (show ¬ i = lab * 32 + b by omega)]
    by_cases l : b' < b
    · rw [if_pos l, if_pos (show b' < b + 1 by omega)]
    · rw [if_neg l, if_neg (show ¬ b' < b + 1 by omega)]
theorem grad_yes (cf : Cf) (X : List Ex) (st : St) (row lab rv : Nat) (txt : List UInt8) (hr : rowAt cf X st row = (lab, txt)) (hm : missN st.w (rowAt cf X st row) = true) (hv : rivalN st.w (rowAt cf X st row) = rv) :
    flat (addTo (gradN cf X st row) lab rv (countsN txt) 32) = flat (gradN cf X st (row + 1)) := by
  funext i
  have hml : i % 32 < 32 := Nat.mod_lt _ (by decide)
  simp only [flat, addTo, gradN, addN]
  have e1 : (rowN cf X (st.steps * cf.batch + row)) = (lab, txt) := hr
  rw [hm, hv, e1, if_pos hml]; rfl
theorem grad_no (cf : Cf) (X : List Ex) (st : St) (row : Nat) (hm : missN st.w (rowAt cf X st row) = false) : gradN cf X st row = gradN cf X st (row + 1) := by
  funext c b
  simp only [gradN, addN]
  rw [hm]; simp
theorem m_no (cf : Cf) (X : List Ex) (st : St) (W row j : Nat) (hm : missN st.w (rowAt cf X st row) = false) : mTo cf X st W row j = mTo cf X st W (row + 1) j := by
  simp [mTo, cntTo, hm]
theorem m_yes (cf : Cf) (X : List Ex) (st : St) (W row j : Nat) (hm : missN st.w (rowAt cf X st row) = true) : mTo cf X st W (row + 1) j = mTo cf X st W row j + (if j * cf.batch / W ≤ row ∧ row < (j + 1) * cf.batch / W then 1 else 0) := by
  simp [mTo, cntTo, hm]
/-- The workers' counts, the first i of them behind this row. -/
def mBy (cf : Cf) (X : List Ex) (st : St) (W row i j : Nat) : Nat := if j < i then mTo cf X st W (row + 1) j else mTo cf X st W row j
theorem cntTo_le (p : Nat → Bool) (q : Nat) : cntTo p q ≤ q := by
  induction q with
  | zero => exact Nat.le_refl _
  | succ q ih => simp only [cntTo]; split <;> omega
theorem mBy_at (cf : Cf) (X : List Ex) (st : St) (W row i : Nat) : mBy cf X st W row i i = mTo cf X st W row i := by simp [mBy]
theorem mBy_yes (cf : Cf) (X : List Ex) (st : St) (W row i : Nat) (hm : missN st.w (rowAt cf X st row) = true) (h : i * cf.batch / W ≤ row ∧ row < (i + 1) * cf.batch / W) :
    ∀ j, j < W → mBy cf X st W row (i + 1) j = if j = i then mTo cf X st W row i + 1 else mBy cf X st W row i j := by
  intro j _
  simp only [mBy]
  by_cases e : j = i
  · subst e; rw [if_pos (by omega), if_pos rfl, m_yes cf X st W row j hm, if_pos h]
  · rw [if_neg e]
    by_cases l : j < i
    · rw [if_pos (show j < i + 1 by omega), if_pos l]
    · rw [if_neg (show ¬ j < i + 1 by omega), if_neg l]
theorem mBy_no (cf : Cf) (X : List Ex) (st : St) (W row i : Nat) (hm : missN st.w (rowAt cf X st row) = true) (h : ¬ (i * cf.batch / W ≤ row ∧ row < (i + 1) * cf.batch / W)) :
    ∀ j, j < W → mBy cf X st W row i j = mBy cf X st W row (i + 1) j := by
  intro j _
  simp only [mBy]
  by_cases e : j = i
  · subst e; rw [if_neg (Nat.lt_irrefl j), if_pos (by omega), m_yes cf X st W row j hm, if_neg h]; rfl
  · by_cases l : j < i
    · rw [if_pos (show j < i + 1 by omega), if_pos l]
    · rw [if_neg (show ¬ j < i + 1 by omega), if_neg l]
def updT (t : Tab) (c b : Nat) (z : Int) : Tab := fun c' b' => if c' = c ∧ b' = b then z else t c' b'
theorem flat_upd (t : Tab) (c b : Nat) (z : Int) (hb : b < 32) : upd (flat t) (c * 32 + b) z = flat (updT t c b z) := by
  funext i
  have hdm := Nat.div_add_mod i 32
  have hml : i % 32 < 32 := Nat.mod_lt _ (by decide)
  simp only [upd, flat, updT]
  generalize i / 32 = c' at *
  generalize i % 32 = b' at *
  by_cases e : i = c * 32 + b
  · rw [if_pos e, if_pos (by omega)]
  · rw [if_neg e, if_neg (by omega)]
theorem runCells_set_w (cf : Cf) (shard : ByteArray) (lv : Value) (sp : Nat) (tw tv : Tab) {c b : Nat} (hc : c < 4) (hb : b < 32) (z : Int) : (runCells cf shard lv ⟨sp, tw, tv⟩).set (8 + c * 32 + b) (.int .i64 z) = runCells cf shard lv ⟨sp, updT tw c b z, tv⟩ := by
  unfold runCells
  rw [List.set_append_right _ _ (by simp [headCells]; omega), List.set_append_left _ _ (by rw [tab_length]; simp [headCells]; omega)]
  rw [show 8 + c * 32 + b - (headCells cf shard lv sp).length = c * 32 + b by simp [headCells]; omega, tab_set, flat_upd _ _ _ _ hb]
theorem runCells_set_v (cf : Cf) (shard : ByteArray) (lv : Value) (sp : Nat) (tw tv : Tab) {c b : Nat} (hc : c < 4) (hb : b < 32) (z : Int) : (runCells cf shard lv ⟨sp, tw, tv⟩).set (136 + c * 32 + b) (.int .i64 z) = runCells cf shard lv ⟨sp, tw, updT tv c b z⟩ := by
  unfold runCells
  rw [List.set_append_right _ _ (by simp [headCells]; omega), List.set_append_right _ _ (by rw [tab_length]; simp [headCells]; omega), tab_length]
  rw [show 136 + c * 32 + b - (headCells cf shard lv sp).length - 128 = c * 32 + b by simp [headCells]; omega, tab_set, flat_upd _ _ _ _ hb]
theorem runCells_set_steps (cf : Cf) (shard : ByteArray) (lv : Value) (sp sp' : Nat) (tw tv : Tab) : (runCells cf shard lv ⟨sp, tw, tv⟩).set 7 (.int .i64 sp') = runCells cf shard lv ⟨sp', tw, tv⟩ := by
  unfold runCells
  rw [List.set_append_left _ _ (by simp [headCells])]; rfl
theorem runCells_tabs (cf : Cf) (shard : ByteArray) (lv : Value) (sp : Nat) {tw tv tw' tv' : Tab} (h1 : ∀ c b, c < 4 → b < 32 → tw c b = tw' c b) (h2 : ∀ c b, c < 4 → b < 32 → tv c b = tv' c b) : runCells cf shard lv ⟨sp, tw, tv⟩ = runCells cf shard lv ⟨sp, tw', tv'⟩ := by
  unfold runCells
  have e1 : tab 128 (flat tw) = tab 128 (flat tw') := tab_congr fun i hi => h1 _ _ (by omega) (Nat.mod_lt _ (by decide))
  have e2 : tab 128 (flat tv) = tab 128 (flat tv') := tab_congr fun i hi => h2 _ _ (by omega) (Nat.mod_lt _ (by decide))
  simp only [e1, e2]
/-- The new, as far as it is made; the old behind it. -/
def mixT (new old : Tab) (c b : Nat) : Tab := fun c' b' => if c' < c ∨ (c' = c ∧ b' < b) then new c' b' else old c' b'
theorem mixT_at (new old : Tab) (c b : Nat) : mixT new old c b c b = old c b := by simp [mixT]
theorem mixT_next (new old : Tab) (c b : Nat) : updT (mixT new old c b) c b (new c b) = mixT new old c (b + 1) := by
  funext c' b'
  simp only [updT, mixT]
  by_cases e : c' = c ∧ b' = b
  · obtain ⟨rfl, rfl⟩ := e; rw [if_pos ⟨rfl, rfl⟩, if_pos (by omega)]
  · rw [if_neg e]
    by_cases l : c' < c ∨ (c' = c ∧ b' < b)
    · rw [if_pos l, if_pos (by omega)]
    · rw [if_neg l, if_neg (by omega)]
theorem mixT_row (new old : Tab) (c : Nat) : ∀ c' b', c' < 4 → b' < 32 → mixT new old c 32 c' b' = mixT new old (c + 1) 0 c' b' := by
  intro c' b' _ hb
  simp only [mixT]
  by_cases l : c' < c ∨ (c' = c ∧ b' < 32)
  · rw [if_pos l, if_pos (by omega)]
  · rw [if_neg l, if_neg (by omega)]
theorem mixT_all (new old : Tab) : ∀ c' b', c' < 4 → b' < 32 → mixT new old 4 0 c' b' = new c' b' := by
  intro c' b' hc _
  simp only [mixT]; rw [if_pos (.inl hc)]
theorem mixT_none (new old : Tab) : mixT new old 0 0 = old := by funext c b; simp [mixT]
theorem mulB (x : Int) (y A B : Nat) (h1 : -(A : Int) ≤ x) (h2 : x ≤ A) (hy : y ≤ B) : -((A * B : Nat) : Int) ≤ x * y ∧ x * y ≤ ((A * B : Nat) : Int) := by
  have hb : (y : Int) ≤ B := by omega
  have h0 : (0 : Int) ≤ y := by omega
  have ha : (0 : Int) ≤ A := by omega
  have e1 : x * y ≤ A * y := Int.mul_le_mul_of_nonneg_right h2 h0
  have e2 : (A : Int) * y ≤ A * B := Int.mul_le_mul_of_nonneg_left hb ha
  have e3 : -(A : Int) * y ≤ x * y := Int.mul_le_mul_of_nonneg_right h1 h0
  rw [Int.natCast_mul]
  rw [Int.neg_mul] at e3
  omega
theorem div_bound (x : Int) (m : Int) (k : Nat) (h1 : -m ≤ x) (h2 : x ≤ m) (hm : 0 ≤ m) : -m ≤ x / 2 ^ k ∧ x / 2 ^ k ≤ m := by
  have hp : (0 : Int) < 2 ^ k := Int.pow_pos (by decide)
  have h1p : (1 : Int) ≤ 2 ^ k := hp
  constructor
  · have : -m * 2 ^ k ≤ x := by
      have : m ≤ m * 2 ^ k := by
        have := Int.mul_le_mul_of_nonneg_left h1p hm
        omega
      rw [Int.neg_mul]; omega
    exact (Int.le_ediv_iff_mul_le hp).2 this
  · by_cases h0 : 0 ≤ x
    · exact Int.le_trans (Int.ediv_le_self _ h0) h2
    · have : x / 2 ^ k < 0 := Int.ediv_neg_of_neg_of_pos (by omega) hp
      omega
theorem cnt_part (p : Nat → Bool) (lo hi : Nat) : ∀ n, hi ≤ n → cntTo (fun q => decide (lo ≤ q ∧ q < hi) && p q) n = cntTo (fun q => decide (lo ≤ q) && p q) hi := by
  have base : ∀ m, m ≤ hi → cntTo (fun q => decide (lo ≤ q ∧ q < hi) && p q) m = cntTo (fun q => decide (lo ≤ q) && p q) m := by
    intro m
    induction m with
    | zero => intro _; rfl
    | succ m ih =>
      intro hm
      simp only [cntTo]
      rw [ih (by omega)]
      have : decide (lo ≤ m ∧ m < hi) = decide (lo ≤ m) := by simp; omega
      simp only [this]
  intro n
  induction n with
  | zero => intro h; obtain rfl : hi = 0 := by omega
            rfl
  | succ n ih =>
    intro h
    by_cases e : hi = n + 1
    · subst e; exact base _ (Nat.le_refl _)
    · simp only [cntTo]
      rw [ih (by omega)]
      have : decide (lo ≤ n ∧ n < hi) = false := by simp; omega
      simp [this]
theorem missedN_cnt (cf : Cf) (X : List Ex) (st : St) (lo : Nat) : ∀ q, missedN cf X st lo q = cntTo (fun q => decide (lo ≤ q) && missN st.w (rowAt cf X st q)) q := by
  intro q
  induction q with
  | zero => rfl
  | succ q ih => simp only [missedN, cntTo, ih, Bool.and_eq_true, decide_eq_true_eq]
theorem work_eq (cf : Cf) (X : List Ex) (st : St) (W i : Nat) (hi : i < W) : mTo cf X st W cf.batch i = workN cf X st W i := by
  unfold mTo workN
  rw [missedN_cnt, cnt_part (fun q => missN st.w (rowAt cf X st q)) _ _ _ (Nat.div_le_of_le_mul (by rw [Nat.mul_comm W]; rw [Nat.mul_comm]; exact Nat.mul_le_mul_left _ hi))]
/-- The workers' answer. -/
def workL (cf : Cf) (X : List Ex) (st : St) (W : Nat) : List Nat := (List.range W).map (workN cf X st W)
theorem workL_cells (cf : Cf) (X : List Ex) (st : St) (W : Nat) : tab W (fun i => ((mTo cf X st W cf.batch i : Nat) : Int)) = intCells (workL cf X st W) := by
  unfold tab intCells workL
  rw [List.map_map]
  exact List.map_congr_left fun i hi => by simp only [Function.comp]; rw [work_eq cf X st W i (List.mem_range.1 hi)]
theorem owns_of_cells {w : World} {g n base : Nat} {e : TypeId} {l : List Value} (h : CellsAt w g e l) (hb : base ≤ g) (hl : l.length = n) (hm : n ≤ maxLen) : w.ownsRow base e 1 (.slice (some ⟨g, 0, none⟩) n n) n l := by
  refine ⟨by omega, .inr ⟨g, n, l.toArray, rfl, hb, h, Nat.le_refl _, hm, by simp [hl], ?_⟩⟩
  simp [← hl]
theorem info_big : (Tryz.prog.info? 62).map (·.size) = some 32 := by kernel_rfl
theorem info_four : (Tryz.prog.info? 119).map (·.size) = some 4 := by kernel_rfl

/-- Settings as they come in. -/
structure Raw where
  seed : Nat
  batch : Nat
  rate : Int
  mom : Int
  decay : Nat
def Raw.cells (r : Raw) : List Value := [.int .u64 r.seed, .int .u8 r.batch, .int .i32 r.rate, .int .i32 r.mom, .int .u8 r.decay]
def Raw.ok (r : Raw) : Bool := decide (1 ≤ r.batch ∧ r.batch ≤ 8 ∧ 0 ≤ r.rate ∧ r.rate ≤ 65536 ∧ 0 ≤ r.mom ∧ r.mom < 65536 ∧ r.decay ≤ 31)
def Raw.cf (r : Raw) : Cf := ⟨r.seed, r.batch, r.rate.toNat, r.mom.toNat, r.decay⟩
structure Raw.Wf (r : Raw) : Prop where
  seed : r.seed < 18446744073709551616
  batch : r.batch ≤ 255
  rate : -2147483648 ≤ r.rate ∧ r.rate ≤ 2147483647
  mom : -2147483648 ≤ r.mom ∧ r.mom ≤ 2147483647
  decay : r.decay ≤ 255
theorem Raw.cf_ok {r : Raw} (h : r.ok = true) (hw : r.Wf) : r.cf.Ok := by
  simp only [Raw.ok, decide_eq_true_eq] at h
  exact ⟨hw.seed, h.1, h.2.1, by show r.rate.toNat ≤ _; omega, by show r.mom.toNat < _; omega, h.2.2.2.2.2.2⟩

theorem own_base {w : World} {b b' : Nat} {e : TypeId} {size : Nat} {v : Value} {n : Nat} {xs : List Value} (h : w.ownsRow b e size v n xs) (hb : b' ≤ b) : w.ownsRow b' e size v n xs := by
  refine ⟨h.1, ?_⟩
  rcases h.2 with h | ⟨g, cap, cur, e1, e2, r⟩
  · exact .inl h
  · exact .inr ⟨g, cap, cur, e1, Nat.le_trans hb e2, r⟩
theorem set_left {l r : List Value} {i : Nat} (u : Value) (h : i < l.length) : (l ++ r).toArray.setIfInBounds i u = (l.set i u ++ r).toArray := by
  rw [List.setIfInBounds_toArray, List.set_append_left _ _ h]
end Go.Proofs.YtfpodnleimhohabGreatDoor
