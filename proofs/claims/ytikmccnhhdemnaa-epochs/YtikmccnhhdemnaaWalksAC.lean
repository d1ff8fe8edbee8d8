/-
  WALKS: the document's Step.
-/
import Derived.Test.YtikmccnhhdemnaaWalksAB
import Derived.Test.YtikmccnhhdemnaaRecs
import Derived.Test.YtikmccnhhdemnaaSpare
namespace Go.Proofs.Ytikmccnhhdemnaa
open Go.RowKit
set_option linter.unusedVariables false

/-- The labelled text of a record. -/
def exOf (r : Rc) : Ex := ((r.bd.headD 0).toNat, r.bd.tail)
def exsOf (rs : List Rc) : List Ex := rs.map exOf
theorem exOf_ok {r : Rc} (h : bodyOk r.bd = true) : (exOf r).1 < 4 ∧ (exOf r).2.length ≤ 200 := by
  obtain ⟨a, b, bd⟩ := r
  cases bd with
  | nil => simp [bodyOk] at h
  | cons c t => simp [bodyOk] at h; simp [exOf]; omega

/-- How many of the first so many rows are such. -/
def cntTo (p : Nat → Bool) : Nat → Nat
  | 0 => 0
  | q + 1 => cntTo p q + (if p q then 1 else 0)
/-- The row q of a step. -/
abbrev rowAt (cf : Cf) (X : List Ex) (st : St) (q : Nat) : Ex := rowN cf X (st.steps * cf.batch + q)
/-- What a worker's count is behind so many rows. -/
def mTo (cf : Cf) (X : List Ex) (st : St) (W row i : Nat) : Nat := cntTo (fun q => decide (i * cf.batch / W ≤ q ∧ q < (i + 1) * cf.batch / W) && missN st.w (rowAt cf X st q)) row
/-- Memory while the rows of a step are gone through. -/
structure StepF (w wr : World) (W : Nat) (f : Nat → Int) (M : Nat → Nat) : Prop where
  G : CellsAt wr w.heap.size 111 (tab 128 f)
  m : CellsAt wr (w.heap.size + 1) 3 (tab W fun i => ((M i : Nat) : Int))
  b : Below w.heap.size w wr
abbrev StepAt (w wr : World) (W : Nat) (G : Tab) (M : Nat → Nat) : Prop := StepF w wr W (flat G) M
theorem StepF.later {w wr wr' : World} {W : Nat} {f : Nat → Int} {M : Nat → Nat} (h : StepF w wr W f M) (hb : Below wr.heap.size wr wr') : StepF w wr' W f M :=
  ⟨h.G.later hb, h.m.later hb, h.b.trans (hb.mono h.b.size)⟩
theorem StepF.drew {w wr : World} {W : Nat} {f : Nat → Int} {M : Nat → Nat} (h : StepF w wr W f M) : StepF w wr.drew W f M := ⟨h.G, h.m, h.b.drew⟩
theorem StepF.drewN {w wr : World} {W : Nat} {f : Nat → Int} {M : Nat → Nat} (h : StepF w wr W f M) (n : Nat) : StepF w (wr.drewN n) W f M := ⟨h.G, h.m, below_drewN h.b n⟩
theorem StepF.setG {w wr : World} {W : Nat} {f : Nat → Int} {M : Nat → Nat} (h : StepF w wr W f M) (i : Nat) (z : Int) : StepF w (wr.setCell ⟨w.heap.size, i, none⟩ (.int .i64 z)) W (upd f i z) M :=
  ⟨by rw [← tab_set]; exact h.G.set i _, h.m.other (by omega) _ _, h.b.setCell (p := ⟨w.heap.size, i, none⟩) (Nat.le_refl _) _⟩
theorem StepF.setM {w wr : World} {W : Nat} {f : Nat → Int} {M M' : Nat → Nat} (h : StepF w wr W f M) (i z : Nat) (hM : ∀ j, j < W → M' j = if j = i then z else M j) : StepF w (wr.setCell ⟨w.heap.size + 1, i, none⟩ (.int .i64 (z : Nat))) W f M' :=
  ⟨h.G.other (by omega) _ _, by
    have e : tab W (fun j => ((M' j : Nat) : Int)) = tab W (upd (fun i => ((M i : Nat) : Int)) i (z : Nat)) := tab_congr fun j hj => by
      simp only [upd]; rw [hM j hj]; split <;> rfl
    rw [e, ← tab_set]; exact h.m.set i _, h.b.setCell (p := ⟨w.heap.size + 1, i, none⟩) (by show w.heap.size ≤ w.heap.size + 1; omega) _⟩
theorem StepF.to {w wr : World} {W : Nat} {f f' : Nat → Int} {M M' : Nat → Nat} (h : StepF w wr W f M) (hf : tab 128 f = tab 128 f') (hM : ∀ j, j < W → M j = M' j) : StepF w wr W f' M' :=
  ⟨hf ▸ h.G, by
    have e : tab W (fun j => ((M j : Nat) : Int)) = tab W (fun j => ((M' j : Nat) : Int)) := tab_congr fun j hj => by rw [hM j hj]
    rw [← e]; exact h.m, h.b⟩
/-- G, as far as a row has been added. -/
def addTo (G : Tab) (lab rv : Nat) (n : Nat → Nat) (b : Nat) : Tab := fun c b' => G c b' + (if b' < b then (if c = lab then (n b' : Int) else 0) - (if c = rv then (n b' : Int) else 0) else 0)
theorem addTo_zero (G : Tab) (lab rv : Nat) (n : Nat → Nat) : addTo G lab rv n 0 = G := by funext c b; simp [addTo]
theorem addTo_lab (G : Tab) (lab rv : Nat) (n : Nat → Nat) (b : Nat) : addTo G lab rv n b lab b = G lab b := by simp [addTo]
theorem addTo_rv (G : Tab) (lab rv : Nat) (n : Nat → Nat) (b : Nat) : addTo G lab rv n b rv b = G rv b := by simp [addTo]
theorem addTo_next (G : Tab) (lab rv : Nat) (n : Nat → Nat) (b : Nat) (hne : rv ≠ lab) (hb : b < 32) :
    tab 128 (upd (upd (flat (addTo G lab rv n b)) (lab * 32 + b) (G lab b + n b)) (rv * 32 + b) (G rv b - n b)) = tab 128 (flat (addTo G lab rv n (b + 1))) := tab_congr fun i hi => by
  have hdm := Nat.div_add_mod i 32
  have hml : i % 32 < 32 := Nat.mod_lt _ (by decide)
  simp only [upd, flat, addTo]
  generalize i / 32 = c at *
  generalize i % 32 = b' at *
  by_cases e : b' = b
  · subst e
    by_cases e1 : c = rv
    · subst e1
      rw [if_pos (show i = c * 32 + b' by omega), if_pos (show b' < b' + 1 by omega), if_neg hne, if_pos rfl]; omega
    · by_cases e2 : c = lab
      · subst e2
        rw [if_neg (show ¬ i = rv * 32 + b' by omega), if_pos (show i = c * 32 + b' by omega), if_pos (show b' < b' + 1 by omega), if_pos rfl, if_neg e1]; omega
      · rw [if_neg (show ¬ i = rv * 32 + b' by omega), if_neg (show ¬ i = lab * 32 + b' by omega), if_neg (Nat.lt_irrefl b'), if_pos (show b' < b' + 1 by omega), if_neg e2, if_neg e1]; omega
  · rw [if_neg (show ¬ i = rv * 32 + b by omega), if_neg (show ¬ i = lab * 32 + b by omega)]
    by_cases l : b' < b
    · rw [if_pos l, if_pos (show b' < b + 1 by omega)]
    · rw [if_neg l, if_neg (show ¬ b' < b + 1 by omega)]
theorem grad_yes (cf : Cf) (X : List Ex) (st : St) (row lab rv : Nat) (txt : List UInt8) (hr : rowAt cf X st row = (lab, txt)) (hm : missN st.w (rowAt cf X st row) = true) (hv : rivalN st.w (rowAt cf X st row) = rv) :
    flat (addTo (gradN cf X st row) lab rv (countsN txt) 32) = flat (gradN cf X st (row + 1)) := by
  funext i
  have hml : i % 32 < 32 := Nat.mod_lt _ (by decide)
  simp only [flat, addTo, gradN, addN]
  have e1 : (rowN cf X (st.steps * cf.batch + row)) = (lab, txt) := hr
  rw [hm, hv, e1, if_pos hml]; rfl
theorem grad_no (cf : Cf) (X : List Ex) (st : St) (row : Nat) (hm : missN st.w (rowAt cf X st row) = false) : gradN cf X st row = gradN cf X st (row + 1) := by
  funext c b
  simp only [gradN, addN]
  rw [hm]; simp
theorem m_no (cf : Cf) (X : List Ex) (st : St) (W row j : Nat) (hm : missN st.w (rowAt cf X st row) = false) : mTo cf X st W row j = mTo cf X st W (row + 1) j := by
  simp [mTo, cntTo, hm]
theorem m_yes (cf : Cf) (X : List Ex) (st : St) (W row j : Nat) (hm : missN st.w (rowAt cf X st row) = true) : mTo cf X st W (row + 1) j = mTo cf X st W row j + (if j * cf.batch / W ≤ row ∧ row < (j + 1) * cf.batch / W then 1 else 0) := by
  simp [mTo, cntTo, hm]
/-- The workers' counts, the first i of them behind this row. -/
def mBy (cf : Cf) (X : List Ex) (st : St) (W row i j : Nat) : Nat := if j < i then mTo cf X st W (row + 1) j else mTo cf X st W row j
theorem cntTo_le (p : Nat → Bool) (q : Nat) : cntTo p q ≤ q := by
  induction q with
  | zero => exact Nat.le_refl _
  | succ q ih => simp only [cntTo]; split <;> omega
theorem mBy_at (cf : Cf) (X : List Ex) (st : St) (W row i : Nat) : mBy cf X st W row i i = mTo cf X st W row i := by simp [mBy]
theorem mBy_yes (cf : Cf) (X : List Ex) (st : St) (W row i : Nat) (hm : missN st.w (rowAt cf X st row) = true) (h : i * cf.batch / W ≤ row ∧ row < (i + 1) * cf.batch / W) :
    ∀ j, j < W → mBy cf X st W row (i + 1) j = if j = i then mTo cf X st W row i + 1 else mBy cf X st W row i j := by
  intro j _
  simp only [mBy]
  by_cases e : j = i
  · subst e; rw [if_pos (by omega), if_pos rfl, m_yes cf X st W row j hm, if_pos h]
  · rw [if_neg e]
    by_cases l : j < i
    · rw [if_pos (show j < i + 1 by omega), if_pos l]
    · rw [if_neg (show ¬ j < i + 1 by omega), if_neg l]
theorem mBy_no (cf : Cf) (X : List Ex) (st : St) (W row i : Nat) (hm : missN st.w (rowAt cf X st row) = true) (h : ¬ (i * cf.batch / W ≤ row ∧ row < (i + 1) * cf.batch / W)) :
    ∀ j, j < W → mBy cf X st W row i j = mBy cf X st W row (i + 1) j := by
  intro j _
  simp only [mBy]
  by_cases e : j = i
  · subst e; rw [if_neg (Nat.lt_irrefl j), if_pos (by omega), m_yes cf X st W row j hm, if_neg h]; rfl
  · by_cases l : j < i
    · rw [if_pos (show j < i + 1 by omega), if_pos l]
    · rw [if_neg (show ¬ j < i + 1 by omega), if_neg l]
/-! ### the weights are turned -/
def updT (t : Tab) (c b : Nat) (z : Int) : Tab := fun c' b' => if c' = c ∧ b' = b then z else t c' b'
theorem flat_upd (t : Tab) (c b : Nat) (z : Int) (hb : b < 32) : upd (flat t) (c * 32 + b) z = flat (updT t c b z) := by
  funext i
  have hdm := Nat.div_add_mod i 32
  have hml : i % 32 < 32 := Nat.mod_lt _ (by decide)
  simp only [upd, flat, updT]
  generalize i / 32 = c' at *
  generalize i % 32 = b' at *
  by_cases e : i = c * 32 + b
  · rw [if_pos e, if_pos (by omega)]
  · rw [if_neg e, if_neg (by omega)]
theorem runCells_set_w (cf : Cf) (shard : ByteArray) (lv : Value) (sp : Nat) (tw tv : Tab) {c b : Nat} (hc : c < 4) (hb : b < 32) (z : Int) : (runCells cf shard lv ⟨sp, tw, tv⟩).set (8 + c * 32 + b) (.int .i64 z) = runCells cf shard lv ⟨sp, updT tw c b z, tv⟩ := by
  unfold runCells
  rw [List.set_append_right _ _ (by simp [headCells]; omega), List.set_append_left _ _ (by rw [tab_length]; simp [headCells]; omega)]
  rw [show 8 + c * 32 + b - (headCells cf shard lv sp).length = c * 32 + b by simp [headCells]; omega, tab_set, flat_upd _ _ _ _ hb]
theorem runCells_set_v (cf : Cf) (shard : ByteArray) (lv : Value) (sp : Nat) (tw tv : Tab) {c b : Nat} (hc : c < 4) (hb : b < 32) (z : Int) : (runCells cf shard lv ⟨sp, tw, tv⟩).set (136 + c * 32 + b) (.int .i64 z) = runCells cf shard lv ⟨sp, tw, updT tv c b z⟩ := by
  unfold runCells
  rw [List.set_append_right _ _ (by simp [headCells]; omega), List.set_append_right _ _ (by rw [tab_length]; simp [headCells]; omega), tab_length]
  rw [show 136 + c * 32 + b - (headCells cf shard lv sp).length - 128 = c * 32 + b by simp [headCells]; omega, tab_set, flat_upd _ _ _ _ hb]
theorem runCells_set_steps (cf : Cf) (shard : ByteArray) (lv : Value) (sp sp' : Nat) (tw tv : Tab) : (runCells cf shard lv ⟨sp, tw, tv⟩).set 7 (.int .i64 sp') = runCells cf shard lv ⟨sp', tw, tv⟩ := by
  unfold runCells
  rw [List.set_append_left _ _ (by simp [headCells])]; rfl
theorem runCells_tabs (cf : Cf) (shard : ByteArray) (lv : Value) (sp : Nat) {tw tv tw' tv' : Tab} (h1 : ∀ c b, c < 4 → b < 32 → tw c b = tw' c b) (h2 : ∀ c b, c < 4 → b < 32 → tv c b = tv' c b) : runCells cf shard lv ⟨sp, tw, tv⟩ = runCells cf shard lv ⟨sp, tw', tv'⟩ := by
  unfold runCells
  have e1 : tab 128 (flat tw) = tab 128 (flat tw') := tab_congr fun i hi => h1 _ _ (by omega) (Nat.mod_lt _ (by decide))
  have e2 : tab 128 (flat tv) = tab 128 (flat tv') := tab_congr fun i hi => h2 _ _ (by omega) (Nat.mod_lt _ (by decide))
  simp only [e1, e2]
/-- The new, as far as it is made; the old behind it. -/
def mixT (new old : Tab) (c b : Nat) : Tab := fun c' b' => if c' < c ∨ (c' = c ∧ b' < b) then new c' b' else old c' b'
theorem mixT_at (new old : Tab) (c b : Nat) : mixT new old c b c b = old c b := by simp [mixT]
theorem mixT_next (new old : Tab) (c b : Nat) : updT (mixT new old c b) c b (new c b) = mixT new old c (b + 1) := by
  funext c' b'
  simp only [updT, mixT]
  by_cases e : c' = c ∧ b' = b
  · obtain ⟨rfl, rfl⟩ := e; rw [if_pos ⟨rfl, rfl⟩, if_pos (by omega)]
  · rw [if_neg e]
    by_cases l : c' < c ∨ (c' = c ∧ b' < b)
    · rw [if_pos l, if_pos (by omega)]
    · rw [if_neg l, if_neg (by omega)]
theorem mixT_row (new old : Tab) (c : Nat) : ∀ c' b', c' < 4 → b' < 32 → mixT new old c 32 c' b' = mixT new old (c + 1) 0 c' b' := by
  intro c' b' _ hb
  simp only [mixT]
  by_cases l : c' < c ∨ (c' = c ∧ b' < 32)
  · rw [if_pos l, if_pos (by omega)]
  · rw [if_neg l, if_neg (by omega)]
theorem mixT_all (new old : Tab) : ∀ c' b', c' < 4 → b' < 32 → mixT new old 4 0 c' b' = new c' b' := by
  intro c' b' hc _
  simp only [mixT]; rw [if_pos (.inl hc)]
theorem mixT_none (new old : Tab) : mixT new old 0 0 = old := by funext c b; simp [mixT]
theorem mulB (x : Int) (y A B : Nat) (h1 : -(A : Int) ≤ x) (h2 : x ≤ A) (hy : y ≤ B) : -((A * B : Nat) : Int) ≤ x * y ∧ x * y ≤ ((A * B : Nat) : Int) := by
  have hb : (y : Int) ≤ B := by omega
  have h0 : (0 : Int) ≤ y := by omega
  have ha : (0 : Int) ≤ A := by omega
  have e1 : x * y ≤ A * y := Int.mul_le_mul_of_nonneg_right h2 h0
  have e2 : (A : Int) * y ≤ A * B := Int.mul_le_mul_of_nonneg_left hb ha
  have e3 : -(A : Int) * y ≤ x * y := Int.mul_le_mul_of_nonneg_right h1 h0
  rw [Int.natCast_mul]
  rw [Int.neg_mul] at e3
  omega
theorem div_bound (x : Int) (m : Int) (k : Nat) (h1 : -m ≤ x) (h2 : x ≤ m) (hm : 0 ≤ m) : -m ≤ x / 2 ^ k ∧ x / 2 ^ k ≤ m := by
  have hp : (0 : Int) < 2 ^ k := Int.pow_pos (by decide)
  have h1p : (1 : Int) ≤ 2 ^ k := hp
  constructor
  · have : -m * 2 ^ k ≤ x := by
      have : m ≤ m * 2 ^ k := by
        have := Int.mul_le_mul_of_nonneg_left h1p hm
        omega
      rw [Int.neg_mul]; omega
    exact (Int.le_ediv_iff_mul_le hp).2 this
  · by_cases h0 : 0 ≤ x
    · exact Int.le_trans (Int.ediv_le_self _ h0) h2
    · have : x / 2 ^ k < 0 := Int.ediv_neg_of_neg_of_pos (by omega) hp
      omega
theorem cnt_part (p : Nat → Bool) (lo hi : Nat) : ∀ n, hi ≤ n → cntTo (fun q => decide (lo ≤ q ∧ q < hi) && p q) n = cntTo (fun q => decide (lo ≤ q) && p q) hi := by
  have base : ∀ m, m ≤ hi → cntTo (fun q => decide (lo ≤ q ∧ q < hi) && p q) m = cntTo (fun q => decide (lo ≤ q) && p q) m := by
    intro m
    induction m with
    | zero => intro _; rfl
    | succ m ih =>
      intro hm
      simp only [cntTo]
      rw [ih (by omega)]
      have : decide (lo ≤ m ∧ m < hi) = decide (lo ≤ m) := by simp; omega
      simp only [this]
  intro n
  induction n with
  | zero => intro h; obtain rfl : hi = 0 := by omega
            rfl
  | succ n ih =>
    intro h
    by_cases e : hi = n + 1
    · subst e; exact base _ (Nat.le_refl _)
    · simp only [cntTo]
      rw [ih (by omega)]
      have : decide (lo ≤ n ∧ n < hi) = false := by simp; omega
      simp [this]
theorem missedN_cnt (cf : Cf) (X : List Ex) (st : St) (lo : Nat) : ∀ q, missedN cf X st lo q = cntTo (fun q => decide (lo ≤ q) && missN st.w (rowAt cf X st q)) q := by
  intro q
  induction q with
  | zero => rfl
  | succ q ih => simp only [missedN, cntTo, ih, Bool.and_eq_true, decide_eq_true_eq]
theorem work_eq (cf : Cf) (X : List Ex) (st : St) (W i : Nat) (hi : i < W) : mTo cf X st W cf.batch i = workN cf X st W i := by
  unfold mTo workN
  rw [missedN_cnt, cnt_part (fun q => missN st.w (rowAt cf X st q)) _ _ _ (Nat.div_le_of_le_mul (by rw [Nat.mul_comm W]; rw [Nat.mul_comm]; exact Nat.mul_le_mul_left _ hi))]
/-- The workers' answer. -/
def workL (cf : Cf) (X : List Ex) (st : St) (W : Nat) : List Nat := (List.range W).map (workN cf X st W)
theorem workL_cells (cf : Cf) (X : List Ex) (st : St) (W : Nat) : tab W (fun i => ((mTo cf X st W cf.batch i : Nat) : Int)) = intCells (workL cf X st W) := by
  unfold tab intCells workL
  rw [List.map_map]
  exact List.map_congr_left fun i hi => by simp only [Function.comp]; rw [work_eq cf X st W i (List.mem_range.1 hi)]
theorem owns_of_cells {w : World} {g n base : Nat} {e : TypeId} {l : List Value} (h : CellsAt w g e l) (hb : base ≤ g) (hl : l.length = n) (hm : n ≤ maxLen) : w.ownsRow base e 1 (.slice (some ⟨g, 0, none⟩) n n) n l := by
  refine ⟨by omega, .inr ⟨g, n, l.toArray, rfl, hb, h, Nat.le_refl _, hm, by simp [hl], ?_⟩⟩
  simp [← hl]
theorem info_big : (Try.prog.info? 110).map (·.size) = some 32 := by kernel_rfl
theorem info_four : (Try.prog.info? 161).map (·.size) = some 4 := by kernel_rfl

end Go.Proofs.Ytikmccnhhdemnaa
