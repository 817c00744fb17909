/-
  A JOURNAL OVER LISTS: what a failing Put, any crash, failing Recovers and at last one that is OK leave: the old text or the new one. Over no program.
-/
import Derived.Test.YtgefbolnfenfcaaGreatJm
import Derived.Test.YtgefbolnfenfcaaGreatBk
namespace Go.Proofs.YtgefbolnfenfcaaGreat
open Go.RowKit Go.Mk

/-- Bytes laid over a part in the middle. -/
theorem lay_mid (P M R : List UInt8) (k m j : Nat) (b : List UInt8) (hP : P.length = 64 * k) (hM : M.length = 64 * m) (h1 : k ≤ j) (h2 : 64 * (j - k) + b.length ≤ 64 * m) :
    lay (P ++ (M ++ R)) j b = P ++ (splice M (64 * (j - k)) b ++ R) := by
  unfold lay splice
  have e : 64 * j = P.length + 64 * (j - k) := by omega
  rw [e, List.take_append, List.drop_append, List.take_of_length_le (by omega), List.drop_eq_nil_of_le (by omega)]
  rw [show P.length + 64 * (j - k) - P.length = 64 * (j - k) by omega, show P.length + 64 * (j - k) + b.length - P.length = 64 * (j - k) + b.length by omega]
  rw [List.take_append_of_le_length (by omega), List.drop_append_of_le_length (by omega)]
  simp only [List.nil_append, List.append_assoc]

theorem crash_mid (P R : List UInt8) (k m : Nat) (hP : P.length = 64 * k) (keep : List Bool) (torn : Int) (o : Nat) : ∀ (ws : List Wt) (i : Nat) (M : List UInt8), M.length = 64 * m → (∀ x ∈ ws, k ≤ x.k ∧ x.k < k + m ∧ x.b.length = 64) →
    ∃ M', M'.length = 64 * m ∧ crash keep torn o i ws (P ++ (M ++ R)) = P ++ (M' ++ R)
  | [], i, M, hM, _ => ⟨M, hM, rfl⟩
  | x :: ws, i, M, hM, hx => by
    obtain ⟨h1, h2, h3⟩ := hx x (by simp)
    have hst : ∃ M', M'.length = 64 * m ∧ crash1 keep torn o i x (P ++ (M ++ R)) = P ++ (M' ++ R) := by
      unfold crash1
      split
      · have hb : (x.b.take o).length ≤ 64 := by rw [List.length_take]; omega
        exact ⟨_, by rw [length_splice _ _ _ (by omega)]; exact hM, lay_mid P M R k m x.k _ hP hM h1 (by omega)⟩
      · split
        · exact ⟨_, by rw [length_splice _ _ _ (by omega)]; exact hM, lay_mid P M R k m x.k _ hP hM h1 (by omega)⟩
        · exact ⟨M, hM, rfl⟩
    obtain ⟨M', hM', e⟩ := hst
    rw [crash, e]
    exact crash_mid P R k m hP keep torn o ws (i + 1) M' hM' (fun y hy => hx y (by simp [hy]))

/-- The writes of whole sectors. -/
def wts (k : Nat) (l : List UInt8) : List Wt := (List.range (l.length / 64)).map fun i => ⟨k + i, sec l i⟩
theorem secs_wts (k : Nat) (l : List UInt8) : secs k l = (wts k l).map .wr := by simp [secs, wts, Function.comp_def]
theorem wts_ok (k m : Nat) (l : List UInt8) (hl : l.length = 64 * m) : ∀ x ∈ wts k l, k ≤ x.k ∧ x.k < k + m ∧ x.b.length = 64 := by
  intro x hx
  obtain ⟨i, hi, rfl⟩ := List.mem_map.1 hx
  have hi := List.mem_range.1 hi
  have : i < m := by omega
  exact ⟨by simp, by simpa using this, sec_length hl this⟩

theorem take_sec (l : List UInt8) (j : Nat) : l.take (64 * j) ++ sec l j = l.take (64 * (j + 1)) := by
  unfold sec
  rw [show 64 * (j + 1) = 64 * j + 64 by omega, List.take_add]

theorem image_mid (P R l : List UInt8) (k m : Nat) (hP : P.length = 64 * k) (hl : l.length = 64 * m) (M : List UInt8) (hM : M.length = 64 * m) : ∀ j, j ≤ m →
    image (P ++ (M ++ R)) ((List.range j).map fun i => (⟨k + i, sec l i⟩ : Wt)) = P ++ ((l.take (64 * j) ++ M.drop (64 * j)) ++ R) := by
  intro j
  induction j with
  | zero => intro _; simp [image]
  | succ j ih =>
    intro hj
    have hs : (sec l j).length = 64 := sec_length hl (by omega)
    rw [List.range_succ, List.map_append, List.map_singleton, image_snoc, ih (by omega)]
    have hlen : (l.take (64 * j) ++ M.drop (64 * j)).length = 64 * m := by simp; omega
    rw [lay_mid P _ R k m (k + j) (sec l j) hP hlen (by omega) (by omega), show k + j - k = j by omega]
    congr 2
    unfold splice
    have ht : (l.take (64 * j)).length = 64 * j := by simp; omega
    rw [List.take_append_of_le_length (by omega), List.take_of_length_le (by omega), List.drop_append, List.drop_eq_nil_of_le (by omega), List.nil_append, List.drop_drop, hs, ht, ← List.append_assoc, take_sec]
    congr 2
    omega

theorem image_wts (P R l : List UInt8) (k m : Nat) (hP : P.length = 64 * k) (hl : l.length = 64 * m) (M : List UInt8) (hM : M.length = 64 * m) : image (P ++ (M ++ R)) (wts k l) = P ++ (l ++ R) := by
  unfold wts
  rw [show l.length / 64 = m by omega, image_mid P R l k m hP hl M hM m (Nat.le_refl _), List.take_of_length_le (by omega), List.drop_eq_nil_of_le (by omega), List.append_nil]

/-- Some writes: so many of them wait, or all do. -/
theorem run_wrs : ∀ (ws ws0 : List Wt) (base : List UInt8) (c : Int), (∃ j, DS.run (ws.map .wr) ⟨base, ws0, c⟩ = (⟨base, ws0 ++ ws.take j, 0⟩, 20)) ∨ (∃ c', (c < 0 → c' < 0) ∧ DS.run (ws.map .wr) ⟨base, ws0, c⟩ = (⟨base, ws0 ++ ws, c'⟩, 0))
  | [], ws0, base, c => .inr ⟨c, id, by simp [DS.run]⟩
  | x :: ws, ws0, base, c => by
    simp only [List.map_cons, DS.run]
    by_cases h : c = 0
    · left; exact ⟨0, by simp [h]⟩
    · rw [if_neg h]
      simp only [DS.app]
      rcases run_wrs ws (ws0 ++ [x]) base (less c) with ⟨j, e⟩ | ⟨c', hc, e⟩
      · left; exact ⟨j + 1, by rw [e]; simp⟩
      · right; exact ⟨c', fun h0 => hc (by unfold less; rw [if_neg (by omega)]; exact h0), by rw [e]; simp⟩

/-- A block of writes and a Sync: the power fails behind some of them, or all is sure. -/
theorem run_blk (k : Nat) (l base : List UInt8) (c : Int) (rest : List Jop) : (∃ j, DS.run (blk k l ++ rest) ⟨base, [], c⟩ = (⟨base, (wts k l).take j, 0⟩, 20) ∧ ¬ c < 0) ∨
    (∃ c', (c < 0 → c' < 0) ∧ DS.run (blk k l ++ rest) ⟨base, [], c⟩ = DS.run rest ⟨image base (wts k l), [], c'⟩) := by
  unfold blk
  rw [secs_wts, List.append_assoc, DS.run_append]
  rcases run_wrs (wts k l) [] base c with ⟨j, e⟩ | ⟨c', hc, e⟩
  · rw [e]
    left
    refine ⟨j, by simp, ?_⟩
    intro h
    have : ∀ (ws ws0 : List Wt) (c : Int), c < 0 → (DS.run (ws.map .wr) ⟨base, ws0, c⟩).2 = 0 := by
      intro ws
      induction ws with
      | nil => intro _ _ _; rfl
      | cons x ws ih =>
        intro ws0 c hc
        simp only [List.map_cons, DS.run]
        rw [if_neg (by omega)]
        exact ih _ _ (by show less c < 0; unfold less; rw [if_neg (by omega)]; exact hc)
    have := this (wts k l) [] c h
    rw [e] at this
    cases this
  · rw [e]
    simp only [List.nil_append, if_true, List.cons_append, DS.run]
    by_cases h : c' = 0
    · left
      refine ⟨(wts k l).length, by simp [h], fun h0 => by have := hc h0; omega⟩
    · right
      rw [if_neg h]
      exact ⟨less c', fun h0 => by have := hc h0; unfold less; rw [if_neg (by omega)]; exact this, rfl⟩

theorem run_blk' (k : Nat) (l base : List UInt8) (c : Int) : (∃ j, DS.run (blk k l) ⟨base, [], c⟩ = (⟨base, (wts k l).take j, 0⟩, 20) ∧ ¬ c < 0) ∨
    (∃ c', (c < 0 → c' < 0) ∧ DS.run (blk k l) ⟨base, [], c⟩ = (⟨image base (wts k l), [], c'⟩, 0)) := by
  have := run_blk k l base c []
  simpa [DS.run] using this

/-- The four parts of a disk's bytes. -/
def J4 (hd jr hm rest : List UInt8) : List UInt8 := hd ++ (jr ++ (hm ++ rest))

section
variable {n : Nat} {hd jr hm rest : List UInt8}

theorem J4.hd_eq (h1 : hd.length = 64) : hdL (J4 hd jr hm rest) = hd := by
  unfold hdL J4; rw [List.take_append_of_le_length (by omega), List.take_of_length_le (by omega)]
theorem J4.jr_eq (h1 : hd.length = 64) (h2 : jr.length = 64 * areaN n) : jrL n (J4 hd jr hm rest) = jr := by
  unfold jrL J4; rw [← h2, List.drop_append, List.drop_eq_nil_of_le (by omega), h1]; simp
theorem J4.hm_eq (h1 : hd.length = 64) (h2 : jr.length = 64 * areaN n) (h3 : hm.length = 64 * areaN n) : hmL n (J4 hd jr hm rest) = hm := by
  unfold hmL J4; rw [← List.append_assoc, show 64 + 64 * areaN n = (hd ++ jr).length by simp; omega, List.drop_left, ← h3, List.take_left]

theorem J4.of (im : List UInt8) : im = J4 (hdL im) (jrL n im) (hmL n im) (im.drop (64 + 64 * areaN n + 64 * areaN n)) := by
  unfold J4 hdL jrL hmL
  rw [← List.drop_drop (i := 64 * areaN n) (j := 64 + 64 * areaN n)]
  rw [List.take_append_drop, ← List.drop_drop (i := 64 * areaN n), List.take_append_drop, List.take_append_drop]

/-- A crash while the header is written: some first bytes of the new one. -/
theorem crash_head (h1 : hd.length = 64) (h : List UInt8) (hh : h.length = 64) (keep : List Bool) (torn octets : Int) (j : Nat) :
    ∃ o, o ≤ 64 ∧ crash keep torn (octs octets) 0 ((wts 0 h).take j) (J4 hd jr hm rest) = J4 (h.take o ++ hd.drop o) jr hm rest := by
  have ew : wts 0 h = [⟨0, h⟩] := by
    unfold wts
    rw [hh]
    simp [sec, List.take_of_length_le (Nat.le_of_eq hh)]
  rw [ew]
  have hl : ∀ o, lay (J4 hd jr hm rest) 0 (h.take o) = J4 (h.take (min o 64) ++ hd.drop (min o 64)) jr hm rest := by
    intro o
    unfold lay splice J4
    have : (h.take o).length = min o 64 := by rw [List.length_take, hh]
    rw [this, Nat.mul_zero, List.take_zero, List.nil_append, Nat.zero_add, List.drop_append_of_le_length (by omega), ← List.append_assoc]
    congr 2
    by_cases ho : o ≤ 64
    · rw [Nat.min_eq_left ho]
    · rw [Nat.min_eq_right (by omega), List.take_of_length_le (by omega), List.take_of_length_le (by omega)]
  rcases j with _ | j
  · exact ⟨0, by omega, by simp [crash]⟩
  · simp only [List.take_succ_cons, List.take_nil, crash]
    unfold crash1
    split
    · exact ⟨_, Nat.min_le_right _ _, hl _⟩
    · split
      · refine ⟨64, by omega, ?_⟩
        have := hl 64
        rw [List.take_of_length_le (by omega)] at this
        simp only [Nat.min_self] at this
        rw [List.take_of_length_le (by omega)]
        exact this.trans (by rw [List.take_of_length_le (by omega)])
      · exact ⟨0, by omega, by simp⟩

theorem image_head (h1 : hd.length = 64) (h : List UInt8) (hh : h.length = 64) : image (J4 hd jr hm rest) (wts 0 h) = J4 h jr hm rest := image_wts [] _ h 0 1 rfl hh hd h1
theorem image_jr (h1 : hd.length = 64) (h2 : jr.length = 64 * areaN n) (f : List UInt8) (hf : f.length = 64 * areaN n) : image (J4 hd jr hm rest) (wts 1 f) = J4 hd f hm rest := image_wts hd _ f 1 (areaN n) h1 hf jr h2
theorem image_hm (h1 : hd.length = 64) (h2 : jr.length = 64 * areaN n) (h3 : hm.length = 64 * areaN n) (f : List UInt8) (hf : f.length = 64 * areaN n) : image (J4 hd jr hm rest) (wts (1 + areaN n) f) = J4 hd jr f rest := by
  have := image_wts (hd ++ jr) rest f (1 + areaN n) (areaN n) (by simp; omega) hf hm h3
  simpa [J4] using this

theorem crash_jr (h1 : hd.length = 64) (h2 : jr.length = 64 * areaN n) (f : List UInt8) (hf : f.length = 64 * areaN n) (keep : List Bool) (torn : Int) (o j : Nat) :
    ∃ jr', jr'.length = 64 * areaN n ∧ crash keep torn o 0 ((wts 1 f).take j) (J4 hd jr hm rest) = J4 hd jr' hm rest :=
  crash_mid hd (hm ++ rest) 1 (areaN n) h1 keep torn o _ 0 jr h2 (fun x hx => wts_ok 1 _ f hf x (List.mem_of_mem_take hx))
theorem crash_hm (h1 : hd.length = 64) (h2 : jr.length = 64 * areaN n) (h3 : hm.length = 64 * areaN n) (f : List UInt8) (hf : f.length = 64 * areaN n) (keep : List Bool) (torn : Int) (o j : Nat) :
    ∃ hm', hm'.length = 64 * areaN n ∧ crash keep torn o 0 ((wts (1 + areaN n) f).take j) (J4 hd jr hm rest) = J4 hd jr hm' rest := by
  obtain ⟨M, hM, e⟩ := crash_mid (hd ++ jr) rest (1 + areaN n) (areaN n) (by simp; omega) keep torn o ((wts (1 + areaN n) f).take j) 0 hm h3 (fun x hx => wts_ok _ _ f hf x (List.mem_of_mem_take hx))
  refine ⟨M, hM, ?_⟩
  simpa [J4] using e

end

/-- The first seven bytes of every header, and the eighth. -/
def head7 : List UInt8 := bigB 4 1297043028 ++ [0, 0, 0]
theorem preL_eq (m u : Nat) (hm : m < 256) : preL m u = head7 ++ (UInt8.ofNat m :: (le4 u ++ List.replicate 48 0)) := by
  unfold preL head7
  have : bigB 4 m = [0, 0, 0, UInt8.ofNat m] := by
    simp only [bigB]
    have e1 : m / 256 = 0 := by omega
    have e2 : m / 65536 = 0 := by omega
    have e3 : m / 16777216 = 0 := by omega
    simp [e1, e2, e3]
  rw [this]; simp
theorem headL_eq (m u : Nat) (hm : m < 256) : headL m u = head7 ++ (UInt8.ofNat m :: (le4 u ++ List.replicate 48 0 ++ le4 (sumN (preL m u)))) := by
  unfold headL sealL
  rw [preL_eq m u hm]; simp
theorem head7_length : head7.length = 7 := by simp [head7, bigB_length]
theorem headL_7 (m u : Nat) (hm : m < 256) : (headL m u).take 7 = head7 := by rw [headL_eq m u hm, ← head7_length, List.take_left]
theorem headL_at7 (m u : Nat) (hm : m < 256) : (headL m u)[7]? = some (UInt8.ofNat m) := by
  rw [headL_eq m u hm, List.getElem?_append_right (by rw [head7_length]; omega), head7_length]; simp
theorem headL_ne (u v : Nat) : headL 0 u ≠ headL 1 v := fun e => by
  have h0 := headL_at7 0 u (by omega)
  have h1 := headL_at7 1 v (by omega)
  rw [e, h1] at h0
  simp at h0
theorem hsum_head (m u : Nat) (hu : u < 4294967296) : hsum (headL m u) = u := by
  have : ((headL m u).drop 8).take 4 = le4 u := by
    unfold headL sealL preL
    have h8 : (bigB 4 1297043028 ++ bigB 4 m).length = 8 := by simp [bigB_length]
    have h4 : (le4 u).length = 4 := rfl
    rw [List.append_assoc, List.append_assoc, ← h8, List.drop_left, List.append_assoc, ← h4, List.take_left]
  unfold hsum
  rw [this, leN_le4 hu]

/-- A header that is torn. -/
theorem torn_7 (h g : List UInt8) (o : Nat) (hh : h.take 7 = head7) (hg : g.take 7 = head7) (_hl : g.length = 64) (hhl : h.length = 64) : (h.take o ++ g.drop o).take 7 = head7 := by
  by_cases ho : 7 ≤ o
  · rw [List.take_append_of_le_length (by rw [List.length_take]; omega), List.take_take, Nat.min_eq_left ho, hh]
  · have e1 : h.take o = g.take o := by
      have := congrArg (List.take o) (hh.trans hg.symm)
      rwa [List.take_take, List.take_take, Nat.min_eq_left (by omega)] at this
    rw [e1, List.take_append_drop, hg]

/-- No torn header of mark 0 over one that asks for nothing asks for something. -/
theorem torn_ne (u v o : Nat) (g : List UInt8) (hg : g.take 7 = head7) (_hl : g.length = 64) (hne : g ≠ headL 1 v) : (headL 0 u).take o ++ g.drop o ≠ headL 1 v := by
  intro e
  by_cases ho : o ≤ 7
  · apply hne
    rw [← e]
    have e1 : (headL 0 u).take o = g.take o := by
      have := congrArg (List.take o) ((headL_7 0 u (by omega)).trans hg.symm)
      rwa [List.take_take, List.take_take, Nat.min_eq_left ho] at this
    rw [e1, List.take_append_drop]
  · have h1 := headL_at7 1 v (by omega)
    rw [← e, List.getElem?_append_left (by rw [List.length_take, headL_length]; omega), List.getElem?_take, if_pos (by omega), headL_at7 0 u (by omega)] at h1
    simp at h1

/-- A text is there, and nothing is to be done. -/
def JQ (n : Nat) (t base : List UInt8) : Prop := ∃ u jr rest, u < 4294967296 ∧ jr.length = 64 * areaN n ∧ base = J4 (headL 0 u) jr (formL (areaN n) t) rest
/-- One of two texts is there, or will be by Recover. -/
def JI (n : Nat) (old new base : List UInt8) : Prop := ∃ hd jr hm rest, hd.length = 64 ∧ jr.length = 64 * areaN n ∧ hm.length = 64 * areaN n ∧ base = J4 hd jr hm rest ∧
  ((hd = headL 1 (sumN jr) ∧ jr = formL (areaN n) new) ∨ (hd ≠ headL 1 (sumN jr) ∧ hd.take 7 = head7 ∧ (hm = formL (areaN n) old ∨ hm = formL (areaN n) new)))

def fitT (n : Nat) (t : List UInt8) : Prop := areaN n ≠ 0 ∧ 12 + t.length ≤ 64 * areaN n

theorem JQ.ji {n : Nat} {t base : List UInt8} (ht : fitT n t) (h : JQ n t base) : JI n t t base := by
  obtain ⟨u, jr, rest, hu, hj, rfl⟩ := h
  exact ⟨_, jr, _, rest, headL_length _ _, hj, formL_length _ _ (by have := ht.2; omega), rfl, .inr ⟨headL_ne _ _, headL_7 _ _ (by omega), .inl rfl⟩⟩
theorem JI.right {n : Nat} {old new base : List UInt8} (h : JI n new new base) : JI n old new base := by
  obtain ⟨hd, jr, hm, rest, h1, h2, h3, h4, h5⟩ := h
  exact ⟨hd, jr, hm, rest, h1, h2, h3, h4, h5.imp id (fun ⟨a, b, c⟩ => ⟨a, b, .inr (c.elim id id)⟩)⟩
/-- What is left of a call on a disk: any crash, and what holds if it was OK. -/
def JDone (P I : List UInt8 → Prop) (c : Int) (r : DS × Int) : Prop :=
  (∀ keep torn octets, I (crash keep torn (octs octets) 0 r.1.ws r.1.base)) ∧ (r.2 = 0 → r.1.ws = [] ∧ P r.1.base) ∧ (c < 0 → r.2 = 0)
theorem JDone.err {P I : List UInt8 → Prop} {c : Int} (base : List UInt8) (ws : List Wt) (hc : ¬ c < 0) (h : ∀ keep torn octets, I (crash keep torn (octs octets) 0 ws base)) : JDone P I c (⟨base, ws, 0⟩, 20) :=
  ⟨h, fun h => by simp at h, fun h => (hc h).elim⟩
theorem JDone.ok {P I : List UInt8 → Prop} {c : Int} (base : List UInt8) (c' : Int) (h : I base) (hP : P base) : JDone P I c (⟨base, [], c'⟩, 0) :=
  ⟨fun _ _ _ => h, fun _ => ⟨rfl, hP⟩, fun _ => rfl⟩
theorem JDone.mono {P P' I : List UInt8 → Prop} {c c' : Int} {r : DS × Int} (h : JDone P I c r) (hP : ∀ b, P b → P' b) (hc : c' < 0 → c < 0) : JDone P' I c' r :=
  ⟨h.1, fun e => ⟨(h.2.1 e).1, hP _ (h.2.1 e).2⟩, fun e => h.2.2 (hc e)⟩

/-- Home, and the header with mark 0: from a header that asks for the journal. -/
theorem home_run {n : Nat} {old new : List UInt8} (hn : fitT n new) (hm rest : List UInt8) (h3 : hm.length = 64 * areaN n) (c : Int) :
    JDone (JQ n new) (JI n old new) c (DS.run (homeOps n (formL (areaN n) new)) ⟨J4 (headL 1 (sumN (formL (areaN n) new))) (formL (areaN n) new) hm rest, [], c⟩) := by
  have hf : (formL (areaN n) new).length = 64 * areaN n := formL_length _ _ (by have := hn.2; omega)
  have hu := sumN_lt (formL (areaN n) new)
  generalize hF : formL (areaN n) new = F at *
  generalize hU : sumN F = u at *
  have h1 := headL_length 1 u
  unfold homeOps
  rw [hU]
  rcases run_blk (1 + areaN n) F (J4 (headL 1 u) F hm rest) c (blk 0 (headL 0 u)) with ⟨j, e, hc⟩ | ⟨c', hc, e⟩
  · rw [e]
    refine JDone.err _ _ hc (fun keep torn octets => ?_)
    obtain ⟨hm', hl, e2⟩ := crash_hm (n := n) (rest := rest) h1 hf h3 F hf keep torn (octs octets) j
    rw [e2]
    exact ⟨_, _, _, _, h1, hf, hl, rfl, .inl ⟨by rw [hU], hF.symm⟩⟩
  · rw [image_hm h1 hf h3 F hf] at e
    rcases run_blk' 0 (headL 0 u) (J4 (headL 1 u) F F rest) c' with ⟨j, e2, hc2⟩ | ⟨c2, hc2, e2⟩
    · rw [e2] at e
      rw [e]
      refine JDone.err _ _ (fun h => hc2 (hc h)) (fun keep torn octets => ?_)
      obtain ⟨o, ho, e3⟩ := crash_head (jr := F) (hm := F) (rest := rest) h1 (headL 0 u) (headL_length _ _) keep torn octets j
      rw [e3]
      have hlen : ((headL 0 u).take o ++ (headL 1 u).drop o).length = 64 := by simp [headL_length]; omega
      refine ⟨_, _, _, _, hlen, hf, hf, rfl, ?_⟩
      by_cases hq : (headL 0 u).take o ++ (headL 1 u).drop o = headL 1 (sumN F)
      · exact .inl ⟨hq, hF.symm⟩
      · exact .inr ⟨hq, torn_7 _ _ _ (headL_7 _ _ (by omega)) (headL_7 _ _ (by omega)) h1 (headL_length _ _), .inr hF.symm⟩
    · rw [e2] at e
      rw [e, image_head h1 _ (headL_length _ _)]
      have hQ : JQ n new (J4 (headL 0 u) F F rest) := ⟨u, F, rest, hu, hf, by rw [hF]⟩
      exact JDone.ok _ _ (hQ.ji hn).right hQ

/-- Put. -/
theorem put_run {n : Nat} {old new base : List UInt8} (ho : fitT n old) (hn : fitT n new) (hQ : JQ n old base) (c : Int) :
    JDone (JQ n new) (JI n old new) c (jput n new ⟨base, [], c⟩) := by
  obtain ⟨u, jr, rest, hu, hj, rfl⟩ := hQ
  have hf : (formL (areaN n) new).length = 64 * areaN n := formL_length _ _ (by have := hn.2; omega)
  have hfo : (formL (areaN n) old).length = 64 * areaN n := formL_length _ _ (by have := ho.2; omega)
  have e0 : ∀ s, jput n new s = s.run (putOps n new) := fun s => by unfold jput; rw [if_neg (by rw [jfits_zero.2 hn]; simp)]
  rw [e0]
  unfold putOps
  have h1 := headL_length 0 u
  rcases run_blk 1 (formL (areaN n) new) (J4 (headL 0 u) jr (formL (areaN n) old) rest) c (blk 0 (headL 1 (sumN (formL (areaN n) new))) ++ homeOps n (formL (areaN n) new)) with ⟨j, e, hc⟩ | ⟨c', hc, e⟩
  · rw [e]
    refine JDone.err _ _ hc (fun keep torn octets => ?_)
    obtain ⟨jr', hl, e2⟩ := crash_jr (n := n) (hm := formL (areaN n) old) (rest := rest) h1 hj _ hf keep torn (octs octets) j
    rw [e2]
    exact ⟨_, _, _, _, h1, hl, hfo, rfl, .inr ⟨headL_ne _ _, headL_7 _ _ (by omega), .inl rfl⟩⟩
  · rw [image_jr h1 hj _ hf] at e
    rcases run_blk 0 (headL 1 (sumN (formL (areaN n) new))) (J4 (headL 0 u) (formL (areaN n) new) (formL (areaN n) old) rest) c' (homeOps n (formL (areaN n) new)) with ⟨j, e2, hc2⟩ | ⟨c2, hc2, e2⟩
    · rw [e2] at e
      rw [e]
      refine JDone.err _ _ (fun h => hc2 (hc h)) (fun keep torn octets => ?_)
      obtain ⟨o, hol, e3⟩ := crash_head (jr := formL (areaN n) new) (hm := formL (areaN n) old) (rest := rest) h1 (headL 1 (sumN (formL (areaN n) new))) (headL_length _ _) keep torn octets j
      rw [e3]
      generalize sumN (formL (areaN n) new) = v at *
      have hlen : ((headL 1 v).take o ++ (headL 0 u).drop o).length = 64 := by simp [headL_length]; omega
      refine ⟨_, _, _, _, hlen, hf, hfo, rfl, ?_⟩
      by_cases hq : (headL 1 v).take o ++ (headL 0 u).drop o = headL 1 (sumN (formL (areaN n) new))
      · exact .inl ⟨hq, rfl⟩
      · exact .inr ⟨hq, torn_7 _ _ _ (headL_7 _ _ (by omega)) (headL_7 _ _ (by omega)) h1 (headL_length _ _), .inl rfl⟩
    · rw [image_head h1 _ (headL_length _ _)] at e2
      rw [e, e2]
      exact (home_run (old := old) hn (formL (areaN n) old) rest hfo c2).mono (fun _ h => h) (fun h => hc2 (hc h))

/-- Recover. -/
theorem rec_run {n : Nat} {old new base : List UInt8} (h0 : areaN n ≠ 0) (hn : fitT n new) (hI : JI n old new base) (c : Int) :
    JDone (fun b => JQ n old b ∨ JQ n new b) (JI n old new) c (jrec n ⟨base, [], c⟩) := by
  have hI0 := hI
  obtain ⟨hd, jr, hm, rest, h1, h2, h3, rfl, h5⟩ := hI
  have e0 : jrec n ⟨J4 hd jr hm rest, [], c⟩ = DS.run (recOps n (J4 hd jr hm rest)) ⟨J4 hd jr hm rest, [], c⟩ := by unfold jrec; rw [if_neg h0]; rfl
  rw [e0]
  unfold recOps
  rw [J4.hd_eq h1, J4.jr_eq h1 h2]
  rcases h5 with ⟨ha, hb⟩ | ⟨ha, hb, hc⟩
  · rw [if_neg (fun e => headL_ne (hsum hd) (sumN jr) (by rw [← e, ha])), if_pos ha]
    have := home_run (old := old) hn hm rest h3 c
    rw [← hb, ← ha] at this
    exact this.mono (fun _ h => .inr h) id
  · by_cases hq : hd = headL 0 (hsum hd)
    · rw [if_pos hq]
      refine JDone.ok _ _ hI0 ?_
      have hlt : hsum hd < 4294967296 := by
        unfold hsum
        refine Nat.lt_of_lt_of_le (leN_lt _) ?_
        have : ((hd.drop 8).take 4).length ≤ 4 := by rw [List.length_take]; omega
        exact Nat.le_trans (Nat.pow_le_pow_right (by omega) (show 8 * ((hd.drop 8).take 4).length ≤ 32 by omega)) (by decide)
      rcases hc with rfl | rfl
      · exact .inl ⟨_, jr, rest, hlt, h2, by rw [← hq]⟩
      · exact .inr ⟨_, jr, rest, hlt, h2, by rw [← hq]⟩
    · rw [if_neg hq, if_neg ha]
      rcases run_blk' 0 (headL 0 0) (J4 hd jr hm rest) c with ⟨j, e2, hc2⟩ | ⟨c2, hc2, e2⟩
      · rw [e2]
        refine JDone.err _ _ hc2 (fun keep torn octets => ?_)
        obtain ⟨o, hol, e3⟩ := crash_head (jr := jr) (hm := hm) (rest := rest) h1 (headL 0 0) (headL_length _ _) keep torn octets j
        rw [e3]
        have hlen : ((headL 0 0).take o ++ hd.drop o).length = 64 := by simp [headL_length]; omega
        exact ⟨_, _, _, _, hlen, h2, h3, rfl, .inr ⟨torn_ne _ _ _ _ hb h1 ha, torn_7 _ _ _ (headL_7 _ _ (by omega)) hb h1 (headL_length _ _), hc⟩⟩
      · rw [e2, image_head h1 _ (headL_length _ _)]
        refine JDone.ok _ _ ?_ ?_
        · exact ⟨_, _, _, _, headL_length _ _, h2, h3, rfl, .inr ⟨headL_ne _ _, headL_7 _ _ (by omega), hc⟩⟩
        · rcases hc with rfl | rfl
          · exact .inl ⟨0, jr, rest, by omega, h2, rfl⟩
          · exact .inr ⟨0, jr, rest, by omega, h2, rfl⟩

/-- Behind one that was OK, Recover changes nothing. -/
theorem rec_again {n : Nat} {t base : List UInt8} (h0 : areaN n ≠ 0) (h : JQ n t base) (c : Int) : jrec n ⟨base, [], c⟩ = (⟨base, [], c⟩, 0) := by
  obtain ⟨u, jr, rest, hu, hj, rfl⟩ := h
  have e : recOps n (J4 (headL 0 u) jr (formL (areaN n) t) rest) = [] := by
    unfold recOps
    rw [J4.hd_eq (headL_length _ _), if_pos (by rw [hsum_head 0 u hu])]
  unfold jrec
  rw [if_neg h0]
  simp only [image, List.foldl_nil, e, DS.run]

/-- The text that is there. -/
theorem get_there {n : Nat} {t base : List UInt8} (hn : n ≤ 65536) (ht : fitT n t) (h : JQ n t base) : jget n base = (t, 0) := by
  obtain ⟨u, jr, rest, hu, hj, rfl⟩ := h
  have hf : (formL (areaN n) t).length = 64 * areaN n := formL_length _ _ (by have := ht.2; omega)
  have ha : areaN n ≤ 32767 := by unfold areaN; omega
  unfold jget
  rw [if_neg ht.1, J4.hm_eq (headL_length _ _) hj hf]
  have e4 : (formL (areaN n) t).take 4 = bigB 4 t.length := by unfold formL; rw [List.append_assoc]; exact (take_big _ _ _).1
  have e5 : (formL (areaN n) t).drop 4 = t ++ List.replicate (64 * areaN n - 4 - t.length) 0 := by unfold formL; rw [List.append_assoc]; exact (take_big _ _ _).2
  have e6 : natB (bigB 4 t.length) = t.length := by rw [natB_bigB]; exact Nat.mod_eq_of_lt (by have := ht.2; omega)
  rw [e4, e5, e6, if_neg (by have := ht.2; omega), List.take_left]

/-- Format. -/
theorem format_run {n : Nat} {t base : List UInt8} (hb : base.length = 64 * n) (ht : fitT n t) (c : Int) (hc : c < 0) :
    let r := jformat n t ⟨base, [], c⟩
    r.2 = 0 ∧ r.1.ws = [] ∧ r.1.calls < 0 ∧ JQ n t r.1.base := by
  have hf : (formL (areaN n) t).length = 64 * areaN n := formL_length _ _ (by have := ht.2; omega)
  have ha := areaN_le ht.1
  have e0 : ∀ s, jformat n t s = s.run (formatOps n t) := fun s => by unfold jformat; rw [if_neg (by rw [jfits_zero.2 ht]; simp)]
  rw [e0, J4.of (n := n) base]
  have h1 : (hdL base).length = 64 := by unfold hdL; rw [List.length_take]; omega
  have h2 := jrL_length (n := n) hb
  have h3 := hmL_length (n := n) hb
  unfold formatOps
  rcases run_blk (1 + areaN n) (formL (areaN n) t) (J4 (hdL base) (jrL n base) (hmL n base) (base.drop (64 + 64 * areaN n + 64 * areaN n))) c (blk 0 (headL 0 0)) with ⟨j, e, hc'⟩ | ⟨c', hc', e⟩
  · exact (hc' hc).elim
  · rw [e, image_hm h1 h2 h3 _ hf]
    rcases run_blk' 0 (headL 0 0) (J4 (hdL base) (jrL n base) (formL (areaN n) t) (base.drop (64 + 64 * areaN n + 64 * areaN n))) c' with ⟨j, e2, hc2⟩ | ⟨c2, hc2, e2⟩
    · exact (hc2 (hc' hc)).elim
    · simp only [e2]
      rw [image_head h1 _ (headL_length _ _)]
      exact ⟨trivial, trivial, hc2 (hc' hc), 0, _, _, by omega, h2, rfl⟩

end Go.Proofs.YtgefbolnfenfcaaGreat
