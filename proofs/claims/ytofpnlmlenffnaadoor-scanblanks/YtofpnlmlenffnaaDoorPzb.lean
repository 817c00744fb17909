/-
  SELECTORS AND GAPS as a program finds them (plain, over no program): the longest selector at a text's head by its words; what stands between tokens; the tokens ahead of an error, one more at a time.
-/
import Derived.Test.YtofpnlmlenffnaaDoorGR12a
import Derived.Test.YtofpnlmlenffnaaDoorPz8
import Derived.Lib.Atoi
namespace Go.Mk

/-! ### Keywords -/

theorem cut_word : ∀ (t : List UInt8) (st : List (List UInt8) × List UInt8), (∀ c ∈ t, c ≠ 58) → t.foldl cutS st = (st.1, st.2 ++ t)
  | [], st, _ => by simp
  | c :: t, st, h => by
    rw [List.foldl_cons, cut_word t _ (fun x hx => h x (by simp [hx]))]
    have hc := h c (by simp)
    simp [cutS, hc]

theorem cutL_split (l : List UInt8) (e : Nat) : cutL l = (l.drop e).foldl cutS (cutL (l.take e)) := by
  unfold cutL
  rw [← List.foldl_append, List.take_append_drop]

theorem word_58 {c : UInt8} (h : wordB c = true) : c ≠ 58 := by
  rintro rfl
  revert h
  decide

theorem wordB_aln (c : UInt8) : wordB c = aln c := by
  simp only [wordB, lett, digB, aln, alnI, low, upp]

theorem kind3 {l : List UInt8} (h : kindL l = 3) : isUn l = false ∧ isBi l = false ∧ kwL l ≠ [] := by
  unfold kindL at h
  by_cases h1 : isUn l = true
  · rw [if_pos h1] at h; omega
  · rw [if_neg h1] at h
    by_cases h2 : isBi l = true
    · rw [if_pos h2] at h; omega
    · rw [if_neg h2] at h
      by_cases h3 : kwL l = []
      · rw [if_pos h3] at h; omega
      · exact ⟨by simpa using h1, by simpa using h2, h3⟩

theorem kwL_parts {l : List UInt8} (h : kwL l ≠ []) : (cutL l).2 = [] ∧ (cutL l).1.length ≤ 10 ∧ (cutL l).1.all goodP = true := by
  unfold kwL at h
  split at h
  · assumption
  · exact (h rfl).elim

theorem un_len {l : List UInt8} (h : isUn l = true) : l.length ≤ 40 := by
  simp only [isUn, isNm, lenIn, Bool.and_eq_true, decide_eq_true_eq] at h
  omega

theorem un_low {l : List UInt8} (h : isUn l = true) : l ≠ [] ∧ low (l.headD 0) = true := by
  simp only [isUn, isNm, lenIn, Bool.and_eq_true, decide_eq_true_eq] at h
  exact ⟨fun e => by rw [e] at h; simp at h, h.2⟩

theorem flat_len : ∀ (ps : List (List UInt8)), (∀ p ∈ ps, p.length ≤ 41) → ps.flatten.length ≤ 41 * ps.length
  | [], _ => by simp
  | p :: ps, h => by
    have h1 := h p (by simp)
    have h2 := flat_len ps (fun q hq => h q (by simp [hq]))
    simp only [List.flatten_cons, List.length_append, List.length_cons]
    omega

theorem kind_len {l : List UInt8} (h : 0 < kindL l) : l.length ≤ 410 := by
  by_cases h1 : isUn l = true
  · have := un_len h1; omega
  · by_cases h2 : isBi l = true
    · simp only [isBi, lenIn, Bool.and_eq_true, decide_eq_true_eq] at h2; omega
    · have h3 : kwL l ≠ [] := by
        intro e
        unfold kindL at h
        rw [if_neg h1, if_neg h2, if_pos e] at h
        omega
      have hp := kwL_parts h3
      have hf := cutL_flat l
      rw [hp.1, List.append_nil] at hf
      have h4 := flat_len (cutL l).1 (fun p hp' => by
        have hg := List.all_eq_true.1 hp.2.2 p hp'
        have := un_len (l := p.dropLast) hg
        rw [List.length_dropLast] at this
        omega)
      rw [hf] at h4
      have := hp.2.1
      omega

theorem marks_ne {c : UInt8} (h : marks.contains c = true) : lett c = false ∧ digB c = false ∧ c ≠ 58 := by
  simp only [marks, List.contains_eq_mem, decide_eq_true_eq, List.mem_cons, List.not_mem_nil, or_false] at h
  rcases h with rfl | rfl | rfl | rfl | rfl | rfl | rfl | rfl | rfl | rfl | rfl | rfl <;> decide

theorem bi_head {l : List UInt8} (h : isBi l = true) : l ≠ [] ∧ lett (l.headD 0) = false ∧ digB (l.headD 0) = false := by
  simp only [isBi, lenIn, Bool.and_eq_true, decide_eq_true_eq, List.all_eq_true] at h
  cases l with
  | nil => exact absurd h.1.1 (by decide)
  | cons c r => exact ⟨by simp, (marks_ne (h.2 c (by simp))).1, (marks_ne (h.2 c (by simp))).2.1⟩

theorem low_lett {c : UInt8} (h : low c = true) : lett c = true := by simp [lett, h]

/-- A keyword selector begins with a letter. -/
theorem kw_letter {l : List UInt8} (h : kwL l ≠ []) : l ≠ [] ∧ lett (l.headD 0) = true := by
  have hp := kwL_parts h
  have hf := cutL_flat l
  rw [hp.1, List.append_nil] at hf
  cases hc : (cutL l).1 with
  | nil =>
    rw [hc] at hf
    exfalso
    apply h
    unfold kwL
    rw [hc]
    simp
  | cons p ps =>
    rw [hc] at hf
    have hg := List.all_eq_true.1 hp.2.2 p (by rw [hc]; simp)
    obtain ⟨h1, h2⟩ := un_low (l := p.dropLast) hg
    cases p with
    | nil => exact (h1 rfl).elim
    | cons c q =>
      rw [← hf]
      refine ⟨by simp, ?_⟩
      cases q with
      | nil => exact (h1 rfl).elim
      | cons d q => exact low_lett (by simpa using h2)

theorem kind_letter {l : List UInt8} (h : 0 < kindL l) (hb : isBi l = false) : l ≠ [] ∧ lett (l.headD 0) = true := by
  by_cases h1 : isUn l = true
  · exact ⟨(un_low h1).1, low_lett (un_low h1).2⟩
  · refine kw_letter (fun e => ?_)
    unfold kindL at h
    rw [if_neg h1, if_neg (by simp [hb]), if_pos e] at h
    omega

/-- What comes behind a place where a keyword selector's part ends is a word and a colon, and that makes a keyword selector, too. -/
theorem kw_next {r : List UInt8} {j e : Nat} (hj : j ≤ r.length) (hk : kindL (r.take j) = 3) (he : e < j) (hc : (cutL (r.take e)).2 = []) :
    e + wordLen (r.drop e) + 1 ≤ j ∧ kindL (r.take (e + wordLen (r.drop e) + 1)) = 3 := by
  obtain ⟨_, _, h3⟩ := kind3 hk
  have hp := kwL_parts h3
  obtain ⟨w, hw⟩ : ∃ w, wordLen (r.drop e) = w := ⟨_, rfl⟩
  rw [hw]
  have hwl : w ≤ r.length - e := by rw [← hw]; have := word_le (r.drop e); simpa using this
  have hchar : ∀ i, i < w → wordB (r.getD (e + i) 0) = true := fun i hi => by
    have := word_at (l := r.drop e) (i := i) (by omega)
    rw [List.getD_eq_getElem?_getD, List.getElem?_drop, ← List.getD_eq_getElem?_getD] at this
    exact this
  -- the word's own bytes
  have hcut : ∀ i, i ≤ w → cutL (r.take (e + i)) = ((cutL (r.take e)).1, (r.drop e).take i) := fun i hi => by
    have e1 := cutL_split (r.take (e + i)) e
    rw [List.take_take, show min e (e + i) = e by omega, List.drop_take, show e + i - e = i by omega] at e1
    rw [e1, cut_word, hc, List.nil_append]
    intro c hcm
    obtain ⟨k, hk1, hk2⟩ := List.getElem_of_mem hcm
    rw [List.getElem_take, List.getElem_drop] at hk2
    rw [List.length_take, List.length_drop] at hk1
    have h5 := hchar k (by omega)
    rw [List.getD_eq_getElem?_getD, List.getElem?_eq_getElem (by omega), Option.getD_some, hk2] at h5
    exact word_58 h5
  have hlt : e + w < j := by
    apply Classical.byContradiction
    intro hn
    have h5 := hcut (j - e) (by omega)
    rw [show e + (j - e) = j by omega] at h5
    have h6 := hp.1
    rw [h5] at h6
    have h7 := congrArg List.length h6
    simp only [List.length_take, List.length_drop, List.length_nil] at h7
    omega
  have hnw : wordB (r.getD (e + w) 0) = false := by
    have := word_end (l := r.drop e) (by rw [hw, List.length_drop]; omega)
    rw [hw, List.getD_eq_getElem?_getD, List.getElem?_drop, ← List.getD_eq_getElem?_getD] at this
    exact this
  have hget : r.getD (e + w) 0 = r[e + w]'(by omega) := by rw [List.getD_eq_getElem?_getD, List.getElem?_eq_getElem (by omega), Option.getD_some]
  rw [hget] at hnw
  have h58 : r[e + w]'(by omega) = 58 := by
    apply Classical.byContradiction
    intro hn
    refine h3 (kw_low (r[e + w]'(by omega)) ?_ (by rw [← wordB_aln]; exact hnw) hn)
    have h5 : (r.take j)[e + w]'(by rw [List.length_take]; omega) = r[e + w]'(by omega) := List.getElem_take
    rw [← h5]
    exact List.getElem_mem _
  have hcut2 : cutL (r.take (e + w + 1)) = ((cutL (r.take e)).1 ++ [(r.drop e).take w ++ [58]], []) := by
    rw [cutL_take r (e + w) (by omega), hcut w (Nat.le_refl _), h58]
    simp [cutS]
  have hpre := cutL_pre (r.take j) (e + w + 1)
  rw [List.take_take, show min (e + w + 1) j = e + w + 1 by omega] at hpre
  have hkw : kwL (r.take (e + w + 1)) ≠ [] := by
    rw [kw_ok (by rw [hcut2]) (Nat.le_trans hpre.length_le hp.2.1) (List.all_eq_true.2 (fun p hp' => List.all_eq_true.1 hp.2.2 p (hpre.subset hp')))]
    rw [hcut2]
    simp
  have hm58 : (58 : UInt8) ∈ r.take (e + w + 1) := by
    have h5 : (r.take (e + w + 1))[e + w]'(by rw [List.length_take]; omega) = r[e + w]'(by omega) := List.getElem_take
    rw [← h58, ← h5]
    exact List.getElem_mem _
  have hnu : isUn (r.take (e + w + 1)) = false := by
    cases hu : isUn (r.take (e + w + 1)) with
    | false => rfl
    | true => exact absurd (isUn_all hu 58 hm58) (by decide)
  have hnb : isBi (r.take (e + w + 1)) = false := by
    cases hu : isBi (r.take (e + w + 1)) with
    | false => rfl
    | true =>
      simp only [isBi, Bool.and_eq_true, List.all_eq_true] at hu
      exact absurd (hu.2 58 hm58) (by decide)
  refine ⟨by omega, ?_⟩
  unfold kindL
  rw [hnu, hnb, if_neg (by simp), if_neg (by simp), if_neg hkw]

/-- A keyword selector ends in a colon. -/
theorem kind3_colon {l : List UInt8} (h : kindL l = 3) : l.getD (l.length - 1) 0 = 58 := by
  obtain ⟨h1, _, h3⟩ := kind3 h
  apply Classical.byContradiction
  intro hn
  rw [un_of (by omega) (kw_letter h3).2 hn] at h1
  cases h1

theorem headD_take (r : List UInt8) (j : Nat) (hj : 1 ≤ j) : (r.take j).headD 0 = r.headD 0 := by
  cases r with
  | nil => simp
  | cons c r =>
    obtain ⟨j, rfl⟩ : ∃ i, j = i + 1 := ⟨j - 1, by omega⟩
    simp

theorem take_last (r : List UInt8) (j : Nat) (h1 : 1 ≤ j) (hj : j ≤ r.length) : (r.take j).getD ((r.take j).length - 1) 0 = r.getD (j - 1) 0 := by
  rw [List.length_take, show min j r.length - 1 = j - 1 by omega, List.getD_eq_getElem?_getD, List.getD_eq_getElem?_getD, List.getElem?_take_of_lt (by omega)]

/-- A selector that stands there whole and is no binary one: a word, or one of keywords. -/
theorem sel_cases {r : List UInt8} {j : Nat} (hj : j ≤ r.length) (h : selAt r j = true) (hb : isBi (r.take j) = false) :
    lett (r.headD 0) = true ∧ ((j = wordLen r ∧ kindL (r.take j) = 1) ∨ (r.getD (j - 1) 0 = 58 ∧ kindL (r.take j) = 3)) := by
  unfold selAt at h
  simp only [Bool.and_eq_true, decide_eq_true_eq, Bool.or_eq_true] at h
  obtain ⟨hk, hwh⟩ := h
  obtain ⟨hne, hl⟩ := kind_letter hk hb
  have h1 : 1 ≤ j := by
    cases j with
    | zero => exact (hne (by simp)).elim
    | succ j => omega
  rw [headD_take r j h1] at hl
  refine ⟨hl, ?_⟩
  by_cases h58 : r.getD (j - 1) 0 = 58
  · right
    refine ⟨h58, ?_⟩
    have hnu : isUn (r.take j) = false := by
      cases hu : isUn (r.take j) with
      | false => rfl
      | true =>
        have hm : (58 : UInt8) ∈ r.take j := by
          rw [List.getD_eq_getElem?_getD, List.getElem?_eq_getElem (by omega), Option.getD_some] at h58
          have h5 : (r.take j)[j - 1]'(by rw [List.length_take]; omega) = r[j - 1]'(by omega) := List.getElem_take
          rw [← h58, ← h5]
          exact List.getElem_mem _
        exact absurd (isUn_all hu 58 hm) (by decide)
    unfold kindL at hk ⊢
    rw [hnu, hb, if_neg (by simp), if_neg (by simp)] at hk ⊢
    split
    · rename_i h3; rw [if_pos h3] at hk; omega
    · rfl
  · left
    have hu := un_of hk (by rw [headD_take r j h1]; exact hl) (by rw [take_last r j h1 hj]; exact h58)
    have hall := isUn_all hu
    have hjw : j ≤ wordLen r := word_lt j hj (fun i hi => by
      rw [wordB_aln, List.getD_eq_getElem?_getD, List.getElem?_eq_getElem (by omega), Option.getD_some]
      refine hall _ ?_
      have h5 : (r.take j)[i]'(by rw [List.length_take]; omega) = r[i]'(by omega) := List.getElem_take
      rw [← h5]
      exact List.getElem_mem _)
    refine ⟨?_, by unfold kindL; rw [if_pos hu]⟩
    have hwl := word_le r
    rcases hwh with e | hwh
    · omega
    · unfold wholeL at hwh
      rw [hl] at hwh
      simp only [Bool.not_true, Bool.false_or, Bool.or_eq_true, beq_iff_eq, Bool.not_eq_true'] at hwh
      rcases hwh with e | hnw
      · exact (h58 e).elim
      · apply Classical.byContradiction
        intro hn
        rw [word_at (l := r) (i := j) (by omega)] at hnw
        cases hnw

theorem bi_take {r : List UInt8} {j : Nat} (h : isBi (r.take j) = true) (hw : wordLen r ≠ 0) : False := by
  obtain ⟨h1, h2, h3⟩ := bi_head h
  have hj : 1 ≤ j := by
    cases j with
    | zero => exact (h1 (by simp)).elim
    | succ j => omega
  rw [headD_take r j hj] at h2 h3
  have := word_at (l := r) (i := 0) (by omega)
  have e : r.getD 0 0 = r.headD 0 := by cases r <;> rfl
  rw [e] at this
  unfold wordB at this
  rw [h2, h3] at this
  cases this

theorem sel_zero {r : List UInt8} {n : Nat} (h : ∀ j, 1 ≤ j → j ≤ n → selAt r j = false) : selTo r n = 0 := by
  induction n with
  | zero => rfl
  | succ n ih =>
    unfold selTo
    rw [h (n + 1) (by omega) (Nat.le_refl _), if_neg (by simp)]
    exact ih (fun j h1 h2 => h j h1 (by omega))

theorem sel_is {r : List UInt8} {n s : Nat} (hs : s ≤ n) (h0 : selAt r s = true) (h : ∀ j, j ≤ n → selAt r j = true → j ≤ s) : selTo r n = s := by
  have h1 := selTo_max r n s h0 hs
  have h2 := selTo_le r n
  by_cases hz : selTo r n = 0
  · omega
  · have h3 := h _ h2 (selTo_at r n hz)
    omega

/-- A word that is no unary selector is followed by none. -/
theorem selTo_nowordB {r : List UInt8} (hw : wordLen r ≠ 0) (hk : kindL (r.take (wordLen r)) ≠ 1) : selTo r (min r.length 498) = 0 := by
  refine sel_zero (fun j h1 h2 => ?_)
  cases hs : selAt r j with
  | false => rfl
  | true =>
    exfalso
    have hb : isBi (r.take j) = false := by
      cases h : isBi (r.take j) with
      | false => rfl
      | true => exact (bi_take h hw).elim
    obtain ⟨hl, h | ⟨h58, h3⟩⟩ := sel_cases (by omega) hs hb
    · obtain ⟨rfl, h⟩ := h
      exact hk h
    · have hp := kwL_parts (kind3 h3).2.2
      -- its first part is the word
      have hn := kw_next (e := 0) (by omega) h3 (by omega) (by simp [cutL])
      simp only [List.drop_zero, Nat.zero_add] at hn
      have hk2 := kwL_parts (kind3 hn.2).2.2
      have hwl := word_le r
      have hsp : cutL (r.take (wordLen r + 1)) = ([r.take (wordLen r) ++ [58]], []) := by
        have e1 := cut_word (r.take (wordLen r)) ([], []) (fun c hc => by
          rw [wordLen, take_while] at hc
          exact word_58 (List.all_eq_true.1 List.all_takeWhile _ hc))
        have e2 : cutL (r.take (wordLen r)) = ([], r.take (wordLen r)) := by simpa [cutL] using e1
        rw [cutL_take r (wordLen r) (by omega), e2]
        unfold cutS
        split
        · simp
        · rename_i hne
          exfalso
          have := hk2.1
          rw [cutL_take r (wordLen r) (by omega), e2] at this
          unfold cutS at this
          rw [if_neg hne] at this
          simp at this
          rw [this] at hw
          exact hw rfl
      have hg := hk2.2.2
      rw [hsp] at hg
      simp only [List.all_cons, List.all_nil, Bool.and_true, goodP, List.dropLast_concat] at hg
      apply hk
      unfold kindL
      rw [if_pos hg]

/-- How far a selector that begins with a word has been read: it is s long; the word behind its last colon begins at e. -/
def SelOk (r : List UInt8) (s e : Nat) : Prop :=
  e ≤ r.length ∧ (cutL (r.take e)).2 = [] ∧ ((e = 0 ∧ s = wordLen r ∧ kindL (r.take s) = 1) ∨ (s = e ∧ kindL (r.take e) = 3 ∧ wordLen r < e))

theorem selOk_zero {r : List UInt8} (hk : kindL (r.take (wordLen r)) = 1) : SelOk r (wordLen r) 0 :=
  ⟨Nat.zero_le _, by simp [cutL], .inl ⟨rfl, rfl, hk⟩⟩

theorem selOk_le {r : List UInt8} {s e : Nat} (h : SelOk r s e) : s ≤ e + wordLen (r.drop e) ∧ e + wordLen (r.drop e) ≤ r.length ∧ s ≤ 410 := by
  have h1 := word_le (r.drop e)
  rw [List.length_drop] at h1
  obtain ⟨h2, _, h3 | ⟨rfl, h3, _⟩⟩ := h
  · obtain ⟨rfl, rfl, h3⟩ := h3
    refine ⟨by simp, by omega, ?_⟩
    have := kind_len (l := r.take (wordLen r)) (by omega)
    have h4 := word_le r
    rw [List.length_take] at this
    omega
  · refine ⟨by omega, by omega, ?_⟩
    have := kind_len (l := r.take s) (by omega)
    rw [List.length_take] at this
    omega

theorem selOk_next {r : List UInt8} {s e : Nat} (h : SelOk r s e) (hk : kindL (r.take (e + wordLen (r.drop e) + 1)) = 3) (hlt : e + wordLen (r.drop e) < r.length) :
    SelOk r (e + wordLen (r.drop e) + 1) (e + wordLen (r.drop e) + 1) := by
  refine ⟨by omega, (kwL_parts (kind3 hk).2.2).1, .inr ⟨rfl, hk, ?_⟩⟩
  obtain ⟨_, _, h3 | ⟨rfl, h3, h4⟩⟩ := h
  · obtain ⟨rfl, _, _⟩ := h3
    simp
  · omega

theorem selOk_end {r : List UInt8} {s e : Nat} (h : SelOk r s e) (hw : wordLen r ≠ 0) (hk : e + wordLen (r.drop e) < r.length → kindL (r.take (e + wordLen (r.drop e) + 1)) ≠ 3) : selTo r (min r.length 498) = s := by
  obtain ⟨l1, l2, l3⟩ := selOk_le h
  obtain ⟨h1, h2, h3⟩ := h
  have hwl := word_le r
  have hlet : lett (r.headD 0) = true := by
    rcases h3 with ⟨rfl, rfl, h3⟩ | ⟨rfl, h3, h4⟩
    · have := kind_letter (l := r.take (wordLen r)) (by omega) (by
        cases hb : isBi (r.take (wordLen r)) with
        | false => rfl
        | true => exact (bi_take hb hw).elim)
      rw [headD_take r _ (by omega)] at this
      exact this.2
    · have := kw_letter (kind3 h3).2.2
      rw [headD_take r _ (by omega)] at this
      exact this.2
  refine sel_is (by omega) ?_ (fun j hj hs => ?_)
  · unfold selAt
    simp only [Bool.and_eq_true, decide_eq_true_eq, Bool.or_eq_true]
    rcases h3 with ⟨rfl, rfl, h3⟩ | ⟨rfl, h3, h4⟩
    · refine ⟨by omega, ?_⟩
      by_cases hlen : wordLen r = r.length
      · exact .inl hlen
      · right
        unfold wholeL
        rw [word_end (by omega)]
        simp
    · refine ⟨by omega, .inr ?_⟩
      have := kind3_colon h3
      rw [take_last r s (by omega) h1] at this
      unfold wholeL
      rw [this]
      simp
  · have hb : isBi (r.take j) = false := by
      cases h : isBi (r.take j) with
      | false => rfl
      | true => exact (bi_take h hw).elim
    obtain ⟨_, ⟨rfl, _⟩ | ⟨h58, h5⟩⟩ := sel_cases (by omega) hs hb
    · rcases h3 with ⟨_, rfl, _⟩ | ⟨rfl, _, h4⟩
      · exact Nat.le_refl _
      · omega
    · by_cases hej : e < j
      · obtain ⟨h6, h7⟩ := kw_next (by omega) h5 hej h2
        exact (hk (by omega) h7).elim
      · rcases h3 with ⟨rfl, _, _⟩ | ⟨rfl, _, h4⟩
        · obtain rfl : j = 0 := by omega
          have := kw_letter (kind3 h5).2.2
          simp at this
        · omega

/-! ### Binary selectors -/

/-- How many octets of a binary selector stand at the head. -/
def biLen (r : List UInt8) : Nat := if isBi (r.take 1) = true then (if isBi (r.take 2) = true ∧ 2 ≤ r.length then 2 else 1) else 0

theorem bi_take1 {r : List UInt8} (h : isBi (r.take 2) = true) : isBi (r.take 1) = true := by
  cases r with
  | nil => simp [isBi, lenIn] at h
  | cons c r =>
    cases r with
    | nil => exact h
    | cons d r =>
      simp only [isBi, lenIn, Bool.and_eq_true, decide_eq_true_eq, List.all_eq_true] at h ⊢
      refine ⟨by simp, fun x hx => h.2 x ?_⟩
      simp at hx ⊢
      exact .inl hx

theorem bi_len {l : List UInt8} (h : isBi l = true) : 1 ≤ l.length ∧ l.length ≤ 2 := by
  simpa [isBi, lenIn] using (Bool.and_eq_true_iff.1 h).1

theorem kindL_bi {l : List UInt8} : kindL l = 2 ↔ isBi l = true := by
  constructor
  · intro h
    unfold kindL at h
    split at h
    · omega
    · split at h
      · assumption
      · split at h <;> omega
  · intro h
    have hu : isUn l = false := by
      cases hu : isUn l with
      | false => rfl
      | true =>
        have h1 := (bi_head h).2.1
        rw [low_lett (un_low hu).2] at h1
        cases h1
    unfold kindL
    rw [hu, h, if_neg (by simp), if_pos rfl]

/-- No word at the head: the longest selector is a binary one. -/
theorem selTo_bi {r : List UInt8} (hw : wordLen r = 0) : selTo r (min r.length 498) = biLen r := by
  have hl : lett (r.headD 0) = false := by
    cases r with
    | nil => rfl
    | cons c r =>
      cases h : lett c with
      | false => simpa using h
      | true => rw [word_pos h] at hw; omega
  have hat : ∀ j, j ≤ r.length → selAt r j = isBi (r.take j) := fun j hj => by
    cases hb : isBi (r.take j) with
    | true =>
      unfold selAt
      have := kindL_bi.2 hb
      unfold wholeL
      rw [hl]
      simp [this]
    | false =>
      cases hs : selAt r j with
      | false => rfl
      | true =>
        have := (sel_cases hj hs hb).1
        rw [hl] at this
        cases this
  unfold biLen
  by_cases h1 : isBi (r.take 1) = true
  · have hr : 1 ≤ r.length := by have := (bi_len h1).1; rw [List.length_take] at this; omega
    rw [if_pos h1]
    by_cases h2 : isBi (r.take 2) = true ∧ 2 ≤ r.length
    · rw [if_pos h2]
      refine sel_is (by omega) (by rw [hat 2 h2.2]; exact h2.1) (fun j hj hs => ?_)
      rw [hat j (by omega)] at hs
      have := (bi_len hs).2
      rw [List.length_take] at this
      omega
    · rw [if_neg h2]
      refine sel_is (by omega) (by rw [hat 1 hr]; exact h1) (fun j hj hs => ?_)
      rw [hat j (by omega)] at hs
      have h3 := (bi_len hs).2
      rw [List.length_take] at h3
      apply Classical.byContradiction
      intro hn
      obtain rfl : j = 2 := by omega
      exact h2 ⟨hs, by omega⟩
  · rw [if_neg h1]
    refine sel_zero (fun j h3 h4 => ?_)
    rw [hat j (by omega)]
    cases hb : isBi (r.take j) with
    | false => rfl
    | true =>
      exfalso
      have h5 := (bi_len hb).2
      rw [List.length_take] at h5
      rcases (by omega : j = 1 ∨ j = 2) with rfl | rfl
      · exact h1 hb
      · exact h1 (bi_take1 hb)

/-- The program's count: n octets are a binary selector (or n = 0), and one more are none. -/
theorem biLen_is {r : List UInt8} {n : Nat} (hn : n ≤ r.length) (h1 : n = 0 ∨ isBi (r.take n) = true) (h2 : n < r.length → isBi (r.take (n + 1)) = false) : n = biLen r := by
  unfold biLen
  rcases h1 with rfl | h1
  · have h3 : isBi (r.take 1) = false := by
      by_cases h : 0 < r.length
      · exact h2 h
      · rw [List.eq_nil_of_length_eq_zero (by omega : r.length = 0)]; rfl
    rw [if_neg (by simp [h3])]
  · have h3 := bi_len h1
    rw [List.length_take] at h3
    rcases (by omega : n = 1 ∨ n = 2) with rfl | rfl
    · rw [if_pos h1, if_neg]
      rintro ⟨h4, h5⟩
      rw [h2 (by omega)] at h4
      cases h4
    · rw [if_pos (bi_take1 h1), if_pos ⟨h1, hn⟩]

/-- The token at the head that is none of the others. -/
theorem tok_biLen {c : UInt8} {r : List UInt8} (h1 : lett c = false) (h2 : digB c = false) (h3 : c ≠ 39) (h4 : c ≠ 35) (h5 : ¬ (c = 58 ∧ r.head? = some 61)) (ho : ones.contains c = false) :
    tokL (c :: r) = if biLen (c :: r) = 0 then none else some (3, (c :: r).take (biLen (c :: r)), 0, biLen (c :: r)) := by
  have ht : tokL (c :: r) = if isBi [c] = false then (none : Option (Int × List UInt8 × Int × Nat)) else match (generalizing := false) r with
      | [] => some (3, [c], 0, 1)
      | d :: _ => if isBi [c, d] = true then some (3, [c, d], 0, 2) else some (3, [c], 0, 1) := by
    simp only [tokL]
    rw [if_neg (by simp [h1]), if_neg (by simp [h2]), if_neg h3, if_neg h4, if_neg h5, if_neg (by rw [ho]; simp)]
    cases r <;> rfl
  rw [ht]
  by_cases hb : isBi [c] = true
  · rw [if_neg (by rw [hb]; decide)]
    cases r with
    | nil =>
      have e : biLen [c] = 1 := (biLen_is (r := [c]) (n := 1) (Nat.le_refl _) (.inr hb) (fun h => by simp at h)).symm
      rw [e]
      simp
    | cons d r =>
      by_cases hd : isBi [c, d] = true
      · have e : biLen (c :: d :: r) = 2 := (biLen_is (r := c :: d :: r) (n := 2) (by simp) (.inr hd) (fun h => by
          cases h3 : isBi ((c :: d :: r).take 3) with
          | false => rfl
          | true =>
            have := (bi_len h3).2
            rw [List.length_take] at this
            omega)).symm
        rw [e]
        simp [hd]
      · have e : biLen (c :: d :: r) = 1 := (biLen_is (r := c :: d :: r) (n := 1) (by simp) (.inr hb) (fun h => by simpa using hd)).symm
        rw [e]
        simp [hd]
  · have e : biLen (c :: r) = 0 := (biLen_is (r := c :: r) (n := 0) (by simp) (.inl rfl) (fun _ => by simpa using hb)).symm
    rw [if_pos (by simpa using hb), e, if_pos rfl]

/-! ### Gaps -/

/-- What stands between tokens at a text's head is n long: blanks, line ends, comments that end. -/
inductive GapR : List UInt8 → Nat → Prop
  | stop {l : List UInt8} : (∀ c r, l = c :: r → blankB c = false ∧ (c = 34 → (r.takeWhile (· != 34)).length = r.length)) → GapR l 0
  | blank {c : UInt8} {r : List UInt8} {n : Nat} : blankB c = true → GapR r n → GapR (c :: r) (n + 1)
  | note {r : List UInt8} {n : Nat} : (r.takeWhile (· != 34)).length ≠ r.length → GapR (r.drop ((r.takeWhile (· != 34)).length + 1)) n → GapR (34 :: r) (n + ((r.takeWhile (· != 34)).length + 2))

theorem GapR.le {l : List UInt8} {n : Nat} (h : GapR l n) : n ≤ l.length := by
  induction h with
  | stop _ => exact Nat.zero_le _
  | blank _ _ ih => simp only [List.length_cons]; omega
  | @note r n hne _ ih =>
    have := while_le (p := (· != 34)) r
    rw [List.length_drop] at ih
    simp only [List.length_cons]
    omega

theorem GapR.all {l : List UInt8} {n : Nat} (h : GapR l n) : ∀ (out : List TK) (a : Nat), allAt out a l = allAt out (a + n) (l.drop n) := by
  induction h with
  | stop _ => intro out a; rfl
  | @blank c r n hb _ ih => intro out a; rw [allAt_blank out a _ hb, ih, List.drop_succ_cons, show a + 1 + n = a + (n + 1) by omega]
  | @note r n hne _ ih =>
    intro out a
    rw [allAt_remark out a r hne, ih, List.drop_drop, show n + ((r.takeWhile (· != 34)).length + 2) = ((r.takeWhile (· != 34)).length + 1 + n) + 1 by omega, List.drop_succ_cons, show a + (r.takeWhile (· != 34)).length + 2 + n = a + ((r.takeWhile (· != 34)).length + 1 + n + 1) by omega]

theorem GapR.stops {l : List UInt8} {n : Nat} (h : GapR l n) : ∀ c r, l.drop n = c :: r → blankB c = false ∧ (c = 34 → (r.takeWhile (· != 34)).length = r.length) := by
  induction h with
  | stop h => exact h
  | blank _ _ ih => intro c r h; rw [List.drop_succ_cons] at h; exact ih c r h
  | @note r n hne _ ih =>
    intro c t h
    rw [show n + ((r.takeWhile (· != 34)).length + 2) = ((r.takeWhile (· != 34)).length + 1 + n) + 1 by omega, List.drop_succ_cons, ← List.drop_drop] at h
    exact ih c t h

/-! ### The tokens ahead of an error, one more at a time -/

def preAt (out : List TK) (a : Nat) (r : List UInt8) : List TK := out ++ goPre (r.length + 1) a r

theorem pre_fuel : ∀ (n f g : Nat) (l : List UInt8) (a : Nat), l.length ≤ n → l.length < f → l.length < g → goPre f a l = goPre g a l := by
  intro n
  induction n with
  | zero => intro f g l a h _ _; obtain rfl := List.eq_nil_of_length_eq_zero (show l.length = 0 by omega); rw [pre_nil, pre_nil]
  | succ n ih =>
    intro f g l a h hf hg
    cases l with
    | nil => rw [pre_nil, pre_nil]
    | cons c r =>
      simp only [List.length_cons] at h hf hg
      obtain ⟨f, rfl⟩ : ∃ i, f = i + 1 := ⟨f - 1, by omega⟩
      obtain ⟨g, rfl⟩ : ∃ i, g = i + 1 := ⟨g - 1, by omega⟩
      rw [pre_cons, pre_cons]
      by_cases h1 : blankB c = true
      · rw [if_pos h1, if_pos h1]
        exact ih f g r _ (by omega) (by omega) (by omega)
      · rw [if_neg h1, if_neg h1]
        by_cases h2 : c = 34
        · rw [if_pos h2, if_pos h2]
          split
          · rfl
          · exact ih f g _ _ (by rw [List.length_drop]; omega) (by rw [List.length_drop]; omega) (by rw [List.length_drop]; omega)
        · rw [if_neg h2, if_neg h2]
          cases ht : tokL (c :: r) with
          | none => rfl
          | some t =>
            obtain ⟨k, x, n', m⟩ := t
            have h3 := tok_len ht
            simp only [List.length_cons] at h3
            have hd : ((c :: r).drop m).length = r.length + 1 - m := by simp
            simp only
            rw [ih f g _ (a + m) (by omega) (by omega) (by omega)]

theorem preAt_nil (out : List TK) (a : Nat) : preAt out a [] = out ++ [⟨0, [], 0, a⟩] := by
  unfold preAt
  rw [pre_nil]

theorem GapR.pre {l : List UInt8} {n : Nat} (h : GapR l n) : ∀ (out : List TK) (a : Nat), preAt out a l = preAt out (a + n) (l.drop n) := by
  induction h with
  | stop _ => intro out a; rfl
  | @blank c r n hb _ ih =>
    intro out a
    rw [List.drop_succ_cons, show a + (n + 1) = a + 1 + n by omega, ← ih]
    unfold preAt
    rw [pre_cons, if_pos hb]
    rfl
  | @note r n hne _ ih =>
    intro out a
    rw [show n + ((r.takeWhile (· != 34)).length + 2) = ((r.takeWhile (· != 34)).length + 1 + n) + 1 by omega, List.drop_succ_cons, ← List.drop_drop, show a + ((r.takeWhile (· != 34)).length + 1 + n + 1) = a + (r.takeWhile (· != 34)).length + 2 + n by omega, ← ih]
    unfold preAt
    rw [pre_cons, if_neg (by decide), if_pos rfl, if_neg hne]
    congr 1
    refine pre_fuel (r.drop ((r.takeWhile (· != 34)).length + 1)).length _ _ _ _ (Nat.le_refl _) ?_ (by omega)
    simp only [List.length_drop, List.length_cons]
    omega

/-- A token at the head comes next. -/
theorem preAt_tok (out : List TK) (a : Nat) {c : UInt8} {r : List UInt8} (hb : blankB c = false) (hc : c ≠ 34) {k : Int} {x : List UInt8} {n : Int} {m : Nat} (h : tokL (c :: r) = some (k, x, n, m)) :
    preAt out a (c :: r) = preAt (out ++ [⟨k, x, n, a⟩]) (a + m) ((c :: r).drop m) := by
  have hm := (tok_len h).1
  unfold preAt
  rw [pre_cons, if_neg (by simp [hb]), if_neg hc, h]
  simp only [List.append_assoc, List.cons_append, List.nil_append]
  have e2 : goPre (c :: r).length (a + m) ((c :: r).drop m) = goPre (((c :: r).drop m).length + 1) (a + m) ((c :: r).drop m) :=
    pre_fuel ((c :: r).drop m).length _ _ _ _ (Nat.le_refl _) (by simp only [List.length_drop, List.length_cons]; omega) (by omega)
  rw [e2]

/-- The text is wrong there: no more tokens. -/
theorem preAt_no (out : List TK) (a : Nat) {c : UInt8} {r : List UInt8} (hb : blankB c = false) (hc : c = 34 → (r.takeWhile (· != 34)).length = r.length) (h : tokL (c :: r) = none) : preAt out a (c :: r) = out ∧ allAt out a (c :: r) = (40, (a : Int), []) := by
  by_cases h34 : c = 34
  · subst h34
    refine ⟨?_, allAt_open out a r (hc rfl)⟩
    unfold preAt
    rw [pre_cons, if_neg (by simp [hb]), if_pos rfl, if_pos (hc rfl)]
    simp
  · refine ⟨?_, allAt_no out a r hb h34 h⟩
    unfold preAt
    rw [pre_cons, if_neg (by simp [hb]), if_neg h34, h]
    simp

theorem tok_34 (r : List UInt8) : tokL (34 :: r) = none := by
  simp only [tokL]
  rw [if_neg (by decide), if_neg (by decide), if_neg (by decide), if_neg (by decide), if_neg (by rintro ⟨h, _⟩; revert h; decide), if_neg (by decide), if_pos (by decide)]

theorem preAt_len (out : List TK) (a : Nat) (r : List UInt8) : out.length ≤ (preAt out a r).length := by simp [preAt]

/-! ### Numbers -/

theorem dec_num : ∀ (l : List UInt8) (acc : Nat), (∀ b ∈ l, digB b = true) → ∃ m : Nat, Lib.decFrom acc l = some m ∧ (m : Int) = l.foldl (fun n b => n * 10 + (b.toNat : Int) - 48) (acc : Int)
  | [], acc, _ => ⟨acc, rfl, rfl⟩
  | b :: l, acc, h => by
    have hb := h b (by simp)
    simp only [digB, digI, Bool.and_eq_true, decide_eq_true_eq] at hb
    obtain ⟨m, h1, h2⟩ := dec_num l (acc * 10 + (b.toNat - 48)) (fun c hc => h c (by simp [hc]))
    refine ⟨m, ?_, ?_⟩
    · simp only [Lib.decFrom]
      rw [show Lib.digitVal b = some (b.toNat - 48) by unfold Lib.digitVal; rw [if_pos ⟨by omega, by omega⟩]]
      exact h1
    · rw [h2, List.foldl_cons]
      congr 1
      omega

theorem atoi_num {l : List UInt8} (hne : l ≠ []) (h : ∀ b ∈ l, digB b = true) : Lib.atoi l = some (numL l) := by
  cases l with
  | nil => exact (hne rfl).elim
  | cons b r =>
    have hb := h b (by simp)
    obtain ⟨m, h1, h2⟩ := dec_num (b :: r) 0 h
    have e1 : (b == 45) = false := by
      rw [beq_eq_false_iff_ne]
      rintro rfl
      revert hb
      decide
    have e2 : (b == 43) = false := by
      rw [beq_eq_false_iff_ne]
      rintro rfl
      revert hb
      decide
    simp only [Lib.atoi, e1, e2, Lib.decNat, List.isEmpty_cons, h1]
    simp only [Bool.false_eq_true, if_false, Option.map_some]
    rw [h2]
    rfl

theorem dig_all (l : List UInt8) : ∀ b ∈ l.take (digLen l), digB b = true := fun b hb => by
  rw [digLen, take_while] at hb
  exact List.all_eq_true.1 List.all_takeWhile _ hb

end Go.Mk
