/-
  Lemmas towards the claim of this folder: contracts of the functions that the law reaches; joined texts.
-/
import Derived.Test.YtlnincdmdegaoaaGreatMk
import Derived.Lib.IndexMore
import Derived.Lib.IndexLaws
/-
  NAMES AND SELECTORS over lists of bytes (plain, over no program): names, kinds, keywords' parts.
-/
namespace Go.Mk

def lowI (c : Int) : Bool := decide (97 ≤ c) && decide (c ≤ 122)
def uppI (c : Int) : Bool := decide (65 ≤ c) && decide (c ≤ 90)
def digI (c : Int) : Bool := decide (48 ≤ c) && decide (c ≤ 57)
def alnI (c : Int) : Bool := lowI c || uppI c || digI c

def low (b : UInt8) : Bool := lowI b.toNat
def upp (b : UInt8) : Bool := uppI b.toNat
def lett (b : UInt8) : Bool := low b || upp b
def aln (b : UInt8) : Bool := alnI b.toNat

/-- The characters of binary selectors. -/
def marks : List UInt8 := [43, 45, 42, 47, 60, 62, 61, 126, 38, 44, 64, 37]

def lenIn (l : List UInt8) (m : Nat) : Bool := decide (1 ≤ l.length) && decide (l.length ≤ m)
def isNm (l : List UInt8) : Bool := lenIn l 40 && lett (l.headD 0) && l.all aln
def isUn (l : List UInt8) : Bool := isNm l && low (l.headD 0)
def isCl (l : List UInt8) : Bool := isNm l && upp (l.headD 0)
def isBi (l : List UInt8) : Bool := lenIn l 2 && l.all marks.contains

def resv : List (List UInt8) := [[115, 101, 108, 102], [115, 117, 112, 101, 114], [110, 105, 108], [116, 114, 117, 101], [102, 97, 108, 115, 101]]
def builtins : List (List UInt8) := [[79, 98, 106, 101, 99, 116], [78, 105, 108], [66, 111, 111, 108, 101, 97, 110], [73, 110, 116, 101, 103, 101, 114], [83, 116, 114, 105, 110, 103], [83, 121, 109, 98, 111, 108], [65, 114, 114, 97, 121], [66, 108, 111, 99, 107], [67, 108, 97, 115, 115], [83, 121, 115, 116, 101, 109]]
def isVa (l : List UInt8) : Bool := isUn l && !resv.contains l

/-- One byte more: the pieces that a colon has ended, and the piece that is open. -/
def cutS (st : List (List UInt8) × List UInt8) (c : UInt8) : List (List UInt8) × List UInt8 := if c = 58 then (st.1 ++ [st.2 ++ [58]], []) else (st.1, st.2 ++ [c])
def cutL (l : List UInt8) : List (List UInt8) × List UInt8 := l.foldl cutS ([], [])

def goodP (p : List UInt8) : Bool := isUn p.dropLast
def kwL (l : List UInt8) : List (List UInt8) := if (cutL l).2 = [] ∧ (cutL l).1.length ≤ 10 ∧ (cutL l).1.all goodP = true then (cutL l).1 else []

def kindL (l : List UInt8) : Nat := if isUn l = true then 1 else if isBi l = true then 2 else if kwL l = [] then 0 else 3
def argsL (l : List UInt8) : Int := if isUn l = true then 0 else if isBi l = true then 1 else if kwL l = [] then -1 else (kwL l).length
def partsL (l : List UInt8) : List (List UInt8) := if isUn l = true then [l] else if isBi l = true then [l] else kwL l
def joinL (ps : List (List UInt8)) : List UInt8 := if partsL ps.flatten = ps then ps.flatten else []

theorem cutL_take (l : List UInt8) (j : Nat) (h : j < l.length) : cutL (l.take (j + 1)) = cutS (cutL (l.take j)) l[j] := by
  have e : l.take (j + 1) = l.take j ++ [l[j]] := by rw [List.take_add_one, List.getElem?_eq_getElem h]; rfl
  rw [e]
  unfold cutL
  rw [List.foldl_append]
  rfl

theorem cut_flat (l : List UInt8) : ∀ st : List (List UInt8) × List UInt8, (l.foldl cutS st).1.flatten ++ (l.foldl cutS st).2 = st.1.flatten ++ st.2 ++ l := by
  induction l with
  | nil => intro st; simp
  | cons c l ih =>
    intro st
    rw [List.foldl_cons, ih]
    unfold cutS
    split
    · rename_i h; subst h; simp
    · simp

theorem cutL_flat (l : List UInt8) : (cutL l).1.flatten ++ (cutL l).2 = l := by
  have := cut_flat l ([], [])
  unfold cutL
  simpa using this

/-- The pieces only grow. -/
theorem cut_pre (l : List UInt8) : ∀ st : List (List UInt8) × List UInt8, st.1 <+: (l.foldl cutS st).1 := by
  induction l with
  | nil => intro st; exact List.prefix_refl _
  | cons c l ih =>
    intro st
    rw [List.foldl_cons]
    refine List.IsPrefix.trans ?_ (ih (cutS st c))
    unfold cutS
    split
    · exact List.prefix_append _ _
    · exact List.prefix_refl _

theorem cutL_pre (l : List UInt8) (j : Nat) : (cutL (l.take j)).1 <+: (cutL l).1 := by
  have e : cutL l = (l.drop j).foldl cutS (cutL (l.take j)) := by
    unfold cutL
    rw [← List.foldl_append, List.take_append_drop]
  rw [e]
  exact cut_pre _ _

theorem kw_bad {l : List UInt8} (j : Nat) (p : List UInt8) (hp : p ∈ (cutL (l.take j)).1) (hb : goodP p = false) : kwL l = [] := by
  unfold kwL
  rw [if_neg]
  rintro ⟨_, _, h⟩
  have hm : p ∈ (cutL l).1 := (cutL_pre l j).subset hp
  have := List.all_eq_true.1 h p hm
  rw [hb] at this
  cases this

theorem kw_many {l : List UInt8} (j : Nat) (h : 10 < (cutL (l.take j)).1.length) : kwL l = [] := by
  unfold kwL
  rw [if_neg]
  rintro ⟨_, h2, _⟩
  have := (cutL_pre l j).length_le
  omega

theorem aln_128 {b : UInt8} (h : 128 ≤ b.toNat) : aln b = false := by
  simp [aln, alnI, lowI, uppI, digI]
  omega

theorem isUn_all {l : List UInt8} (h : isUn l = true) : ∀ b ∈ l, aln b = true := by
  simp only [isUn, isNm, Bool.and_eq_true, List.all_eq_true] at h
  exact h.1.2

/-- A text with a byte beyond ASCII is no keyword selector. -/
theorem kw_high {l : List UInt8} (b : UInt8) (hb : b ∈ l) (h : 128 ≤ b.toNat) : kwL l = [] := by
  unfold kwL
  rw [if_neg]
  rintro ⟨h1, _, h3⟩
  have hf := cutL_flat l
  rw [h1, List.append_nil] at hf
  rw [← hf] at hb
  obtain ⟨p, hp, hbp⟩ := List.mem_flatten.1 hb
  have hg := List.all_eq_true.1 h3 p hp
  have hne : p ≠ [] := fun e => by rw [e] at hbp; cases hbp
  have hlast : ∀ (l : List UInt8) (st : List (List UInt8) × List UInt8), (∀ q ∈ st.1, ∃ r, q = r ++ [58]) → ∀ q ∈ (l.foldl cutS st).1, ∃ r, q = r ++ [58] := by
    intro l
    induction l with
    | nil => intro st h; exact h
    | cons c l ih =>
      intro st h
      rw [List.foldl_cons]
      refine ih _ ?_
      unfold cutS
      split
      · intro q hq
        rcases List.mem_append.1 hq with hq | hq
        · exact h q hq
        · exact ⟨st.2, by simpa using hq⟩
      · exact h
  obtain ⟨r, rfl⟩ := hlast l ([], []) (by simp) p hp
  unfold goodP at hg
  rw [List.dropLast_concat] at hg
  rcases List.mem_append.1 hbp with hr | hr
  · have := isUn_all hg b hr
    rw [aln_128 h] at this
    cases this
  · simp at hr
    subst hr
    simp at h

theorem kw_end {l : List UInt8} (h : (cutL l).2 ≠ []) : kwL l = [] := by
  unfold kwL
  rw [if_neg]
  rintro ⟨h1, _⟩
  exact h h1

theorem kw_ok {l : List UInt8} (h : (cutL l).2 = []) (h2 : (cutL l).1.length ≤ 10) (h3 : (cutL l).1.all goodP = true) : kwL l = (cutL l).1 := by
  unfold kwL
  rw [if_pos ⟨h, h2, h3⟩]

theorem kw_flat {l : List UInt8} (h : kwL l ≠ []) : (kwL l).flatten = l := by
  unfold kwL at h ⊢
  split
  · rename_i hc
    have := cutL_flat l
    rw [hc.1, List.append_nil] at this
    exact this
  · rename_i hc
    rw [if_neg hc] at h
    exact (h rfl).elim

theorem kw_len (l : List UInt8) : (kwL l).length ≤ 10 := by
  unfold kwL
  split
  · rename_i h; exact h.2.1
  · simp

theorem kind_le (l : List UInt8) : kindL l ≤ 3 := by
  unfold kindL
  repeat' split
  all_goals omega

theorem kind_parts (l : List UInt8) : (kindL l = 0 → partsL l = []) ∧ (kindL l ≠ 0 → (partsL l).flatten = l) := by
  unfold kindL partsL
  repeat' split
  · exact ⟨by simp, by simp⟩
  · exact ⟨by simp, by simp⟩
  · rename_i h; exact ⟨fun _ => h, by simp⟩
  · rename_i h; exact ⟨by simp, fun _ => kw_flat h⟩

theorem kind_args (l : List UInt8) : decide (0 ≤ argsL l) = decide (0 < kindL l) := by
  unfold argsL kindL
  repeat' split
  all_goals simp

theorem parts_len (l : List UInt8) : (partsL l).length ≤ 10 := by
  unfold partsL
  repeat' split
  · simp
  · simp
  · exact kw_len l

theorem join_parts {l : List UInt8} (h : kindL l ≠ 0) : joinL (partsL l) = l := by
  unfold joinL
  rw [(kind_parts l).2 h, if_pos rfl]

end Go.Mk

/-
  DEFINITIONS over lists (plain, over no program): valid ones, their keys, a key's parts, their encoding and how it is read.
-/
namespace Go.Mk

structure DD where
  k : Int
  c : List UInt8
  p : List UInt8
  vs : List (List UInt8)
  s : List UInt8
  t : List UInt8
deriving DecidableEq

def zeroD : DD := ⟨0, [], [], [], [], []⟩

/-- The i-th is a variable name, and none before it is the same. -/
def varAt (vs : List (List UInt8)) (i : Nat) : Bool := isVa (vs.getD i []) && !(vs.take i).contains (vs.getD i [])
def varsTo (vs : List (List UInt8)) (n : Nat) : Bool := (List.range n).all (varAt vs)
def varsL (vs : List (List UInt8)) : Bool := varsTo vs vs.length
def areVars (vs : List (List UInt8)) : Bool := decide (vs.length ≤ 20) && varsL vs

def ownCl (l : List UInt8) : Bool := isCl l && !builtins.contains l
def isSel (l : List UInt8) : Bool := decide (kindL l ≠ 0)

def rightC (d : DD) : Bool := ownCl d.c && isCl d.p && areVars d.vs && d.s.isEmpty && d.t.isEmpty
def rightM (d : DD) : Bool := isCl d.c && isSel d.s && decide (d.t.length ≤ 4000) && d.p.isEmpty && d.vs.isEmpty
def rightD (d : DD) : Bool := if d.k = 1 then rightC d else if d.k = 2 then rightM d else false

def keyD (d : DD) : List UInt8 := if rightD d = true then (if d.k = 2 then d.c ++ [62, 62] ++ d.s else d.c) else []

def splitC (r : List UInt8 × List UInt8 × Bool) : List UInt8 × List UInt8 × Bool :=
  if r.2.2 = true then (if (isCl r.1 && isSel r.2.1) = true then (r.1, r.2.1, true) else ([], [], false)) else if ownCl r.1 = true then (r.1, [], true) else ([], [], false)
def splitD (l : List UInt8) : List UInt8 × List UInt8 × Bool := splitC (Lib.cut l [62, 62])

/-- All fields are equal. -/
def sameB (a b : DD) : Bool := a.k == b.k && a.c == b.c && a.p == b.p && a.vs == b.vs && a.s == b.s && a.t == b.t

theorem sameB_iff (a b : DD) : sameB a b = true ↔ a = b := by
  obtain ⟨k, c, p, vs, s, t⟩ := a
  obtain ⟨k', c', p', vs', s', t'⟩ := b
  simp [sameB, and_assoc]

theorem sameB_refl (a : DD) : sameB a a = true := (sameB_iff a a).2 rfl

theorem varsTo_succ (vs : List (List UInt8)) (n : Nat) : varsTo vs (n + 1) = (varsTo vs n && varAt vs n) := by
  unfold varsTo
  rw [List.range_succ, List.all_append]
  simp

theorem varAt_lt {vs : List (List UInt8)} {i : Nat} (h : i < vs.length) : varAt vs i = (isVa vs[i] && !(vs.take i).contains vs[i]) := by
  unfold varAt
  rw [List.getD_eq_getElem?_getD, List.getElem?_eq_getElem h]
  rfl

theorem varsL_no {vs : List (List UInt8)} {i : Nat} (h : i < vs.length) (hn : varAt vs i = false) : varsL vs = false := by
  unfold varsL varsTo
  rw [List.all_eq_false]
  exact ⟨i, List.mem_range.2 h, by simp [hn]⟩

theorem rightD_one {d : DD} (h : d.k = 1) : rightD d = rightC d := by simp [rightD, h]
theorem rightD_two {d : DD} (h : d.k = 2) : rightD d = rightM d := by simp [rightD, h]
theorem rightD_no {d : DD} (h : d.k ≠ 1) (h2 : d.k ≠ 2) : rightD d = false := by simp [rightD, h, h2]

theorem right_kind {d : DD} (h : rightD d = true) : d.k = 1 ∨ d.k = 2 := by
  by_cases h1 : d.k = 1
  · exact .inl h1
  · by_cases h2 : d.k = 2
    · exact .inr h2
    · rw [rightD_no h1 h2] at h; cases h

end Go.Mk

/-
  KEYS over lists (plain, over no program): where a key is cut, which parts are those of a valid definition.
-/
namespace Go.Mk

theorem occ2 {l : List UInt8} {i : Nat} (h : i + 1 < l.length) : Lib.occAt l [62, 62] i = (l[i]'(by omega) == 62 && l[i + 1] == 62) := by
  unfold Lib.occAt
  rw [List.drop_eq_getElem_cons (by omega), List.drop_eq_getElem_cons h]
  simp only [List.isPrefixOf, Bool.and_true]
  rw [Bool.beq_comm, Bool.beq_comm (a := 62) (b := l[i + 1])]

theorem cut_at {l : List UInt8} {i : Nat} (h : i + 1 < l.length) (hn : Lib.NoOcc l [62, 62] i) (ho : Lib.occAt l [62, 62] i = true) : Lib.cut l [62, 62] = (l.take i, l.drop (i + 2), true) := by
  have hi := Lib.index_hit hn (by omega) ho
  unfold Lib.cut
  rw [hi, if_pos (by omega)]
  simp

theorem cut_none {l : List UInt8} {i : Nat} (hn : Lib.NoOcc l [62, 62] i) (h : l.length ≤ i + 1) : Lib.cut l [62, 62] = (l, [], false) := by
  have hi := Lib.index_past (by simp) hn (by simp; omega)
  unfold Lib.cut
  rw [hi, if_neg (by omega)]

theorem right_parts (c s : List UInt8) : rightD ⟨2, c, [], [], s, []⟩ = (isCl c && isSel s) := by
  rw [rightD_two rfl]
  simp [rightM]

theorem cl_object : isCl [79, 98, 106, 101, 99, 116] = true := by decide +kernel

theorem right_own (c : List UInt8) : rightD ⟨1, c, [79, 98, 106, 101, 99, 116], [], [], []⟩ = ownCl c := by
  rw [rightD_one rfl]
  unfold rightC
  rw [show areVars [] = true from rfl]
  dsimp only
  rw [cl_object]
  simp

theorem split_m {l c s : List UInt8} (h : Lib.cut l [62, 62] = (c, s, true)) (hr : rightD ⟨2, c, [], [], s, []⟩ = true) : splitD l = (c, s, true) := by
  rw [right_parts] at hr
  unfold splitD splitC
  rw [h, if_pos rfl, if_pos hr]
theorem split_mno {l c s : List UInt8} (h : Lib.cut l [62, 62] = (c, s, true)) (hr : rightD ⟨2, c, [], [], s, []⟩ = false) : splitD l = ([], [], false) := by
  rw [right_parts] at hr
  unfold splitD splitC
  rw [h, if_pos rfl, if_neg (by rw [hr]; simp)]
theorem split_c {l : List UInt8} (h : Lib.cut l [62, 62] = (l, [], false)) (hr : rightD ⟨1, l, [79, 98, 106, 101, 99, 116], [], [], []⟩ = true) : splitD l = (l, [], true) := by
  rw [right_own] at hr
  unfold splitD splitC
  rw [h, if_neg (by simp), if_pos hr]
theorem split_cno {l : List UInt8} (h : Lib.cut l [62, 62] = (l, [], false)) (hr : rightD ⟨1, l, [79, 98, 106, 101, 99, 116], [], [], []⟩ = false) : splitD l = ([], [], false) := by
  rw [right_own] at hr
  unfold splitD splitC
  rw [h, if_neg (by simp), if_neg (by rw [hr]; simp)]

/-- A class name has no '>'. -/
theorem cl_no {l : List UInt8} (h : isCl l = true) : ∀ b ∈ l, b ≠ 62 := by
  intro b hb e
  subst e
  simp only [isCl, isNm, Bool.and_eq_true, List.all_eq_true] at h
  have := h.1.2 62 hb
  revert this
  decide

theorem cut_class {c : List UInt8} (h : isCl c = true) : Lib.cut c [62, 62] = (c, [], false) := by
  refine cut_none (i := c.length) (fun j hj => ?_) (by omega)
  unfold Lib.occAt
  rw [List.drop_eq_getElem_cons hj]
  have hne : c[j] ≠ 62 := cl_no h _ (List.getElem_mem hj)
  simp only [List.isPrefixOf]
  rw [beq_eq_false_iff_ne.2 (Ne.symm hne)]
  rfl

theorem cut_method {c s : List UInt8} (h : isCl c = true) : Lib.cut (c ++ [62, 62] ++ s) [62, 62] = (c, s, true) := by
  have e : Lib.cut (c ++ [62, 62] ++ s) [62, 62] = ((c ++ [62, 62] ++ s).take c.length, (c ++ [62, 62] ++ s).drop (c.length + 2), true) := by
    refine cut_at (by simp) (fun j hj => ?_) ?_
    · unfold Lib.occAt
      rw [List.append_assoc, List.drop_append_of_le_length (by omega), List.drop_eq_getElem_cons hj]
      have hne : c[j] ≠ 62 := cl_no h _ (List.getElem_mem hj)
      simp only [List.isPrefixOf, List.cons_append]
      rw [beq_eq_false_iff_ne.2 (Ne.symm hne)]
      rfl
    · unfold Lib.occAt
      rw [List.append_assoc, List.drop_left]
      simp
  rw [e]
  congr 1
  · rw [List.append_assoc, List.take_left]
  · congr 1
    rw [show c.length + 2 = (c ++ [62, 62]).length by simp, List.drop_left]

/-- The key of a valid definition has its parts, and says its kind. -/
theorem split_key {d : DD} (h : rightD d = true) : splitD (keyD d) = (d.c, d.s, true) := by
  unfold keyD
  rw [if_pos h]
  rcases right_kind h with hk | hk
  · rw [if_neg (by rw [hk]; decide)]
    rw [rightD_one hk] at h
    simp only [rightC, Bool.and_eq_true, ownCl] at h
    obtain ⟨⟨⟨⟨h1, _⟩, _⟩, h4⟩, _⟩ := h
    have hs : d.s = [] := by simpa using h4
    unfold splitD splitC
    rw [cut_class h1.1, if_neg (by simp), if_pos (by simp only [ownCl, Bool.and_eq_true]; exact h1), hs]
  · rw [if_pos hk]
    rw [rightD_two hk] at h
    simp only [rightM, Bool.and_eq_true] at h
    obtain ⟨⟨⟨⟨h1, h2⟩, _⟩, _⟩, _⟩ := h
    unfold splitD splitC
    rw [cut_method h1, if_pos rfl, if_pos (by rw [h1, h2]; rfl)]

theorem key_kind {a b : DD} (ha : rightD a = true) (hb : rightD b = true) (h : keyD a = keyD b) : a.k = b.k := by
  have e : ∀ {d : DD}, rightD d = true → (d.k = 1 ∧ (Lib.cut (keyD d) [62, 62]).2.2 = false) ∨ (d.k = 2 ∧ (Lib.cut (keyD d) [62, 62]).2.2 = true) := by
    intro d h
    unfold keyD
    rw [if_pos h]
    rcases right_kind h with hk | hk
    · refine .inl ⟨hk, ?_⟩
      rw [if_neg (by rw [hk]; decide)]
      rw [rightD_one hk] at h
      simp only [rightC, Bool.and_eq_true, ownCl] at h
      rw [cut_class h.1.1.1.1.1]
    · refine .inr ⟨hk, ?_⟩
      rw [if_pos hk]
      rw [rightD_two hk] at h
      simp only [rightM, Bool.and_eq_true] at h
      rw [cut_method h.1.1.1.1]
  rcases e ha with ⟨h1, h2⟩ | ⟨h1, h2⟩ <;> rcases e hb with ⟨h3, h4⟩ | ⟨h3, h4⟩
  · rw [h1, h3]
  · rw [h, h4] at h2; cases h2
  · rw [h, h4] at h2; cases h2
  · rw [h1, h3]

theorem key_ne {d : DD} (h : rightD d = true) : keyD d ≠ [] := by
  intro e
  have := split_key h
  rw [e] at this
  have e2 : splitD [] = ([], [], false) := by decide +kernel
  rw [e2] at this
  have := congrArg (fun r => r.2.2) this
  cases this

end Go.Mk
