/-
  NAMES AND SELECTORS over lists of bytes (plain, over no program): names, kinds, keywords' parts.
-/
import Derived.Test.YtecjecdgjmipcaaGreatMk
namespace Go.Mk

def lowI (c : Int) : Bool := decide (97 ≤ c) && decide (c ≤ 122)
def uppI (c : Int) : Bool := decide (65 ≤ c) && decide (c ≤ 90)
def digI (c : Int) : Bool := decide (48 ≤ c) && decide (c ≤ 57)
def alnI (c : Int) : Bool := lowI c || uppI c || digI c

def low (b : UInt8) : Bool := lowI b.toNat
def upp (b : UInt8) : Bool := uppI b.toNat
def lett (b : UInt8) : Bool := low b || upp b
def aln (b : UInt8) : Bool := alnI b.toNat

/-- The characters of binary selectors. -/
def marks : List UInt8 := [43, 45, 42, 47, 60, 62, 61, 126, 38, 44, 64, 37]

def lenIn (l : List UInt8) (m : Nat) : Bool := decide (1 ≤ l.length) && decide (l.length ≤ m)
def isNm (l : List UInt8) : Bool := lenIn l 40 && lett (l.headD 0) && l.all aln
def isUn (l : List UInt8) : Bool := isNm l && low (l.headD 0)
def isCl (l : List UInt8) : Bool := isNm l && upp (l.headD 0)
def isBi (l : List UInt8) : Bool := lenIn l 2 && l.all marks.contains

def resv : List (List UInt8) := [[115, 101, 108, 102], [115, 117, 112, 101, 114], [110, 105, 108], [116, 114, 117, 101], [102, 97, 108, 115, 101]]
def builtins : List (List UInt8) := [[79, 98, 106, 101, 99, 116], [78, 105, 108], [66, 111, 111, 108, 101, 97, 110], [73, 110, 116, 101, 103, 101, 114], [83, 116, 114, 105, 110, 103], [83, 121, 109, 98, 111, 108], [65, 114, 114, 97, 121], [66, 108, 111, 99, 107], [67, 108, 97, 115, 115], [83, 121, 115, 116, 101, 109]]
def isVa (l : List UInt8) : Bool := isUn l && !resv.contains l

/-- One byte more: the pieces that a colon has ended, and the piece that is open. -/
def cutS (st : List (List UInt8) × List UInt8) (c : UInt8) : List (List UInt8) × List UInt8 := if c = 58 then (st.1 ++ [st.2 ++ [58]], []) else (st.1, st.2 ++ [c])
def cutL (l : List UInt8) : List (List UInt8) × List UInt8 := l.foldl cutS ([], [])

def goodP (p : List UInt8) : Bool := isUn p.dropLast
def kwL (l : List UInt8) : List (List UInt8) := if (cutL l).2 = [] ∧ (cutL l).1.length ≤ 10 ∧ (cutL l).1.all goodP = true then (cutL l).1 else []

def kindL (l : List UInt8) : Nat := if isUn l = true then 1 else if isBi l = true then 2 else if kwL l = [] then 0 else 3
def argsL (l : List UInt8) : Int := if isUn l = true then 0 else if isBi l = true then 1 else if kwL l = [] then -1 else (kwL l).length
def partsL (l : List UInt8) : List (List UInt8) := if isUn l = true then [l] else if isBi l = true then [l] else kwL l
def joinL (ps : List (List UInt8)) : List UInt8 := if partsL ps.flatten = ps then ps.flatten else []

theorem cutL_take (l : List UInt8) (j : Nat) (h : j < l.length) : cutL (l.take (j + 1)) = cutS (cutL (l.take j)) l[j] := by
  have e : l.take (j + 1) = l.take j ++ [l[j]] := by rw [List.take_add_one, List.getElem?_eq_getElem h]; rfl
  rw [e]
  unfold cutL
  rw [List.foldl_append]
  rfl

theorem cut_flat (l : List UInt8) : ∀ st : List (List UInt8) × List UInt8, (l.foldl cutS st).1.flatten ++ (l.foldl cutS st).2 = st.1.flatten ++ st.2 ++ l := by
  induction l with
  | nil => intro st; simp
  | cons c l ih =>
    intro st
    rw [List.foldl_cons, ih]
    unfold cutS
    split
    · rename_i h; subst h; simp
    · simp

theorem cutL_flat (l : List UInt8) : (cutL l).1.flatten ++ (cutL l).2 = l := by
  have := cut_flat l ([], [])
  unfold cutL
  simpa using this

/-- The pieces only grow. -/
theorem cut_pre (l : List UInt8) : ∀ st : List (List UInt8) × List UInt8, st.1 <+: (l.foldl cutS st).1 := by
  induction l with
  | nil => intro st; exact List.prefix_refl _
  | cons c l ih =>
    intro st
    rw [List.foldl_cons]
    refine List.IsPrefix.trans ?_ (ih (cutS st c))
    unfold cutS
    split
    · exact List.prefix_append _ _
    · exact List.prefix_refl _

theorem cutL_pre (l : List UInt8) (j : Nat) : (cutL (l.take j)).1 <+: (cutL l).1 := by
  have e : cutL l = (l.drop j).foldl cutS (cutL (l.take j)) := by
    unfold cutL
    rw [← List.foldl_append, List.take_append_drop]
  rw [e]
  exact cut_pre _ _

theorem kw_bad {l : List UInt8} (j : Nat) (p : List UInt8) (hp : p ∈ (cutL (l.take j)).1) (hb : goodP p = false) : kwL l = [] := by
  unfold kwL
  rw [if_neg]
  rintro ⟨_, _, h⟩
  have hm : p ∈ (cutL l).1 := (cutL_pre l j).subset hp
  have := List.all_eq_true.1 h p hm
  rw [hb] at this
  cases this

theorem kw_many {l : List UInt8} (j : Nat) (h : 10 < (cutL (l.take j)).1.length) : kwL l = [] := by
  unfold kwL
  rw [if_neg]
  rintro ⟨_, h2, _⟩
  have := (cutL_pre l j).length_le
  omega

theorem aln_128 {b : UInt8} (h : 128 ≤ b.toNat) : aln b = false := by
  simp [aln, alnI, lowI, uppI, digI]
  omega

theorem isUn_all {l : List UInt8} (h : isUn l = true) : ∀ b ∈ l, aln b = true := by
  simp only [isUn, isNm, Bool.and_eq_true, List.all_eq_true] at h
  exact h.1.2

/-- A text with a byte beyond ASCII is no keyword selector. -/
theorem kw_high {l : List UInt8} (b : UInt8) (hb : b ∈ l) (h : 128 ≤ b.toNat) : kwL l = [] := by
  unfold kwL
  rw [if_neg]
  rintro ⟨h1, _, h3⟩
  have hf := cutL_flat l
  rw [h1, List.append_nil] at hf
  rw [← hf] at hb
  obtain ⟨p, hp, hbp⟩ := List.mem_flatten.1 hb
  have hg := List.all_eq_true.1 h3 p hp
  have hne : p ≠ [] := fun e => by rw [e] at hbp; cases hbp
  have hlast : ∀ (l : List UInt8) (st : List (List UInt8) × List UInt8), (∀ q ∈ st.1, ∃ r, q = r ++ [58]) → ∀ q ∈ (l.foldl cutS st).1, ∃ r, q = r ++ [58] := by
    intro l
    induction l with
    | nil => intro st h; exact h
    | cons c l ih =>
      intro st h
      rw [List.foldl_cons]
      refine ih _ ?_
      unfold cutS
      split
      · intro q hq
        rcases List.mem_append.1 hq with hq | hq
        · exact h q hq
        · exact ⟨st.2, by simpa using hq⟩
      · exact h
  obtain ⟨r, rfl⟩ := hlast l ([], []) (by simp) p hp
  unfold goodP at hg
  rw [List.dropLast_concat] at hg
  rcases List.mem_append.1 hbp with hr | hr
  · have := isUn_all hg b hr
    rw [aln_128 h] at this
    cases this
  · simp at hr
    subst hr
    simp at h

theorem kw_end {l : List UInt8} (h : (cutL l).2 ≠ []) : kwL l = [] := by
  unfold kwL
  rw [if_neg]
  rintro ⟨h1, _⟩
  exact h h1

theorem kw_ok {l : List UInt8} (h : (cutL l).2 = []) (h2 : (cutL l).1.length ≤ 10) (h3 : (cutL l).1.all goodP = true) : kwL l = (cutL l).1 := by
  unfold kwL
  rw [if_pos ⟨h, h2, h3⟩]

theorem kw_flat {l : List UInt8} (h : kwL l ≠ []) : (kwL l).flatten = l := by
  unfold kwL at h ⊢
  split
  · rename_i hc
    have := cutL_flat l
    rw [hc.1, List.append_nil] at this
    exact this
  · rename_i hc
    rw [if_neg hc] at h
    exact (h rfl).elim

theorem kw_len (l : List UInt8) : (kwL l).length ≤ 10 := by
  unfold kwL
  split
  · rename_i h; exact h.2.1
  · simp

theorem kind_le (l : List UInt8) : kindL l ≤ 3 := by
  unfold kindL
  repeat' split
  all_goals omega

theorem kind_parts (l : List UInt8) : (kindL l = 0 → partsL l = []) ∧ (kindL l ≠ 0 → (partsL l).flatten = l) := by
  unfold kindL partsL
  repeat' split
  · exact ⟨by simp, by simp⟩
  · exact ⟨by simp, by simp⟩
  · rename_i h; exact ⟨fun _ => h, by simp⟩
  · rename_i h; exact ⟨by simp, fun _ => kw_flat h⟩

theorem kind_args (l : List UInt8) : decide (0 ≤ argsL l) = decide (0 < kindL l) := by
  unfold argsL kindL
  repeat' split
  all_goals simp

theorem parts_len (l : List UInt8) : (partsL l).length ≤ 10 := by
  unfold partsL
  repeat' split
  · simp
  · simp
  · exact kw_len l

theorem join_parts {l : List UInt8} (h : kindL l ≠ 0) : joinL (partsL l) = l := by
  unfold joinL
  rw [(kind_parts l).2 h, if_pos rfl]

end Go.Mk
