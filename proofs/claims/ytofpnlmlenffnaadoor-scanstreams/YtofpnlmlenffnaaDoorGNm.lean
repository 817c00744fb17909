/-
  Lemmas towards the claim of this folder: contracts of the functions that the law reaches; joined texts.
-/
import Derived.Test.YtofpnlmlenffnaaDoorMk
/-
  NAMES AND SELECTORS over lists of bytes (plain, over no program): names, kinds, keywords' parts.
-/
namespace Go.Mk

def lowI (c : Int) : Bool := decide (97 ≤ c) && decide (c ≤ 122)
def uppI (c : Int) : Bool := decide (65 ≤ c) && decide (c ≤ 90)
def digI (c : Int) : Bool := decide (48 ≤ c) && decide (c ≤ 57)
def alnI (c : Int) : Bool := lowI c || uppI c || digI c

def low (b : UInt8) : Bool := lowI b.toNat
def upp (b : UInt8) : Bool := uppI b.toNat
def lett (b : UInt8) : Bool := low b || upp b
def aln (b : UInt8) : Bool := alnI b.toNat

/-- The characters of binary selectors. -/
def marks : List UInt8 := [43, 45, 42, 47, 60, 62, 61, 126, 38, 44, 64, 37]

def lenIn (l : List UInt8) (m : Nat) : Bool := decide (1 ≤ l.length) && decide (l.length ≤ m)
def isNm (l : List UInt8) : Bool := lenIn l 40 && lett (l.headD 0) && l.all aln
def isUn (l : List UInt8) : Bool := isNm l && low (l.headD 0)
def isCl (l : List UInt8) : Bool := isNm l && upp (l.headD 0)
def isBi (l : List UInt8) : Bool := lenIn l 2 && l.all marks.contains

def resv : List (List UInt8) := [[115, 101, 108, 102], [115, 117, 112, 101, 114], [110, 105, 108], [116, 114, 117, 101], [102, 97, 108, 115, 101]]
def builtins : List (List UInt8) := [[79, 98, 106, 101, 99, 116], [78, 105, 108], [66, 111, 111, 108, 101, 97, 110], [73, 110, 116, 101, 103, 101, 114], [83, 116, 114, 105, 110, 103], [83, 121, 109, 98, 111, 108], [65, 114, 114, 97, 121], [66, 108, 111, 99, 107], [67, 108, 97, 115, 115], [83, 121, 115, 116, 101, 109]]
def isVa (l : List UInt8) : Bool := isUn l && !resv.contains l

/-- One byte more: the pieces that a colon has ended, and the piece that is open. -/
def cutS (st : List (List UInt8) × List UInt8) (c : UInt8) : List (List UInt8) × List UInt8 := if c = 58 then (st.1 ++ [st.2 ++ [58]], []) else (st.1, st.2 ++ [c])
def cutL (l : List UInt8) : List (List UInt8) × List UInt8 := l.foldl cutS ([], [])

def goodP (p : List UInt8) : Bool := isUn p.dropLast
def kwL (l : List UInt8) : List (List UInt8) := if (cutL l).2 = [] ∧ (cutL l).1.length ≤ 10 ∧ (cutL l).1.all goodP = true then (cutL l).1 else []

def kindL (l : List UInt8) : Nat := if isUn l = true then 1 else if isBi l = true then 2 else if kwL l = [] then 0 else 3
def argsL (l : List UInt8) : Int := if isUn l = true then 0 else if isBi l = true then 1 else if kwL l = [] then -1 else (kwL l).length
def partsL (l : List UInt8) : List (List UInt8) := if isUn l = true then [l] else if isBi l = true then [l] else kwL l
def joinL (ps : List (List UInt8)) : List UInt8 := if partsL ps.flatten = ps then ps.flatten else []

theorem cutL_take (l : List UInt8) (j : Nat) (h : j < l.length) : cutL (l.take (j + 1)) = cutS (cutL (l.take j)) l[j] := by
  have e : l.take (j + 1) = l.take j ++ [l[j]] := by rw [List.take_add_one, List.getElem?_eq_getElem h]; rfl
  rw [e]
  unfold cutL
  rw [List.foldl_append]
  rfl

theorem cut_flat (l : List UInt8) : ∀ st : List (List UInt8) × List UInt8, (l.foldl cutS st).1.flatten ++ (l.foldl cutS st).2 = st.1.flatten ++ st.2 ++ l := by
  induction l with
  | nil => intro st; simp
  | cons c l ih =>
    intro st
    rw [List.foldl_cons, ih]
    unfold cutS
    split
    · rename_i h; subst h; simp
    · simp

theorem cutL_flat (l : List UInt8) : (cutL l).1.flatten ++ (cutL l).2 = l := by
  have := cut_flat l ([], [])
  unfold cutL
  simpa using this

/-- The pieces only grow. -/
theorem cut_pre (l : List UInt8) : ∀ st : List (List UInt8) × List UInt8, st.1 <+: (l.foldl cutS st).1 := by
  induction l with
  | nil => intro st; exact List.prefix_refl _
  | cons c l ih =>
    intro st
    rw [List.foldl_cons]
    refine List.IsPrefix.trans ?_ (ih (cutS st c))
    unfold cutS
    split
    · exact List.prefix_append _ _
    · exact List.prefix_refl _

theorem cutL_pre (l : List UInt8) (j : Nat) : (cutL (l.take j)).1 <+: (cutL l).1 := by
  have e : cutL l = (l.drop j).foldl cutS (cutL (l.take j)) := by
    unfold cutL
    rw [← List.foldl_append, List.take_append_drop]
  rw [e]
  exact cut_pre _ _

theorem kw_bad {l : List UInt8} (j : Nat) (p : List UInt8) (hp : p ∈ (cutL (l.take j)).1) (hb : goodP p = false) : kwL l = [] := by
  unfold kwL
  rw [if_neg]
  rintro ⟨_, _, h⟩
  have hm : p ∈ (cutL l).1 := (cutL_pre l j).subset hp
  have := List.all_eq_true.1 h p hm
  rw [hb] at this
  cases this

theorem kw_many {l : List UInt8} (j : Nat) (h : 10 < (cutL (l.take j)).1.length) : kwL l = [] := by
  unfold kwL
  rw [if_neg]
  rintro ⟨_, h2, _⟩
  have := (cutL_pre l j).length_le
  omega

theorem aln_128 {b : UInt8} (h : 128 ≤ b.toNat) : aln b = false := by
  simp [aln, alnI, lowI, uppI, digI]
  omega

theorem isUn_all {l : List UInt8} (h : isUn l = true) : ∀ b ∈ l, aln b = true := by
  simp only [isUn, isNm, Bool.and_eq_true, List.all_eq_true] at h
  exact h.1.2

/-- A text with a byte beyond ASCII is no keyword selector. -/
theorem kw_high {l : List UInt8} (b : UInt8) (hb : b ∈ l) (h : 128 ≤ b.toNat) : kwL l = [] := by
  unfold kwL
  rw [if_neg]
  rintro ⟨h1, _, h3⟩
  have hf := cutL_flat l
  rw [h1, List.append_nil] at hf
  rw [← hf] at hb
  obtain ⟨p, hp, hbp⟩ := List.mem_flatten.1 hb
  have hg := List.all_eq_true.1 h3 p hp
  have hne : p ≠ [] := fun e => by rw [e] at hbp; cases hbp
  have hlast : ∀ (l : List UInt8) (st : List (List UInt8) × List UInt8), (∀ q ∈ st.1, ∃ r, q = r ++ [58]) → ∀ q ∈ (l.foldl cutS st).1, ∃ r, q = r ++ [58] := by
    intro l
    induction l with
    | nil => intro st h; exact h
    | cons c l ih =>
      intro st h
      rw [List.foldl_cons]
      refine ih _ ?_
      unfold cutS
      split
      · intro q hq
        rcases List.mem_append.1 hq with hq | hq
        · exact h q hq
        · exact ⟨st.2, by simpa using hq⟩
      · exact h
  obtain ⟨r, rfl⟩ := hlast l ([], []) (by simp) p hp
  unfold goodP at hg
  rw [List.dropLast_concat] at hg
  rcases List.mem_append.1 hbp with hr | hr
  · have := isUn_all hg b hr
    rw [aln_128 h] at this
    cases this
  · simp at hr
    subst hr
    simp at h

theorem kw_end {l : List UInt8} (h : (cutL l).2 ≠ []) : kwL l = [] := by
  unfold kwL
  rw [if_neg]
  rintro ⟨h1, _⟩
  exact h h1

theorem kw_ok {l : List UInt8} (h : (cutL l).2 = []) (h2 : (cutL l).1.length ≤ 10) (h3 : (cutL l).1.all goodP = true) : kwL l = (cutL l).1 := by
  unfold kwL
  rw [if_pos ⟨h, h2, h3⟩]

theorem kw_flat {l : List UInt8} (h : kwL l ≠ []) : (kwL l).flatten = l := by
  unfold kwL at h ⊢
  split
  · rename_i hc
    have := cutL_flat l
    rw [hc.1, List.append_nil] at this
    exact this
  · rename_i hc
    rw [if_neg hc] at h
    exact (h rfl).elim

theorem kw_len (l : List UInt8) : (kwL l).length ≤ 10 := by
  unfold kwL
  split
  · rename_i h; exact h.2.1
  · simp

theorem kind_le (l : List UInt8) : kindL l ≤ 3 := by
  unfold kindL
  repeat' split
  all_goals omega

theorem kind_parts (l : List UInt8) : (kindL l = 0 → partsL l = []) ∧ (kindL l ≠ 0 → (partsL l).flatten = l) := by
  unfold kindL partsL
  repeat' split
  · exact ⟨by simp, by simp⟩
  · exact ⟨by simp, by simp⟩
  · rename_i h; exact ⟨fun _ => h, by simp⟩
  · rename_i h; exact ⟨by simp, fun _ => kw_flat h⟩

theorem kind_args (l : List UInt8) : decide (0 ≤ argsL l) = decide (0 < kindL l) := by
  unfold argsL kindL
  repeat' split
  all_goals simp

theorem parts_len (l : List UInt8) : (partsL l).length ≤ 10 := by
  unfold partsL
  repeat' split
  · simp
  · simp
  · exact kw_len l

theorem join_parts {l : List UInt8} (h : kindL l ≠ 0) : joinL (partsL l) = l := by
  unfold joinL
  rw [(kind_parts l).2 h, if_pos rfl]

end Go.Mk

/-
  TOKENS over lists (plain, over no program): the token at the head of a text, all of them, quotes; what stands behind a line end does not matter.
-/
namespace Go.Mk

/-- A token. -/
structure TK where
  k : Int
  x : List UInt8
  n : Int
  at_ : Int
deriving DecidableEq

def digB (b : UInt8) : Bool := digI b.toNat
def wordB (b : UInt8) : Bool := lett b || digB b

/-- The word at the head. -/
def wordLen (l : List UInt8) : Nat := (l.takeWhile wordB).length
def digLen (l : List UInt8) : Nat := (l.takeWhile digB).length
def numL (l : List UInt8) : Int := l.foldl (fun n b => n * 10 + (b.toNat : Int) - 48) 0

/-- What stands in quotes, and how far (the opening one is gone). -/
def strL : List UInt8 → Option (List UInt8 × Nat)
  | [] => none
  | c :: r =>
    if c = 39 then
      match r with
      | [] => some ([], 1)
      | d :: r' => if d = 39 then (strL r').map (fun p => (39 :: p.1, p.2 + 2)) else some ([], 1)
    else (strL r).map (fun p => (c :: p.1, p.2 + 1))

/-- Does a selector of j octets not end within a word? -/
def wholeL (l : List UInt8) (j : Nat) : Bool := !lett (l.headD 0) || (l.getD (j - 1) 0 == 58) || !(wordB (l.getD j 0))
def selAt (l : List UInt8) (j : Nat) : Bool := decide (0 < kindL (l.take j)) && (decide (j = l.length) || wholeL l j)
/-- The longest selector of at most n octets; 0: none. -/
def selTo (l : List UInt8) : Nat → Nat
  | 0 => 0
  | n + 1 => if selAt l (n + 1) = true then n + 1 else selTo l n

def ones : List UInt8 := [40, 41, 91, 93, 123, 125, 46, 94, 124, 58]

/-- The token at the head: its kind, text, number, and how far it goes. -/
def tokL : List UInt8 → Option (Int × List UInt8 × Int × Nat)
  | [] => none
  | c :: r =>
    if lett c = true then
      if 40 < wordLen (c :: r) then none
      else if r[wordLen (c :: r) - 1]? = some 58 ∧ r[wordLen (c :: r)]? ≠ some 61 then some (2, (c :: r).take (wordLen (c :: r) + 1), 0, wordLen (c :: r) + 1)
      else some (1, (c :: r).take (wordLen (c :: r)), 0, wordLen (c :: r))
    else if digB c = true then
      if 9 < digLen (c :: r) then none else some (4, [], numL ((c :: r).take (digLen (c :: r))), digLen (c :: r))
    else if c = 39 then (strL r).map (fun p => (5, p.1, 0, p.2 + 1))
    else if c = 35 then
      if selTo r (min r.length 498) = 0 then none else some (6, r.take (selTo r (min r.length 498)), 0, selTo r (min r.length 498) + 1)
    else if c = 58 ∧ r.head? = some 61 then some (7, [58, 61], 0, 2)
    else if ones.contains c = true then some (7, [c], 0, 1)
    else if isBi [c] = false then none
    else match r with
      | [] => some (3, [c], 0, 1)
      | d :: _ => if isBi [c, d] = true then some (3, [c, d], 0, 2) else some (3, [c], 0, 1)

def blankB (c : UInt8) : Bool := c == 32 || c == 9 || c == 10 || c == 13

/-- All tokens of a text that begins at a place: the error, its place, the tokens. -/
def goAll : Nat → Nat → List UInt8 → Int × Int × List TK
  | 0, at_, _ => (0, 0, [⟨0, [], 0, at_⟩])
  | _ + 1, at_, [] => (0, 0, [⟨0, [], 0, at_⟩])
  | f + 1, at_, c :: r =>
    if blankB c = true then goAll f (at_ + 1) r
    else if c = 34 then
      if (r.takeWhile (· != 34)).length = r.length then (40, at_, [])
      else goAll f (at_ + (r.takeWhile (· != 34)).length + 2) (r.drop ((r.takeWhile (· != 34)).length + 1))
    else match tokL (c :: r) with
      | none => (40, at_, [])
      | some (k, x, n, m) =>
        let q := goAll f (at_ + m) ((c :: r).drop m)
        if q.1 = 0 then (0, 0, ⟨k, x, n, at_⟩ :: q.2.2) else q

def allL (l : List UInt8) : Int × Int × List TK := if 4000 < l.length then (21, 0, []) else goAll (l.length + 1) 0 l

/-! ### Quotes -/

def dblL : List UInt8 → List UInt8
  | [] => []
  | c :: r => if c = 39 then 39 :: 39 :: dblL r else c :: dblL r
def quoteL (l : List UInt8) : List UInt8 := 39 :: (dblL l ++ [39])

theorem strL_other {c : UInt8} (r : List UInt8) (h : c ≠ 39) : strL (c :: r) = (strL r).map (fun p => (c :: p.1, p.2 + 1)) := by
  rw [strL.eq_def]
  simp [h]
theorem strL_two (r : List UInt8) : strL (39 :: 39 :: r) = (strL r).map (fun p => (39 :: p.1, p.2 + 2)) := by
  rw [strL.eq_def]
  simp
theorem strL_end {t : List UInt8} (ht : t.head? ≠ some 39) : strL (39 :: t) = some ([], 1) := by
  rw [strL.eq_def]
  cases t with
  | nil => simp
  | cons d t => simp at ht; simp [ht]

theorem strL_dbl (l : List UInt8) (t : List UInt8) (ht : t.head? ≠ some 39) : strL (dblL l ++ 39 :: t) = some (l, (dblL l).length + 1) := by
  induction l with
  | nil => simpa [dblL] using strL_end ht
  | cons c r ih =>
    by_cases hc : c = 39
    · subst hc
      simp only [dblL, if_true, List.cons_append]
      rw [strL_two, ih]
      simp
    · simp only [dblL, if_neg hc, List.cons_append]
      rw [strL_other _ hc, ih]
      simp

theorem dbl_len (l : List UInt8) : (dblL l).length ≤ 2 * l.length := by
  induction l with
  | nil => simp [dblL]
  | cons c r ih => simp only [dblL]; split <;> simp <;> omega

theorem quote_all (l : List UInt8) (hl : l.length ≤ 1000) : allL (quoteL l) = (0, 0, [⟨5, l, 0, 0⟩, ⟨0, [], 0, ((quoteL l).length : Nat)⟩]) := by
  have h1 := strL_dbl l [] (by simp)
  have h2 := dbl_len l
  have hlen : (quoteL l).length = (dblL l).length + 2 := by simp [quoteL]
  have ht : tokL (quoteL l) = some (5, l, 0, (quoteL l).length) := by
    unfold quoteL
    simp only [tokL]
    rw [if_neg (by decide), if_neg (by decide), if_pos trivial, h1]
    simp
  unfold allL
  rw [if_neg (by omega), hlen]
  have hd : (quoteL l).drop ((dblL l).length + 2) = [] := by rw [← hlen]; exact List.drop_length
  rw [hlen] at ht
  unfold quoteL at ht hd ⊢
  simp only [goAll]
  rw [if_neg (by decide), if_neg (by decide), ht]
  simp only [hd]
  simp [goAll]

end Go.Mk
