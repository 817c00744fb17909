/-
  DEFINITIONS over lists (plain, over no program): valid ones, their keys, a key's parts, their encoding and how it is read.
-/
import Derived.Test.YtecjecdgjmipcaaGreatNm
import Derived.Lib.IndexMore
namespace Go.Mk

structure DD where
  k : Int
  c : List UInt8
  p : List UInt8
  vs : List (List UInt8)
  s : List UInt8
  t : List UInt8
deriving DecidableEq

def zeroD : DD := ⟨0, [], [], [], [], []⟩

/-- The i-th is a variable name, and none before it is the same. -/
def varAt (vs : List (List UInt8)) (i : Nat) : Bool := isVa (vs.getD i []) && !(vs.take i).contains (vs.getD i [])
def varsTo (vs : List (List UInt8)) (n : Nat) : Bool := (List.range n).all (varAt vs)
def varsL (vs : List (List UInt8)) : Bool := varsTo vs vs.length
def areVars (vs : List (List UInt8)) : Bool := decide (vs.length ≤ 20) && varsL vs

def ownCl (l : List UInt8) : Bool := isCl l && !builtins.contains l
def isSel (l : List UInt8) : Bool := decide (kindL l ≠ 0)

def rightC (d : DD) : Bool := ownCl d.c && isCl d.p && areVars d.vs && d.s.isEmpty && d.t.isEmpty
def rightM (d : DD) : Bool := isCl d.c && isSel d.s && decide (d.t.length ≤ 4000) && d.p.isEmpty && d.vs.isEmpty
def rightD (d : DD) : Bool := if d.k = 1 then rightC d else if d.k = 2 then rightM d else false

def keyD (d : DD) : List UInt8 := if rightD d = true then (if d.k = 2 then d.c ++ [62, 62] ++ d.s else d.c) else []

def splitC (r : List UInt8 × List UInt8 × Bool) : List UInt8 × List UInt8 × Bool :=
  if r.2.2 = true then (if (isCl r.1 && isSel r.2.1) = true then (r.1, r.2.1, true) else ([], [], false)) else if ownCl r.1 = true then (r.1, [], true) else ([], [], false)
def splitD (l : List UInt8) : List UInt8 × List UInt8 × Bool := splitC (Lib.cut l [62, 62])

/-- All fields are equal. -/
def sameB (a b : DD) : Bool := a.k == b.k && a.c == b.c && a.p == b.p && a.vs == b.vs && a.s == b.s && a.t == b.t

theorem sameB_iff (a b : DD) : sameB a b = true ↔ a = b := by
  obtain ⟨k, c, p, vs, s, t⟩ := a
  obtain ⟨k', c', p', vs', s', t'⟩ := b
  simp [sameB, and_assoc]

theorem sameB_refl (a : DD) : sameB a a = true := (sameB_iff a a).2 rfl

theorem varsTo_succ (vs : List (List UInt8)) (n : Nat) : varsTo vs (n + 1) = (varsTo vs n && varAt vs n) := by
  unfold varsTo
  rw [List.range_succ, List.all_append]
  simp

theorem varAt_lt {vs : List (List UInt8)} {i : Nat} (h : i < vs.length) : varAt vs i = (isVa vs[i] && !(vs.take i).contains vs[i]) := by
  unfold varAt
  rw [List.getD_eq_getElem?_getD, List.getElem?_eq_getElem h]
  rfl

theorem varsL_no {vs : List (List UInt8)} {i : Nat} (h : i < vs.length) (hn : varAt vs i = false) : varsL vs = false := by
  unfold varsL varsTo
  rw [List.all_eq_false]
  exact ⟨i, List.mem_range.2 h, by simp [hn]⟩

theorem rightD_one {d : DD} (h : d.k = 1) : rightD d = rightC d := by simp [rightD, h]
theorem rightD_two {d : DD} (h : d.k = 2) : rightD d = rightM d := by simp [rightD, h]
theorem rightD_no {d : DD} (h : d.k ≠ 1) (h2 : d.k ≠ 2) : rightD d = false := by simp [rightD, h, h2]

theorem right_kind {d : DD} (h : rightD d = true) : d.k = 1 ∨ d.k = 2 := by
  by_cases h1 : d.k = 1
  · exact .inl h1
  · by_cases h2 : d.k = 2
    · exact .inr h2
    · rw [rightD_no h1 h2] at h; cases h

end Go.Mk
