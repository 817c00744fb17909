/-
  Lemmas towards the claim of this folder: contracts of the functions that the law reaches; joined texts.
-/
import Derived.Test.YtofpnlmlenffnaaDoorGWr
import Derived.Deep.CutBlock
import Derived.Deep.DeepCutAuto
import Derived.Test.YtofpnlmlenffnaaDoorGNm
import Derived.Lib.IndexMore
/-
  CONTRACTS of package octet's Reader.
-/
namespace Go.Proofs.YtofpnlmlenffnaaDoor
open Go.RowKit Go.Mk

/-- The number whose most significant byte comes first. -/
def natB (l : List UInt8) : Nat := l.foldl (fun n x => n * 256 + x.toNat) 0

theorem natB_snoc (l : List UInt8) (x : UInt8) : natB (l ++ [x]) = natB l * 256 + x.toNat := by simp [natB, List.foldl_append]
theorem natB_lt (l : List UInt8) : natB l < 256 ^ l.length := by
  have : ∀ (l : List UInt8) (n k : Nat), n < 256 ^ k → l.foldl (fun n x => n * 256 + x.toNat) n < 256 ^ (k + l.length) := by
    intro l
    induction l with
    | nil => intro n k h; simpa using h
    | cons x l ih =>
      intro n k h
      have h1 := x.toNat_lt
      have h2 := ih (n * 256 + x.toNat) (k + 1) (by rw [Nat.pow_succ]; omega)
      rw [List.foldl_cons, List.length_cons, show k + (l.length + 1) = k + 1 + l.length by omega]
      exact h2
  have h := this l 0 0 (by simp)
  simpa [natB] using h

theorem big_or (n : Nat) (x : UInt8) (h : n * 256 + 256 ≤ 18446744073709551616) : bits BinOp.or IntKind.u64 (IntKind.u64.wrap ((n : Int) * 256)) (IntKind.u64.wrap (x.toNat : Int)) = ((n * 256 + x.toNat : Nat) : Int) := by
  have hx := x.toNat_lt
  have e1 : IntKind.u64.wrap ((n : Int) * 256) = ((n * 256 : Nat) : Int) := by rw [IntKind.wrap_u64]; omega
  have e2 : IntKind.u64.wrap (x.toNat : Int) = (x.toNat : Int) := by rw [IntKind.wrap_u64]; omega
  rw [e1, e2, u64_or_nat _ _ (by omega) (by omega)]
  have := Nat.two_pow_add_eq_or_of_lt (i := 8) (b := x.toNat) (by omega) n
  rw [Nat.mul_comm n 256]
  congr 1
  exact this.symm

/-- What a Reader holds: the bytes that are left, and its error. -/
structure RS where
  rest : List UInt8
  err : Int

def RS.num (s : RS) : RS × Int :=
  if s.err ≠ 0 then (s, 0) else if s.rest.length < 4 then (⟨s.rest, 10⟩, 0) else if 2147483647 < natB (s.rest.take 4) then (⟨s.rest, 11⟩, 0) else (⟨s.rest.drop 4, 0⟩, natB (s.rest.take 4))
def RS.int (s : RS) : RS × Int :=
  if s.err ≠ 0 then (s, 0) else if s.rest.length < 8 then (⟨s.rest, 10⟩, 0) else (⟨s.rest.drop 8, 0⟩, wrap64 (natB (s.rest.take 8)))
def RS.text (s : RS) : RS × List UInt8 :=
  if s.num.1.err ≠ 0 then (⟨s.rest, s.num.1.err⟩, []) else if s.num.1.rest.length < s.num.2.toNat then (⟨s.rest, 10⟩, []) else (⟨s.num.1.rest.drop s.num.2.toNat, 0⟩, s.num.1.rest.take s.num.2.toNat)

/-- The Reader at block b: its slice at ao, of capacity cap, its bytes in D. -/
structure Rd (w : World) (D : Nat → Prop) (b : Nat) (ao : Option Addr) (cap : Nat) (s : RS) : Prop where
  c0 : w.cell? ⟨b, 0, none⟩ = some (.slice ao s.rest.length cap)
  c1 : w.cell? ⟨b, 1, none⟩ = some (.int .i64 s.err)
  f0 : w.frozen? ⟨b, 0, none⟩ = false
  f1 : w.frozen? ⟨b, 1, none⟩ = false
  le : s.rest.length ≤ cap
  max : cap ≤ maxLen
  lies : Lies w w.heap.size ao (s.rest.map bv)
  dat : s.rest ≠ [] → ∀ a, ao = some a → D a.block
  nd : ¬ D b

theorem Rd.lt {w : World} {D : Nat → Prop} {b : Nat} {ao : Option Addr} {cap : Nat} {s : RS} (h : Rd w D b ao cap s) : b < w.heap.size := World.block_lt_of_cell? _ _ h.c0

theorem Rd.ne {w : World} {D : Nat → Prop} {b : Nat} {ao : Option Addr} {cap : Nat} {s : RS} (h : Rd w D b ao cap s) : s.rest ≠ [] → ∀ a, ao = some a → a.block ≠ b := fun hn a ha e => h.nd (e ▸ h.dat hn a ha)

/-- A later slice of what it held, stored. -/
theorem Rd.put {w : World} {D : Nat → Prop} {b : Nat} {ao : Option Addr} {cap : Nat} {s : RS} (h : Rd w D b ao cap s) (k : Nat) (hk : k ≤ s.rest.length) (ao' : Option Addr) (hao : ao' = if cap = k then ao else ao.map (·.add k)) :
    Rd (w.setCell ⟨b, 0, none⟩ (.slice ao' (s.rest.length - k) (cap - k))) D b ao' (cap - k) ⟨s.rest.drop k, s.err⟩ := by
  have hle := h.le
  have hmx := h.max
  have kp : Kept (fun k => k = b) w (w.setCell ⟨b, 0, none⟩ (.slice ao' (s.rest.length - k) (cap - k))) := Kept.setCell (p := ⟨b, 0, none⟩) (Kept.refl (fun k => k = b) w) (fun _ => rfl) _
  have hdt : s.rest.drop k ≠ [] → ∀ a, ao' = some a → D a.block := by
    intro hn a ha
    have hne : s.rest ≠ [] := fun e => hn (by simp [e])
    rw [hao] at ha
    split at ha
    · exact h.dat hne a ha
    · obtain ⟨a', rfl, rfl⟩ := Option.map_eq_some_iff.1 ha
      rw [block_add]
      exact h.dat hne a' rfl
  have hls : Lies w w.heap.size ao' ((s.rest.drop k).map bv) := by
    by_cases hc : cap = k
    · have : s.rest.drop k = [] := List.drop_eq_nil_of_le (by omega)
      rw [this]; exact Lies.nil _ _ _
    · rw [hao, if_neg hc, List.map_drop]
      exact h.lies.drop k
  refine ⟨by rw [World.cell?_setCell_same _ _ _ h.c0]; simp, ?_, ?_, ?_, by simp; omega, by omega, ?_, hdt, h.nd⟩
  · rw [World.cell?_setCell_other _ _ _ _ (by simp)]; exact h.c1
  · rw [World.frozen?_setCell]; exact h.f0
  · rw [World.frozen?_setCell]; exact h.f1
  · exact (hls.kept kp (fun hn a ha e => h.nd (e ▸ hdt (fun e => hn (by rw [e]; rfl)) a ha))).mono kp.size

theorem Rd.fail {w : World} {D : Nat → Prop} {b : Nat} {ao : Option Addr} {cap : Nat} {s : RS} (h : Rd w D b ao cap s) (e : Int) : Rd (w.setCell ⟨b, 1, none⟩ (.int .i64 e)) D b ao cap ⟨s.rest, e⟩ := by
  have kp : Kept (fun k => k = b) w (w.setCell ⟨b, 1, none⟩ (.int .i64 e)) := Kept.setCell (p := ⟨b, 1, none⟩) (Kept.refl (fun k => k = b) w) (fun _ => rfl) _
  refine ⟨?_, World.cell?_setCell_same _ _ _ h.c1, ?_, ?_, h.le, h.max, ?_, h.dat, h.nd⟩
  · rw [World.cell?_setCell_other _ _ _ _ (by simp)]; exact h.c0
  · rw [World.frozen?_setCell]; exact h.f0
  · rw [World.frozen?_setCell]; exact h.f1
  · exact (h.lies.kept kp (fun hn a ha e => h.ne (fun e => hn (by rw [e]; rfl)) a ha e)).mono kp.size

def RdPost (w : World) (D : Nat → Prop) (b : Nat) (v : Value) (s' : RS) (e : Ending) (w' : World) : Prop := e = .returned v ∧ (∃ ao' cap', Rd w' D b ao' cap' s') ∧ Kept (fun k => k = b) w w'

/-- What Num leaves. -/
theorem RS.num_cases (s : RS) : (s.num.1.err ≠ 0 ∧ s.num = (⟨s.rest, s.num.1.err⟩, 0)) ∨ (s.err = 0 ∧ 4 ≤ s.rest.length ∧ ∃ n : Nat, n ≤ 2147483647 ∧ s.num = (⟨s.rest.drop 4, 0⟩, (n : Int))) := by
  unfold RS.num
  by_cases he : s.err = 0
  · by_cases h4 : s.rest.length < 4
    · left; simp [he, h4]
    · by_cases hb : 2147483647 < natB (s.rest.take 4)
      · left; simp [he, h4, hb]
      · right
        refine ⟨he, by omega, natB (s.rest.take 4), by omega, ?_⟩
        simp [he, h4, hb]
  · left; simp [he]

/-- The old slice, stored again. -/
theorem Rd.back {w w1 : World} {D : Nat → Prop} {b : Nat} {ao ao1 : Option Addr} {cap cap1 : Nat} {s s1 : RS} (h : Rd w D b ao cap s) (h1 : Rd w1 D b ao1 cap1 s1) (hk : Kept (fun k => k = b) w w1) :
    Rd (w1.setCell ⟨b, 0, none⟩ (.slice ao s.rest.length cap)) D b ao cap ⟨s.rest, s1.err⟩ := by
  have kp : Kept (fun k => k = b) w (w1.setCell ⟨b, 0, none⟩ (.slice ao s.rest.length cap)) := Kept.setCell (p := ⟨b, 0, none⟩) hk (fun _ => rfl) _
  refine ⟨World.cell?_setCell_same _ _ _ h1.c0, ?_, ?_, ?_, h.le, h.max, ?_, h.dat, h.nd⟩
  · rw [World.cell?_setCell_other _ _ _ _ (by simp)]; exact h1.c1
  · rw [World.frozen?_setCell]; exact h1.f0
  · rw [World.frozen?_setCell]; exact h1.f1
  · exact (h.lies.kept kp (fun hn a ha e => h.ne (fun e => hn (by rw [e]; rfl)) a ha e)).mono kp.size

/-- Texts: the number of texts, then each of them; nothing is consumed where one fails. -/
def RS.many : Nat → RS → RS × List (List UInt8)
  | 0, s => (s, [])
  | n + 1, s => if s.err ≠ 0 then (s, []) else ((RS.many n s.text.1).1, s.text.2 :: (RS.many n s.text.1).2)
def RS.tooMany (s1 : RS) (n : Int) : Bool := decide (s1.err = 0 ∧ (1000000 < n ∨ (s1.rest.length : Int) < n))
def RS.head (s : RS) : RS := if s.num.1.tooMany s.num.2 then ⟨s.num.1.rest, 10⟩ else s.num.1
def RS.texts (s : RS) : RS × List (List UInt8) :=
  if (RS.many s.num.2.toNat s.head).1.err ≠ 0 then (⟨s.rest, (RS.many s.num.2.toNat s.head).1.err⟩, []) else RS.many s.num.2.toNat s.head

def RS.endE (s : RS) : Int := if s.err = 0 ∧ s.rest ≠ [] then 11 else s.err

theorem RS.many_end (n : Nat) (s : RS) (h : n = 0 ∨ s.err ≠ 0) : RS.many n s = (s, []) := by
  cases n with
  | zero => rfl
  | succ n =>
    rcases h with h | h
    · cases h
    · simp [RS.many, h]


/-- What Texts leaves. -/
def RtPost (w : World) (D : Nat → Prop) (b : Nat) (l : List (List UInt8)) (s' : RS) (e : Ending) (w' : World) : Prop :=
  (∃ ao cap, e = .returned (.slice ao l.length cap) ∧ w'.ownsRow w.heap.size 9 1 (.slice ao l.length cap) l.length (strs l)) ∧ (∃ ao' cap', Rd w' D b ao' cap' s') ∧ Kept (fun k => k = b) w w'

theorem Rd.kept {S : Nat → Prop} {w w' : World} {D : Nat → Prop} {b : Nat} {ao : Option Addr} {cap : Nat} {s : RS} (h : Rd w D b ao cap s) (hk : Kept S w w') (hb : ¬ S b) (hn : ∀ k, k < w.heap.size → D k → ¬ S k) : Rd w' D b ao cap s := by
  have hlt := h.lt
  refine ⟨(hk.cell (p := ⟨b, 0, none⟩) hlt hb).trans h.c0, (hk.cell (p := ⟨b, 1, none⟩) hlt hb).trans h.c1, (hk.frozen (p := ⟨b, 0, none⟩) hlt hb).trans h.f0, (hk.frozen (p := ⟨b, 1, none⟩) hlt hb).trans h.f1, h.le, h.max, ?_, h.dat, h.nd⟩
  refine (h.lies.kept hk (fun hne a ha => ?_)).mono hk.size
  obtain ⟨b', o', e, hl, _⟩ := h.lies hne
  have hd := h.dat (by simpa using hne) a ha
  rw [e] at ha; cases ha
  exact hn _ hl hd

end Go.Proofs.YtofpnlmlenffnaaDoor

/-
  DEFINITIONS over lists (plain, over no program): valid ones, their keys, a key's parts, their encoding and how it is read.
-/
namespace Go.Mk

structure DD where
  k : Int
  c : List UInt8
  p : List UInt8
  vs : List (List UInt8)
  s : List UInt8
  t : List UInt8
deriving DecidableEq

def zeroD : DD := ⟨0, [], [], [], [], []⟩

/-- The i-th is a variable name, and none before it is the same. -/
def varAt (vs : List (List UInt8)) (i : Nat) : Bool := isVa (vs.getD i []) && !(vs.take i).contains (vs.getD i [])
def varsTo (vs : List (List UInt8)) (n : Nat) : Bool := (List.range n).all (varAt vs)
def varsL (vs : List (List UInt8)) : Bool := varsTo vs vs.length
def areVars (vs : List (List UInt8)) : Bool := decide (vs.length ≤ 20) && varsL vs

def ownCl (l : List UInt8) : Bool := isCl l && !builtins.contains l
def isSel (l : List UInt8) : Bool := decide (kindL l ≠ 0)

def rightC (d : DD) : Bool := ownCl d.c && isCl d.p && areVars d.vs && d.s.isEmpty && d.t.isEmpty
def rightM (d : DD) : Bool := isCl d.c && isSel d.s && decide (d.t.length ≤ 4000) && d.p.isEmpty && d.vs.isEmpty
def rightD (d : DD) : Bool := if d.k = 1 then rightC d else if d.k = 2 then rightM d else false

def keyD (d : DD) : List UInt8 := if rightD d = true then (if d.k = 2 then d.c ++ [62, 62] ++ d.s else d.c) else []

def splitC (r : List UInt8 × List UInt8 × Bool) : List UInt8 × List UInt8 × Bool :=
  if r.2.2 = true then (if (isCl r.1 && isSel r.2.1) = true then (r.1, r.2.1, true) else ([], [], false)) else if ownCl r.1 = true then (r.1, [], true) else ([], [], false)
def splitD (l : List UInt8) : List UInt8 × List UInt8 × Bool := splitC (Lib.cut l [62, 62])

/-- All fields are equal. -/
def sameB (a b : DD) : Bool := a.k == b.k && a.c == b.c && a.p == b.p && a.vs == b.vs && a.s == b.s && a.t == b.t

theorem sameB_iff (a b : DD) : sameB a b = true ↔ a = b := by
  obtain ⟨k, c, p, vs, s, t⟩ := a
  obtain ⟨k', c', p', vs', s', t'⟩ := b
  simp [sameB, and_assoc]

theorem sameB_refl (a : DD) : sameB a a = true := (sameB_iff a a).2 rfl

theorem varsTo_succ (vs : List (List UInt8)) (n : Nat) : varsTo vs (n + 1) = (varsTo vs n && varAt vs n) := by
  unfold varsTo
  rw [List.range_succ, List.all_append]
  simp

theorem varAt_lt {vs : List (List UInt8)} {i : Nat} (h : i < vs.length) : varAt vs i = (isVa vs[i] && !(vs.take i).contains vs[i]) := by
  unfold varAt
  rw [List.getD_eq_getElem?_getD, List.getElem?_eq_getElem h]
  rfl

theorem varsL_no {vs : List (List UInt8)} {i : Nat} (h : i < vs.length) (hn : varAt vs i = false) : varsL vs = false := by
  unfold varsL varsTo
  rw [List.all_eq_false]
  exact ⟨i, List.mem_range.2 h, by simp [hn]⟩

theorem rightD_one {d : DD} (h : d.k = 1) : rightD d = rightC d := by simp [rightD, h]
theorem rightD_two {d : DD} (h : d.k = 2) : rightD d = rightM d := by simp [rightD, h]
theorem rightD_no {d : DD} (h : d.k ≠ 1) (h2 : d.k ≠ 2) : rightD d = false := by simp [rightD, h, h2]

theorem right_kind {d : DD} (h : rightD d = true) : d.k = 1 ∨ d.k = 2 := by
  by_cases h1 : d.k = 1
  · exact .inl h1
  · by_cases h2 : d.k = 2
    · exact .inr h2
    · rw [rightD_no h1 h2] at h; cases h

end Go.Mk
