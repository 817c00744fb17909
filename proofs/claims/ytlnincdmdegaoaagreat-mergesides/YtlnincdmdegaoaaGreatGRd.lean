/-
  Lemmas towards the claim of this folder: contracts of the functions that the law reaches; joined texts.
-/
import Derived.Test.YtlnincdmdegaoaaGreatGMa
import Derived.Deep.CutBlock
import Derived.Deep.DeepCutAuto
import Derived.Test.YtlnincdmdegaoaaGreatGNb
import Derived.Test.YtlnincdmdegaoaaGreatGNe
/-
  CONTRACTS of package octet's Reader.
-/
namespace Go.Proofs.YtlnincdmdegaoaaGreat
open Go.RowKit Go.Mk

/-- The number whose most significant byte comes first. -/
def natB (l : List UInt8) : Nat := l.foldl (fun n x => n * 256 + x.toNat) 0

theorem natB_snoc (l : List UInt8) (x : UInt8) : natB (l ++ [x]) = natB l * 256 + x.toNat := by simp [natB, List.foldl_append]
theorem natB_lt (l : List UInt8) : natB l < 256 ^ l.length := by
  have : ∀ (l : List UInt8) (n k : Nat), n < 256 ^ k → l.foldl (fun n x => n * 256 + x.toNat) n < 256 ^ (k + l.length) := by
    intro l
    induction l with
    | nil => intro n k h; simpa using h
    | cons x l ih =>
      intro n k h
      have h1 := x.toNat_lt
      have h2 := ih (n * 256 + x.toNat) (k + 1) (by rw [Nat.pow_succ]; omega)
      rw [List.foldl_cons, List.length_cons, show k + (l.length + 1) = k + 1 + l.length by omega]
      exact h2
  have h := this l 0 0 (by simp)
  simpa [natB] using h

theorem big_or (n : Nat) (x : UInt8) (h : n * 256 + 256 ≤ 18446744073709551616) : bits BinOp.or IntKind.u64 (IntKind.u64.wrap ((n : Int) * 256)) (IntKind.u64.wrap (x.toNat : Int)) = ((n * 256 + x.toNat : Nat) : Int) := by
  have hx := x.toNat_lt
  have e1 : IntKind.u64.wrap ((n : Int) * 256) = ((n * 256 : Nat) : Int) := by rw [IntKind.wrap_u64]; omega
  have e2 : IntKind.u64.wrap (x.toNat : Int) = (x.toNat : Int) := by rw [IntKind.wrap_u64]; omega
  rw [e1, e2, u64_or_nat _ _ (by omega) (by omega)]
  have := Nat.two_pow_add_eq_or_of_lt (i := 8) (b := x.toNat) (by omega) n
  rw [Nat.mul_comm n 256]
  congr 1
  exact this.symm

/-- What a Reader holds: the bytes that are left, and its error. -/
structure RS where
  rest : List UInt8
  err : Int

def RS.num (s : RS) : RS × Int :=
  if s.err ≠ 0 then (s, 0) else if s.rest.length < 4 then (⟨s.rest, 10⟩, 0) else if 2147483647 < natB (s.rest.take 4) then (⟨s.rest, 11⟩, 0) else (⟨s.rest.drop 4, 0⟩, natB (s.rest.take 4))
def RS.int (s : RS) : RS × Int :=
  if s.err ≠ 0 then (s, 0) else if s.rest.length < 8 then (⟨s.rest, 10⟩, 0) else (⟨s.rest.drop 8, 0⟩, wrap64 (natB (s.rest.take 8)))
def RS.text (s : RS) : RS × List UInt8 :=
  if s.num.1.err ≠ 0 then (⟨s.rest, s.num.1.err⟩, []) else if s.num.1.rest.length < s.num.2.toNat then (⟨s.rest, 10⟩, []) else (⟨s.num.1.rest.drop s.num.2.toNat, 0⟩, s.num.1.rest.take s.num.2.toNat)

/-- The Reader at block b: its slice at ao, of capacity cap, its bytes in D. -/
structure Rd (w : World) (D : Nat → Prop) (b : Nat) (ao : Option Addr) (cap : Nat) (s : RS) : Prop where
  c0 : w.cell? ⟨b, 0, none⟩ = some (.slice ao s.rest.length cap)
  c1 : w.cell? ⟨b, 1, none⟩ = some (.int .i64 s.err)
  f0 : w.frozen? ⟨b, 0, none⟩ = false
  f1 : w.frozen? ⟨b, 1, none⟩ = false
  le : s.rest.length ≤ cap
  max : cap ≤ maxLen
  lies : Lies w w.heap.size ao (s.rest.map bv)
  dat : s.rest ≠ [] → ∀ a, ao = some a → D a.block
  nd : ¬ D b

theorem Rd.lt {w : World} {D : Nat → Prop} {b : Nat} {ao : Option Addr} {cap : Nat} {s : RS} (h : Rd w D b ao cap s) : b < w.heap.size := World.block_lt_of_cell? _ _ h.c0

theorem Rd.ne {w : World} {D : Nat → Prop} {b : Nat} {ao : Option Addr} {cap : Nat} {s : RS} (h : Rd w D b ao cap s) : s.rest ≠ [] → ∀ a, ao = some a → a.block ≠ b := fun hn a ha e => h.nd (e ▸ h.dat hn a ha)

/-- A later slice of what it held, stored. -/
theorem Rd.put {w : World} {D : Nat → Prop} {b : Nat} {ao : Option Addr} {cap : Nat} {s : RS} (h : Rd w D b ao cap s) (k : Nat) (hk : k ≤ s.rest.length) (ao' : Option Addr) (hao : ao' = if cap = k then ao else ao.map (·.add k)) :
    Rd (w.setCell ⟨b, 0, none⟩ (.slice ao' (s.rest.length - k) (cap - k))) D b ao' (cap - k) ⟨s.rest.drop k, s.err⟩ := by
  have hle := h.le
  have hmx := h.max
  have kp : Kept (fun k => k = b) w (w.setCell ⟨b, 0, none⟩ (.slice ao' (s.rest.length - k) (cap - k))) := Kept.setCell (p := ⟨b, 0, none⟩) (Kept.refl (fun k => k = b) w) (fun _ => rfl) _
  have hdt : s.rest.drop k ≠ [] → ∀ a, ao' = some a → D a.block := by
    intro hn a ha
    have hne : s.rest ≠ [] := fun e => hn (by simp [e])
    rw [hao] at ha
    split at ha
    · exact h.dat hne a ha
    · obtain ⟨a', rfl, rfl⟩ := Option.map_eq_some_iff.1 ha
      rw [block_add]
      exact h.dat hne a' rfl
  have hls : Lies w w.heap.size ao' ((s.rest.drop k).map bv) := by
    by_cases hc : cap = k
    · have : s.rest.drop k = [] := List.drop_eq_nil_of_le (by omega)
      rw [this]; exact Lies.nil _ _ _
    · rw [hao, if_neg hc, List.map_drop]
      exact h.lies.drop k
  refine ⟨by rw [World.cell?_setCell_same _ _ _ h.c0]; simp, ?_, ?_, ?_, by simp; omega, by omega, ?_, hdt, h.nd⟩
  · rw [World.cell?_setCell_other _ _ _ _ (by simp)]; exact h.c1
  · rw [World.frozen?_setCell]; exact h.f0
  · rw [World.frozen?_setCell]; exact h.f1
  · exact (hls.kept kp (fun hn a ha e => h.nd (e ▸ hdt (fun e => hn (by rw [e]; rfl)) a ha))).mono kp.size

theorem Rd.fail {w : World} {D : Nat → Prop} {b : Nat} {ao : Option Addr} {cap : Nat} {s : RS} (h : Rd w D b ao cap s) (e : Int) : Rd (w.setCell ⟨b, 1, none⟩ (.int .i64 e)) D b ao cap ⟨s.rest, e⟩ := by
  have kp : Kept (fun k => k = b) w (w.setCell ⟨b, 1, none⟩ (.int .i64 e)) := Kept.setCell (p := ⟨b, 1, none⟩) (Kept.refl (fun k => k = b) w) (fun _ => rfl) _
  refine ⟨?_, World.cell?_setCell_same _ _ _ h.c1, ?_, ?_, h.le, h.max, ?_, h.dat, h.nd⟩
  · rw [World.cell?_setCell_other _ _ _ _ (by simp)]; exact h.c0
  · rw [World.frozen?_setCell]; exact h.f0
  · rw [World.frozen?_setCell]; exact h.f1
  · exact (h.lies.kept kp (fun hn a ha e => h.ne (fun e => hn (by rw [e]; rfl)) a ha e)).mono kp.size

def RdPost (w : World) (D : Nat → Prop) (b : Nat) (v : Value) (s' : RS) (e : Ending) (w' : World) : Prop := e = .returned v ∧ (∃ ao' cap', Rd w' D b ao' cap' s') ∧ Kept (fun k => k = b) w w'

/-- What Num leaves. -/
theorem RS.num_cases (s : RS) : (s.num.1.err ≠ 0 ∧ s.num = (⟨s.rest, s.num.1.err⟩, 0)) ∨ (s.err = 0 ∧ 4 ≤ s.rest.length ∧ ∃ n : Nat, n ≤ 2147483647 ∧ s.num = (⟨s.rest.drop 4, 0⟩, (n : Int))) := by
  unfold RS.num
  by_cases he : s.err = 0
  · by_cases h4 : s.rest.length < 4
    · left; simp [he, h4]
    · by_cases hb : 2147483647 < natB (s.rest.take 4)
      · left; simp [he, h4, hb]
      · right
        refine ⟨he, by omega, natB (s.rest.take 4), by omega, ?_⟩
        simp [he, h4, hb]
  · left; simp [he]

/-- The old slice, stored again. -/
theorem Rd.back {w w1 : World} {D : Nat → Prop} {b : Nat} {ao ao1 : Option Addr} {cap cap1 : Nat} {s s1 : RS} (h : Rd w D b ao cap s) (h1 : Rd w1 D b ao1 cap1 s1) (hk : Kept (fun k => k = b) w w1) :
    Rd (w1.setCell ⟨b, 0, none⟩ (.slice ao s.rest.length cap)) D b ao cap ⟨s.rest, s1.err⟩ := by
  have kp : Kept (fun k => k = b) w (w1.setCell ⟨b, 0, none⟩ (.slice ao s.rest.length cap)) := Kept.setCell (p := ⟨b, 0, none⟩) hk (fun _ => rfl) _
  refine ⟨World.cell?_setCell_same _ _ _ h1.c0, ?_, ?_, ?_, h.le, h.max, ?_, h.dat, h.nd⟩
  · rw [World.cell?_setCell_other _ _ _ _ (by simp)]; exact h1.c1
  · rw [World.frozen?_setCell]; exact h1.f0
  · rw [World.frozen?_setCell]; exact h1.f1
  · exact (h.lies.kept kp (fun hn a ha e => h.ne (fun e => hn (by rw [e]; rfl)) a ha e)).mono kp.size

/-- Texts: the number of texts, then each of them; nothing is consumed where one fails. -/
def RS.many : Nat → RS → RS × List (List UInt8)
  | 0, s => (s, [])
  | n + 1, s => if s.err ≠ 0 then (s, []) else ((RS.many n s.text.1).1, s.text.2 :: (RS.many n s.text.1).2)
def RS.tooMany (s1 : RS) (n : Int) : Bool := decide (s1.err = 0 ∧ (1000000 < n ∨ (s1.rest.length : Int) < n))
def RS.head (s : RS) : RS := if s.num.1.tooMany s.num.2 then ⟨s.num.1.rest, 10⟩ else s.num.1
def RS.texts (s : RS) : RS × List (List UInt8) :=
  if (RS.many s.num.2.toNat s.head).1.err ≠ 0 then (⟨s.rest, (RS.many s.num.2.toNat s.head).1.err⟩, []) else RS.many s.num.2.toNat s.head

def RS.endE (s : RS) : Int := if s.err = 0 ∧ s.rest ≠ [] then 11 else s.err

theorem RS.many_end (n : Nat) (s : RS) (h : n = 0 ∨ s.err ≠ 0) : RS.many n s = (s, []) := by
  cases n with
  | zero => rfl
  | succ n =>
    rcases h with h | h
    · cases h
    · simp [RS.many, h]


/-- What Texts leaves. -/
def RtPost (w : World) (D : Nat → Prop) (b : Nat) (l : List (List UInt8)) (s' : RS) (e : Ending) (w' : World) : Prop :=
  (∃ ao cap, e = .returned (.slice ao l.length cap) ∧ w'.ownsRow w.heap.size 9 1 (.slice ao l.length cap) l.length (strs l)) ∧ (∃ ao' cap', Rd w' D b ao' cap' s') ∧ Kept (fun k => k = b) w w'

theorem Rd.kept {S : Nat → Prop} {w w' : World} {D : Nat → Prop} {b : Nat} {ao : Option Addr} {cap : Nat} {s : RS} (h : Rd w D b ao cap s) (hk : Kept S w w') (hb : ¬ S b) (hn : ∀ k, k < w.heap.size → D k → ¬ S k) : Rd w' D b ao cap s := by
  have hlt := h.lt
  refine ⟨(hk.cell (p := ⟨b, 0, none⟩) hlt hb).trans h.c0, (hk.cell (p := ⟨b, 1, none⟩) hlt hb).trans h.c1, (hk.frozen (p := ⟨b, 0, none⟩) hlt hb).trans h.f0, (hk.frozen (p := ⟨b, 1, none⟩) hlt hb).trans h.f1, h.le, h.max, ?_, h.dat, h.nd⟩
  refine (h.lies.kept hk (fun hne a ha => ?_)).mono hk.size
  obtain ⟨b', o', e, hl, _⟩ := h.lies hne
  have hd := h.dat (by simpa using hne) a ha
  rw [e] at ha; cases ha
  exact hn _ hl hd

end Go.Proofs.YtlnincdmdegaoaaGreat

/-
  HOW A DEFINITION IS READ, over lists (plain), and a box that fields are stored into.
-/
namespace Go.Proofs.YtlnincdmdegaoaaGreat
open Go.RowKit Go.Mk

/-- The fields behind a kind. -/
def fieldsR (s : RS) : RS × DD :=
  if s.num.2 = 1 then (s.num.1.text.1.text.1.texts.1, ⟨1, s.num.1.text.2, s.num.1.text.1.text.2, s.num.1.text.1.text.1.texts.2, [], []⟩)
  else if s.num.2 = 2 then (s.num.1.text.1.text.1.text.1, ⟨2, s.num.1.text.2, [], [], s.num.1.text.1.text.2, s.num.1.text.1.text.1.text.2⟩)
  else (s.num.1, ⟨s.num.2, [], [], [], [], []⟩)

/-- What a reading answers: a definition and an error. -/
def judgeR (r : RS × DD) : DD × Int := if r.1.err ≠ 0 then (zeroD, r.1.err) else if rightD r.2 = true then (r.2, 0) else (zeroD, 31)

/-- A box of six cells that may be stored into. -/
structure Bz (w : World) (b : Nat) (ao : Option Addr) (cap : Nat) (d : DD) : Prop where
  bx : Bx w b ao cap d
  f0 : w.frozen? ⟨b, 0, none⟩ = false
  f1 : w.frozen? ⟨b, 1, none⟩ = false
  f2 : w.frozen? ⟨b, 2, none⟩ = false
  f3 : w.frozen? ⟨b, 3, none⟩ = false
  f4 : w.frozen? ⟨b, 4, none⟩ = false
  f5 : w.frozen? ⟨b, 5, none⟩ = false

theorem Bz.lt {w : World} {b : Nat} {ao : Option Addr} {cap : Nat} {d : DD} (h : Bz w b ao cap d) : b < w.heap.size := World.block_lt_of_cell? _ _ h.bx.c0

theorem Bz.kept {S : Nat → Prop} {w w' : World} {b : Nat} {ao : Option Addr} {cap : Nat} {d : DD} (h : Bz w b ao cap d) (hk : Kept S w w') (hb : ¬ S b) : Bz w' b ao cap d := by
  have hlt := h.lt
  exact ⟨h.bx.kept hk hb, (hk.frozen (p := ⟨b, 0, none⟩) hlt hb).trans h.f0, (hk.frozen (p := ⟨b, 1, none⟩) hlt hb).trans h.f1, (hk.frozen (p := ⟨b, 2, none⟩) hlt hb).trans h.f2, (hk.frozen (p := ⟨b, 3, none⟩) hlt hb).trans h.f3, (hk.frozen (p := ⟨b, 4, none⟩) hlt hb).trans h.f4, (hk.frozen (p := ⟨b, 5, none⟩) hlt hb).trans h.f5⟩

theorem bz_new (w : World) (ao : Option Addr) (cap : Nat) (d : DD) (t : TypeId) : Bz (w.alloc (.cells #[.int .i64 d.k, .string (bs d.c), .string (bs d.p), .slice ao d.vs.length cap, .string (bs d.s), .string (bs d.t)] t)) w.heap.size ao cap d :=
  ⟨bx_new w ao cap d t, by simp, by simp, by simp, by simp, by simp, by simp⟩

theorem Bz.put1 {w : World} {b : Nat} {ao : Option Addr} {cap : Nat} {d : DD} (h : Bz w b ao cap d) (l : List UInt8) : Bz (w.setCell ⟨b, 1, none⟩ (.string (bs l))) b ao cap { d with c := l } := by
  refine ⟨⟨?_, World.cell?_setCell_same _ _ _ h.bx.c1, ?_, ?_, ?_, ?_⟩, ?_, ?_, ?_, ?_, ?_, ?_⟩
  all_goals first | (rw [World.cell?_setCell_other _ _ _ _ (by simp)]; first | exact h.bx.c0 | exact h.bx.c1 | exact h.bx.c2 | exact h.bx.c3 | exact h.bx.c4 | exact h.bx.c5) | (rw [World.frozen?_setCell]; first | exact h.f0 | exact h.f1 | exact h.f2 | exact h.f3 | exact h.f4 | exact h.f5)

theorem Bz.put2 {w : World} {b : Nat} {ao : Option Addr} {cap : Nat} {d : DD} (h : Bz w b ao cap d) (l : List UInt8) : Bz (w.setCell ⟨b, 2, none⟩ (.string (bs l))) b ao cap { d with p := l } := by
  refine ⟨⟨?_, ?_, World.cell?_setCell_same _ _ _ h.bx.c2, ?_, ?_, ?_⟩, ?_, ?_, ?_, ?_, ?_, ?_⟩
  all_goals first | (rw [World.cell?_setCell_other _ _ _ _ (by simp)]; first | exact h.bx.c0 | exact h.bx.c1 | exact h.bx.c2 | exact h.bx.c3 | exact h.bx.c4 | exact h.bx.c5) | (rw [World.frozen?_setCell]; first | exact h.f0 | exact h.f1 | exact h.f2 | exact h.f3 | exact h.f4 | exact h.f5)

theorem Bz.put3 {w : World} {b : Nat} {ao ao' : Option Addr} {cap cap' : Nat} {d : DD} (h : Bz w b ao cap d) (l : List (List UInt8)) : Bz (w.setCell ⟨b, 3, none⟩ (.slice ao' l.length cap')) b ao' cap' { d with vs := l } := by
  refine ⟨⟨?_, ?_, ?_, World.cell?_setCell_same _ _ _ h.bx.c3, ?_, ?_⟩, ?_, ?_, ?_, ?_, ?_, ?_⟩
  all_goals first | (rw [World.cell?_setCell_other _ _ _ _ (by simp)]; first | exact h.bx.c0 | exact h.bx.c1 | exact h.bx.c2 | exact h.bx.c3 | exact h.bx.c4 | exact h.bx.c5) | (rw [World.frozen?_setCell]; first | exact h.f0 | exact h.f1 | exact h.f2 | exact h.f3 | exact h.f4 | exact h.f5)

theorem Bz.put4 {w : World} {b : Nat} {ao : Option Addr} {cap : Nat} {d : DD} (h : Bz w b ao cap d) (l : List UInt8) : Bz (w.setCell ⟨b, 4, none⟩ (.string (bs l))) b ao cap { d with s := l } := by
  refine ⟨⟨?_, ?_, ?_, ?_, World.cell?_setCell_same _ _ _ h.bx.c4, ?_⟩, ?_, ?_, ?_, ?_, ?_, ?_⟩
  all_goals first | (rw [World.cell?_setCell_other _ _ _ _ (by simp)]; first | exact h.bx.c0 | exact h.bx.c1 | exact h.bx.c2 | exact h.bx.c3 | exact h.bx.c4 | exact h.bx.c5) | (rw [World.frozen?_setCell]; first | exact h.f0 | exact h.f1 | exact h.f2 | exact h.f3 | exact h.f4 | exact h.f5)

theorem Bz.put5 {w : World} {b : Nat} {ao : Option Addr} {cap : Nat} {d : DD} (h : Bz w b ao cap d) (l : List UInt8) : Bz (w.setCell ⟨b, 5, none⟩ (.string (bs l))) b ao cap { d with t := l } := by
  refine ⟨⟨?_, ?_, ?_, ?_, ?_, World.cell?_setCell_same _ _ _ h.bx.c5⟩, ?_, ?_, ?_, ?_, ?_, ?_⟩
  all_goals first | (rw [World.cell?_setCell_other _ _ _ _ (by simp)]; first | exact h.bx.c0 | exact h.bx.c1 | exact h.bx.c2 | exact h.bx.c3 | exact h.bx.c4 | exact h.bx.c5) | (rw [World.frozen?_setCell]; first | exact h.f0 | exact h.f1 | exact h.f2 | exact h.f3 | exact h.f4 | exact h.f5)

theorem Bz.put0 {w : World} {b : Nat} {ao : Option Addr} {cap : Nat} {d : DD} (h : Bz w b ao cap d) (k : Int) : Bz (w.setCell ⟨b, 0, none⟩ (.int .i64 k)) b ao cap { d with k := k } := by
  refine ⟨⟨World.cell?_setCell_same _ _ _ h.bx.c0, ?_, ?_, ?_, ?_, ?_⟩, ?_, ?_, ?_, ?_, ?_, ?_⟩
  all_goals first | (rw [World.cell?_setCell_other _ _ _ _ (by simp)]; first | exact h.bx.c0 | exact h.bx.c1 | exact h.bx.c2 | exact h.bx.c3 | exact h.bx.c4 | exact h.bx.c5) | (rw [World.frozen?_setCell]; first | exact h.f0 | exact h.f1 | exact h.f2 | exact h.f3 | exact h.f4 | exact h.f5)

/-- A whole definition is stored. -/
def setD (w : World) (r : Nat) (ao : Option Addr) (cap : Nat) (d : DD) : World :=
  (((((w.setCell ⟨r, 0, none⟩ (.int .i64 d.k)).setCell ⟨r, 1, none⟩ (.string (bs d.c))).setCell ⟨r, 2, none⟩ (.string (bs d.p))).setCell ⟨r, 3, none⟩ (.slice ao d.vs.length cap)).setCell ⟨r, 4, none⟩ (.string (bs d.s))).setCell ⟨r, 5, none⟩ (.string (bs d.t))

theorem Bz.set {w : World} {r : Nat} {ao0 : Option Addr} {cap0 : Nat} {d0 : DD} (h : Bz w r ao0 cap0 d0) (ao : Option Addr) (cap : Nat) (d : DD) : Bz (setD w r ao cap d) r ao cap d :=
  ((((((h.put0 d.k).put1 d.c).put2 d.p).put3 (ao' := ao) (cap' := cap) d.vs).put4 d.s).put5 d.t)

theorem kept_setD (w : World) (r : Nat) (ao : Option Addr) (cap : Nat) (d : DD) : Kept (fun k => k = r) w (setD w r ao cap d) :=
  Kept.setCell (p := ⟨r, 5, none⟩) (Kept.setCell (p := ⟨r, 4, none⟩) (Kept.setCell (p := ⟨r, 3, none⟩) (Kept.setCell (p := ⟨r, 2, none⟩) (Kept.setCell (p := ⟨r, 1, none⟩) (Kept.setCell (S := fun k => k = r) (p := ⟨r, 0, none⟩) (Kept.refl _ w) (fun _ => rfl) _) (fun _ => rfl) _) (fun _ => rfl) _) (fun _ => rfl) _) (fun _ => rfl) _) (fun _ => rfl) _

theorem kept_setD' {S : Nat → Prop} {w wx : World} {r : Nat} {ao : Option Addr} {cap : Nat} {d : DD} (h : Kept S w wx) (hr : w.heap.size ≤ r) : Kept S w (setD wx r ao cap d) :=
  h.trans (kept_setD wx r ao cap d) (fun i hi e => by omega)

theorem load_def {w : World} {r : Nat} {ao : Option Addr} {cap : Nat} {d : DD} (h : Bx w r ao cap d) : (loadVar 43 ⟨r, 0, none⟩).run Tryz.prog w = .ok (.agg #[.int .i64 d.k, .string (bs d.c), .string (bs d.p), .slice ao d.vs.length cap, .string (bs d.s), .string (bs d.t)]) w := by
  have hl := run_loadCells_list (P := Tryz.prog) w ⟨r, 0, none⟩ [.int .i64 d.k, .string (bs d.c), .string (bs d.p), .slice ao d.vs.length cap, .string (bs d.s), .string (bs d.t)] (fun j v hj => by
    rw [Addr.add_lit, Nat.zero_add]
    match j, hj with
    | 0, hj => cases hj; exact h.c0
    | 1, hj => cases hj; exact h.c1
    | 2, hj => cases hj; exact h.c2
    | 3, hj => cases hj; exact h.c3
    | 4, hj => cases hj; exact h.c4
    | 5, hj => cases hj; exact h.c5
    | j + 6, hj => simp at hj)
  have hs := Tryz.sizeOf43
  have ha := Tryz.isAgg43
  unfold loadVar
  simp only [Sem.run_bind, ha, hs, Result.andThen, if_pos]
  simp only [List.length_cons, List.length_nil, Nat.reduceAdd] at hl
  simp [hl]

theorem results_box {P : Program} {fn : Func} {t : Tmp} {ty : TypeId} (h : fn.results = #[.cell t ty]) {tmps : Array Value} {w : World} {r : Nat} {v : Value} (ht : tmps.getD t undef = .pointer (some ⟨r, 0, none⟩)) (hl : (loadVar ty ⟨r, 0, none⟩).run P w = .ok v w) : (results fn tmps).run P w = .ok v w := by
  have ht' : tmps[t]?.getD undef = .pointer (some ⟨r, 0, none⟩) := by simpa using ht
  simp [results, h, ht', asAddr, hl]

theorem results_box2 {P : Program} {fn : Func} {t u : Tmp} {ty : TypeId} (h : fn.results = #[.cell t ty, .tmp u]) {tmps : Array Value} {w : World} {r : Nat} {v : Value} (ht : tmps.getD t undef = .pointer (some ⟨r, 0, none⟩)) (hl : (loadVar ty ⟨r, 0, none⟩).run P w = .ok v w) : (results fn tmps).run P w = .ok (.tuple #[v, tmps.getD u undef]) w := by
  have ht' : tmps[t]?.getD undef = .pointer (some ⟨r, 0, none⟩) := by simpa using ht
  simp [results, h, ht', asAddr, hl]

/-- What a call keeps that writes into block x only, which lies behind w. -/
theorem kept_put {w wx : World} {b x i : Nat} {v : Value} (h : Kept (fun k => k = b) w wx) (hx : w.heap.size ≤ x) : Kept (fun k => k = b) w (wx.setCell ⟨x, i, none⟩ v) :=
  Kept.setCell (p := ⟨x, i, none⟩) h (fun hlt => by simp at hlt; omega) v

theorem kept_at (w : World) (x i : Nat) (v : Value) : Kept (fun k => k = x) w (w.setCell ⟨x, i, none⟩ v) := Kept.setCell (S := fun k => k = x) (p := ⟨x, i, none⟩) (Kept.refl _ w) (fun _ => rfl) v

/-- The program's reader, the box that is filled, and the box of the result, in a world behind w. -/
structure Fl (w : World) (D : Nat → Prop) (b : Nat) (r x : Nat) (ao : Option Addr) (cap : Nat) (s : RS) (d : DD) (wx : World) : Prop where
  rd : ∃ a c, Rd wx D b a c s
  res : Bz wx r none 0 zeroD
  box : Bz wx x ao cap d
  own : wx.ownsRow w.heap.size 9 1 (.slice ao d.vs.length cap) d.vs.length (strs d.vs)
  k : Kept (fun k => k = b) w wx
  ne : b < w.heap.size
  hr : w.heap.size ≤ r
  hx : w.heap.size ≤ x
  rx : r ≠ x
  hD : ∀ k, D k → k < w.heap.size
  ob : ∀ k, (Value.slice ao d.vs.length cap).ownBlock = some k → k ≠ x ∧ k ≠ r

/-- The reader has gone on. -/
theorem Fl.step {w : World} {D : Nat → Prop} {b r x : Nat} {ao : Option Addr} {cap : Nat} {s s' : RS} {d : DD} {wx wy : World} (h : Fl w D b r x ao cap s d wx) (hr : ∃ a c, Rd wy D b a c s') (hk : Kept (fun k => k = b) wx wy) : Fl w D b r x ao cap s' d wy :=
  ⟨hr, h.res.kept hk (by have := h.hr; have := h.ne; omega), h.box.kept hk (by have := h.hx; have := h.ne; omega), owns_kept h.own hk (fun k hk e => by have := (owns_lt h.own k hk).1; have := h.ne; omega), h.k.trans hk (fun _ _ h => h), h.ne, h.hr, h.hx, h.rx, h.hD, h.ob⟩

theorem Fl.rdput {w : World} {D : Nat → Prop} {b r x : Nat} {ao : Option Addr} {cap : Nat} {s : RS} {d : DD} {wx : World} (h : Fl w D b r x ao cap s d wx) (i : Nat) (v : Value) : ∃ a c, Rd (wx.setCell ⟨x, i, none⟩ v) D b a c s := by
  obtain ⟨a, c, hr⟩ := h.rd
  exact ⟨a, c, hr.kept (kept_at wx x i v) (by have := h.hx; have := h.ne; omega) (fun k _ hd e => by have := h.hD k hd; have := h.hx; omega)⟩

theorem Fl.put {w : World} {D : Nat → Prop} {b r x : Nat} {ao : Option Addr} {cap : Nat} {s : RS} {d d' : DD} {wx : World} (h : Fl w D b r x ao cap s d wx) (i : Nat) (v : Value) (hb : Bz (wx.setCell ⟨x, i, none⟩ v) x ao cap d') (hv : d'.vs = d.vs) : Fl w D b r x ao cap s d' (wx.setCell ⟨x, i, none⟩ v) :=
  ⟨h.rdput i v, h.res.kept (kept_at wx x i v) h.rx, hb, by rw [hv]; exact owns_kept h.own (kept_at wx x i v) (fun k hk => (h.ob k hk).1), kept_put h.k h.hx, h.ne, h.hr, h.hx, h.rx, h.hD, by rw [hv]; exact h.ob⟩

theorem Fl.put3 {w : World} {D : Nat → Prop} {b r x : Nat} {ao ao' : Option Addr} {cap cap' z : Nat} {s : RS} {d : DD} {wx : World} (h : Fl w D b r x ao cap s d wx) (l : List (List UInt8)) (ho : wx.ownsRow z 9 1 (.slice ao' l.length cap') l.length (strs l)) (h1 : x < z) (h2 : r < z) :
    Fl w D b r x ao' cap' s { d with vs := l } (wx.setCell ⟨x, 3, none⟩ (.slice ao' l.length cap')) :=
  ⟨h.rdput 3 _, h.res.kept (kept_at wx x 3 _) h.rx, h.box.put3 l, owns_base (owns_kept ho (kept_at wx x 3 _) (fun k hk e => by have := (owns_lt ho k hk).1; omega)) (fun k hk => by have := (owns_lt ho k hk).1; have := h.hx; omega), kept_put h.k h.hx, h.ne, h.hr, h.hx, h.rx, h.hD,
    fun k hk => by have := (owns_lt ho k hk).1; omega⟩

end Go.Proofs.YtlnincdmdegaoaaGreat
