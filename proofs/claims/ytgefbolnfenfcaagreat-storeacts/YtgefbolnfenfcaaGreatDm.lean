/-
  A DISK OVER LISTS: bytes that are sure, writes that wait; what an image is, what a crash leaves; a record of what each write replaced undoes them. Over no program.
-/
import Derived.Test.YtgefbolnfenfcaaGreatMk
import Derived.Laws.CopyOwn
namespace Go.Mk
open Go.RowKit

/-- A write that waits: its sector, its bytes. -/
structure Wt where
  k : Nat
  b : List UInt8

/-- Bytes laid over others from a sector's head on. -/
def lay (l : List UInt8) (k : Nat) (b : List UInt8) : List UInt8 := splice l (64 * k) b

/-- What a sector holds. -/
def sec (l : List UInt8) (k : Nat) : List UInt8 := (l.drop (64 * k)).take 64

def Wt.ok (n : Nat) (x : Wt) : Prop := x.k < n ∧ x.b.length = 64

theorem lay_length {l : List UInt8} {k : Nat} {b : List UInt8} (h : 64 * k + b.length ≤ l.length) : (lay l k b).length = l.length := length_splice _ _ _ h

theorem sec_length {l : List UInt8} {n k : Nat} (h : l.length = 64 * n) (hk : k < n) : (sec l k).length = 64 := by
  simp [sec]; omega

/-- The image: all that waits, laid over what is sure. -/
def image (l : List UInt8) (ws : List Wt) : List UInt8 := ws.foldl (fun l x => lay l x.k x.b) l

theorem image_length {n : Nat} : ∀ (ws : List Wt) (l : List UInt8), l.length = 64 * n → (∀ x ∈ ws, x.ok n) → (image l ws).length = 64 * n
  | [], _, h, _ => h
  | x :: ws, l, h, ho => by
    have hx := ho x (by simp)
    refine image_length ws (lay l x.k x.b) ?_ (fun y hy => ho y (by simp [hy]))
    rw [lay_length (by rw [hx.2, h]; have := hx.1; omega), h]

theorem image_snoc (l : List UInt8) (ws : List Wt) (x : Wt) : image l (ws ++ [x]) = lay (image l ws) x.k x.b := by simp [image]

/-- How many bytes of a torn write are done. -/
def octs (o : Int) : Nat := (min (max o 0) 64).toNat
theorem octs_le (o : Int) : octs o ≤ 64 := by unfold octs; omega

/-- What a crash makes of one write. -/
def crash1 (keep : List Bool) (torn : Int) (o : Nat) (i : Nat) (x : Wt) (l : List UInt8) : List UInt8 :=
  if (i : Int) = torn then lay l x.k (x.b.take o) else if keep[i]? = some true then lay l x.k x.b else l

/-- And of all from number i on. -/
def crash (keep : List Bool) (torn : Int) (o : Nat) : Nat → List Wt → List UInt8 → List UInt8
  | _, [], l => l
  | i, x :: ws, l => crash keep torn o (i + 1) ws (crash1 keep torn o i x l)

theorem crash1_length {n : Nat} (keep : List Bool) (torn : Int) (o i : Nat) (x : Wt) (l : List UInt8) (h : l.length = 64 * n) (hx : x.ok n) : (crash1 keep torn o i x l).length = 64 * n := by
  have h1 := hx.1
  have h2 := hx.2
  unfold crash1
  split
  · rw [lay_length (by rw [List.length_take, h2, h]; omega), h]
  · split
    · rw [lay_length (by rw [h2, h]; omega), h]
    · exact h

theorem crash_length {n : Nat} (keep : List Bool) (torn : Int) (o : Nat) : ∀ (ws : List Wt) (i : Nat) (l : List UInt8), l.length = 64 * n → (∀ x ∈ ws, x.ok n) → (crash keep torn o i ws l).length = 64 * n
  | [], _, _, h, _ => h
  | x :: ws, i, l, h, ho => crash_length keep torn o ws (i + 1) _ (crash1_length keep torn o i x l h (ho x (by simp))) (fun y hy => ho y (by simp [hy]))

/-- Nothing is kept: what was sure. -/
theorem crash_none (o : Nat) : ∀ (ws : List Wt) (i : Nat) (l : List UInt8), crash [] (-1) o i ws l = l
  | [], _, _ => rfl
  | x :: ws, i, l => by
    rw [crash, crash_none o ws (i + 1)]
    unfold crash1
    rw [if_neg (by omega)]
    simp

/-- All is kept: the image. -/
theorem crash_all (o m : Nat) : ∀ (ws : List Wt) (i : Nat) (l : List UInt8), i + ws.length ≤ m → crash (List.replicate m true) (-1) o i ws l = image l ws
  | [], _, _, _ => rfl
  | x :: ws, i, l, h => by
    simp only [List.length_cons] at h
    rw [crash, crash_all o m ws (i + 1) _ (by omega)]
    unfold crash1
    rw [if_neg (by omega), if_pos (by rw [List.getElem?_replicate, if_pos (by omega)])]
    rfl

/-- A write and what it replaced. -/
structure Pd where
  k : Nat
  bef : List UInt8
  aft : List UInt8

def Pd.wt (p : Pd) : Wt := ⟨p.k, p.aft⟩
def Pd.ok (n : Nat) (p : Pd) : Prop := p.k < n ∧ p.bef.length = 64 ∧ p.aft.length = 64

/-- Each write knows what lay in its sector; the last image is im. -/
def Chain : List UInt8 → List Pd → List UInt8 → Prop
  | l, [], im => im = l
  | l, p :: ps, im => p.bef = sec l p.k ∧ Chain (lay l p.k p.aft) ps im

theorem Chain.snoc : ∀ {ps : List Pd} {l im : List UInt8} (_ : Chain l ps im) (k : Nat) (b : List UInt8), Chain l (ps ++ [⟨k, sec im k, b⟩]) (lay im k b)
  | [], _, _, h, _, _ => by cases h; exact ⟨rfl, rfl⟩
  | _ :: _, _, _, h, k, b => ⟨h.1, h.2.snoc k b⟩

theorem Chain.image : ∀ {ps : List Pd} {l im : List UInt8} (_ : Chain l ps im), im = Mk.image l (ps.map Pd.wt)
  | [], _, _, h => h
  | _ :: _, _, _, h => h.2.image

/-- Undone from the last on. -/
def undo (ps : List Pd) (im : List UInt8) : List UInt8 := ps.foldr (fun p l => lay l p.k p.bef) im

theorem undo_length {n : Nat} : ∀ (ps : List Pd) (l : List UInt8), l.length = 64 * n → (∀ x ∈ ps, x.ok n) → (undo ps l).length = 64 * n
  | [], _, h, _ => h
  | p :: ps, l, h, ho => by
    have ih := undo_length ps l h (fun y hy => ho y (by simp [hy]))
    have hp := ho p (by simp)
    show (lay (undo ps l) p.k p.bef).length = _
    rw [lay_length (by rw [hp.2.1, ih]; have := hp.1; omega), ih]

theorem lay_back {l : List UInt8} {n k : Nat} (b : List UInt8) (hl : l.length = 64 * n) (hk : k < n) (hb : b.length = 64) : lay (lay l k b) k (sec l k) = l := by
  have hs := sec_length hl hk
  have h1 : (l.take (64 * k)).length = 64 * k := by rw [List.length_take]; omega
  unfold lay splice
  rw [hs, hb]
  have e1 : (l.take (64 * k) ++ (b ++ l.drop (64 * k + 64))).take (64 * k) = l.take (64 * k) := by
    rw [List.take_append_of_le_length (by omega)]
    exact List.take_of_length_le (by omega)
  have e2 : (l.take (64 * k) ++ (b ++ l.drop (64 * k + 64))).drop (64 * k + 64) = l.drop (64 * k + 64) := by
    rw [← List.append_assoc, List.drop_append, List.drop_eq_nil_of_le (by simp; omega)]
    simp [hb]
    omega
  rw [e1, e2]
  unfold sec
  rw [← List.drop_drop]
  rw [List.take_append_drop, List.take_append_drop]

theorem Chain.undo {n : Nat} : ∀ {ps : List Pd} {l im : List UInt8} (_ : Chain l ps im) (_ : l.length = 64 * n) (_ : ∀ p ∈ ps, p.ok n), Mk.undo ps im = l
  | [], _, _, h, _, _ => h
  | p :: ps, l, im, h, hl, ho => by
    have hp := ho p (by simp)
    have hl' : (lay l p.k p.aft).length = 64 * n := by rw [lay_length (by rw [hp.2.2, hl]; have := hp.1; omega), hl]
    have := h.2.undo hl' (fun y hy => ho y (by simp [hy]))
    show lay (Mk.undo ps im) p.k p.bef = l
    rw [this, h.1, lay_back p.aft hl hp.1 hp.2.2]

/-- A write, as cells. -/
def Pd.cells (p : Pd) : List Value := .int .i64 p.k :: (p.bef.map bv ++ p.aft.map bv)
theorem Pd.cells_length {n : Nat} {p : Pd} (h : p.ok n) : p.cells.length = 129 := by simp [Pd.cells, h.2.1, h.2.2]
theorem Pd.cells_one (p : Pd) : ∀ u ∈ p.cells, u.oneCell' = true := by
  intro u hu
  simp only [Pd.cells, List.mem_cons, List.mem_append] at hu
  rcases hu with rfl | hu | hu
  · rfl
  · exact bv_one _ u hu
  · exact bv_one _ u hu

def cellsOf (ps : List Pd) : List Value := ps.flatMap Pd.cells
theorem cellsOf_length {n : Nat} : ∀ (ps : List Pd) (_ : ∀ p ∈ ps, p.ok n), (cellsOf ps).length = ps.length * 129
  | [], _ => rfl
  | p :: ps, h => by
    have := cellsOf_length ps (fun y hy => h y (by simp [hy]))
    have h1 := Pd.cells_length (h p (by simp))
    simp only [cellsOf, List.flatMap_cons, List.length_append, List.length_cons] at this ⊢
    omega
theorem cellsOf_snoc (ps : List Pd) (p : Pd) : cellsOf (ps ++ [p]) = cellsOf ps ++ p.cells := by simp [cellsOf]

theorem cellsOf_get {n : Nat} : ∀ (ps : List Pd) (_ : ∀ p ∈ ps, p.ok n) (i : Nat) (hi : i < ps.length) (j : Nat) (v : Value), ps[i].cells[j]? = some v → (cellsOf ps)[i * 129 + j]? = some v
  | [], _, _, hi, _, _, _ => by simp at hi
  | p :: ps, h, 0, _, j, v, hv => by
    simp only [List.getElem_cons_zero] at hv
    simp only [cellsOf, List.flatMap_cons, Nat.zero_mul, Nat.zero_add]
    rw [List.getElem?_append_left (List.getElem?_eq_some_iff.1 hv).1]
    exact hv
  | p :: ps, h, i + 1, hi, j, v, hv => by
    have h1 := Pd.cells_length (h p (by simp))
    have := cellsOf_get ps (fun y hy => h y (by simp [hy])) i (by simpa using hi) j v (by simpa using hv)
    simp only [cellsOf, List.flatMap_cons] at this ⊢
    rw [List.getElem?_append_right (by omega), h1, show (i + 1) * 129 + j - 129 = i * 129 + j by omega]
    exact this

/-- Bytes laid over a row that has more behind it. -/
theorem splice_map (im : List UInt8) (tail : List Value) (k : Nat) (b : List UInt8) (h : 64 * k + b.length ≤ im.length) :
    splice (im.map bv ++ tail) (64 * k) (b.map bv) = (lay im k b).map bv ++ tail := by
  unfold lay splice
  rw [List.take_append_of_le_length (by simp; omega), List.length_map, List.drop_append_of_le_length (by simp; omega)]
  simp only [List.map_append, List.map_take, List.map_drop, List.append_assoc]

end Go.Mk
