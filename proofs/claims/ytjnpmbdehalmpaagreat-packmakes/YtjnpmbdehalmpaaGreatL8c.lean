/-
  A change, as it lies in memory; what becomes of a snapshot by it; two changes of unlike keys.
-/
import Derived.Test.YtjnpmbdehalmpaaGreatGSw
import Derived.Test.YtjnpmbdehalmpaaGreatSx
namespace Go.Proofs.YtjnpmbdehalmpaaGreat
open Go.RowKit Go.Mk Go.Maps

structure CD where
  dr : Bool
  d : DD
  ao : Option Addr
  cap : Nat
  key : List UInt8

def CD.cells (c : CD) : Array Value := #[.bool c.dr, .int .i64 c.d.k, .string (bs c.d.c), .string (bs c.d.p), .slice c.ao c.d.vs.length c.cap, .string (bs c.d.s), .string (bs c.d.t), .string (bs c.key)]

/-- Its cells at a block. -/
structure Cb (w : World) (b : Nat) (c : CD) : Prop where
  c0 : w.cell? ⟨b, 0, none⟩ = some (.bool c.dr)
  c1 : w.cell? ⟨b, 1, none⟩ = some (.int .i64 c.d.k)
  c2 : w.cell? ⟨b, 2, none⟩ = some (.string (bs c.d.c))
  c3 : w.cell? ⟨b, 3, none⟩ = some (.string (bs c.d.p))
  c4 : w.cell? ⟨b, 4, none⟩ = some (.slice c.ao c.d.vs.length c.cap)
  c5 : w.cell? ⟨b, 5, none⟩ = some (.string (bs c.d.s))
  c6 : w.cell? ⟨b, 6, none⟩ = some (.string (bs c.d.t))
  c7 : w.cell? ⟨b, 7, none⟩ = some (.string (bs c.key))

theorem Cb.kept {S : Nat → Prop} {w w' : World} {b : Nat} {c : CD} (h : Cb w b c) (hk : Kept S w w') (hb : ¬ S b) : Cb w' b c := by
  have hlt : b < w.heap.size := World.block_lt_of_cell? _ _ h.c0
  exact ⟨(hk.cell (p := ⟨b, 0, none⟩) hlt hb).trans h.c0, (hk.cell (p := ⟨b, 1, none⟩) hlt hb).trans h.c1, (hk.cell (p := ⟨b, 2, none⟩) hlt hb).trans h.c2, (hk.cell (p := ⟨b, 3, none⟩) hlt hb).trans h.c3, (hk.cell (p := ⟨b, 4, none⟩) hlt hb).trans h.c4, (hk.cell (p := ⟨b, 5, none⟩) hlt hb).trans h.c5, (hk.cell (p := ⟨b, 6, none⟩) hlt hb).trans h.c6, (hk.cell (p := ⟨b, 7, none⟩) hlt hb).trans h.c7⟩

theorem cb_new (w : World) (c : CD) (t : TypeId) : Cb (w.alloc (.cells #[.bool c.dr, .int .i64 c.d.k, .string (bs c.d.c), .string (bs c.d.p), .slice c.ao c.d.vs.length c.cap, .string (bs c.d.s), .string (bs c.d.t), .string (bs c.key)] t)) w.heap.size c := by
  constructor <;> exact World.cell?_alloc_new w _ t _

def chgL (c : CD) (l : List DD) : List DD := if c.dr = true then dropK keyD c.key l else putK keyD c.d l
def keyC (c : CD) : List UInt8 := if c.dr = true then c.key else keyD c.d

/-- What a change that came in has. -/
structure Cin (w : World) (B : Nat) (c : CD) : Prop where
  lies : Lies w B c.ao (strs c.d.vs)
  cap : c.d.vs.length ≤ c.cap
  key : c.key.length ≤ maxLen

theorem dr_two (c : CD) : c.dr = true ∨ c.dr = false := by cases c.dr <;> simp

theorem keytrue_of {c : CD} (h : (!c.dr) = true) : keyC c = keyD c.d := by simp at h; simp [keyC, h]
theorem keyfalse_of {c : CD} (h : (!c.dr) = false) : keyC c = c.key := by simp at h; simp [keyC, h]

theorem rise_chg {c : CD} {l : List DD} (h : Rise keyD l) : Rise keyD (chgL c l) := by
  unfold chgL
  split
  · exact rise_dropK h
  · exact rise_putK h

theorem mem_chg {c : CD} {l : List DD} (h : Rise keyD l) (x : DD) : x ∈ chgL c l ↔ (c.dr = false ∧ x = c.d) ∨ (x ∈ l ∧ keyD x ≠ keyC c) := by
  unfold chgL keyC
  cases c.dr
  · simp only [Bool.false_eq_true, if_false, true_and]
    exact mem_putK h x
  · simp only [if_true, Bool.true_eq_false, false_and, false_or]
    exact mem_dropK

theorem chg_len {c : CD} {l : List DD} (h : Rise keyD l) : (chgL c l).length ≤ l.length + 1 := by
  unfold chgL
  split
  · exact Nat.le_succ_of_le (List.length_filter_le _ _)
  · exact putK_le h

/-- Of two changes of unlike keys it does not matter which one comes first. -/
theorem chg_comm {a b : CD} {l : List DD} (h : Rise keyD l) (hk : keyC a ≠ keyC b) : chgL b (chgL a l) = chgL a (chgL b l) := by
  refine rise_ext (rise_chg (rise_chg h)) (rise_chg (rise_chg h)) (fun x => ?_)
  rw [mem_chg (rise_chg h), mem_chg h, mem_chg (rise_chg h), mem_chg h]
  have ha : a.dr = false → keyD a.d = keyC a := fun e => by simp [keyC, e]
  have hb : b.dr = false → keyD b.d = keyC b := fun e => by simp [keyC, e]
  constructor
  · rintro (⟨h1, rfl⟩ | ⟨⟨h1, rfl⟩ | ⟨h1, h2⟩, h3⟩)
    · exact .inr ⟨.inl ⟨h1, rfl⟩, by rw [hb h1]; exact fun e => hk e.symm⟩
    · exact .inl ⟨h1, rfl⟩
    · exact .inr ⟨.inr ⟨h1, h3⟩, h2⟩
  · rintro (⟨h1, rfl⟩ | ⟨⟨h1, rfl⟩ | ⟨h1, h2⟩, h3⟩)
    · exact .inr ⟨.inl ⟨h1, rfl⟩, by rw [ha h1]; exact hk⟩
    · exact .inl ⟨h1, rfl⟩
    · exact .inr ⟨.inr ⟨h1, h3⟩, h2⟩

theorem putR_ok {d : DD} {l : List DD} (hr : rightD d = true) (hl : l.length ≤ 400) : putR d l = (0, putK keyD d l) := by
  unfold putR
  have := List.length_filter_le (fun x => !(keyD x == keyD d)) l
  rw [if_neg (by simp [hr]), if_neg (by unfold dropK; omega)]

end Go.Proofs.YtjnpmbdehalmpaaGreat
