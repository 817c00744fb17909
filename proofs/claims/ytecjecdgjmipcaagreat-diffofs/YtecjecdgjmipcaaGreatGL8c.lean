/-
  Lemmas towards the claim of this folder: contracts of the functions that the law reaches; joined texts.
-/
import Derived.Test.YtecjecdgjmipcaaGreatGL7
import Derived.Test.YtecjecdgjmipcaaGreatSx
import Derived.Test.YtecjecdgjmipcaaGreatGR8
import Derived.Test.YtecjecdgjmipcaaGreatGTh
import Derived.Test.YtecjecdgjmipcaaGreatGR7
import Derived.Deep.CutBlock
import Derived.Deep.DeepCutAuto
/-
  A change, as it lies in memory; what becomes of a snapshot by it; two changes of unlike keys.
-/
namespace Go.Proofs.YtecjecdgjmipcaaGreat
open Go.RowKit Go.Mk Go.Maps

structure CD where
  dr : Bool
  d : DD
  ao : Option Addr
  cap : Nat
  key : List UInt8

def CD.cells (c : CD) : Array Value := #[.bool c.dr, .int .i64 c.d.k, .string (bs c.d.c), .string (bs c.d.p), .slice c.ao c.d.vs.length c.cap, .string (bs c.d.s), .string (bs c.d.t), .string (bs c.key)]

/-- Its cells at a block. -/
structure Cb (w : World) (b : Nat) (c : CD) : Prop where
  c0 : w.cell? ⟨b, 0, none⟩ = some (.bool c.dr)
  c1 : w.cell? ⟨b, 1, none⟩ = some (.int .i64 c.d.k)
  c2 : w.cell? ⟨b, 2, none⟩ = some (.string (bs c.d.c))
  c3 : w.cell? ⟨b, 3, none⟩ = some (.string (bs c.d.p))
  c4 : w.cell? ⟨b, 4, none⟩ = some (.slice c.ao c.d.vs.length c.cap)
  c5 : w.cell? ⟨b, 5, none⟩ = some (.string (bs c.d.s))
  c6 : w.cell? ⟨b, 6, none⟩ = some (.string (bs c.d.t))
  c7 : w.cell? ⟨b, 7, none⟩ = some (.string (bs c.key))

theorem Cb.kept {S : Nat → Prop} {w w' : World} {b : Nat} {c : CD} (h : Cb w b c) (hk : Kept S w w') (hb : ¬ S b) : Cb w' b c := by
  have hlt : b < w.heap.size := World.block_lt_of_cell? _ _ h.c0
  exact ⟨(hk.cell (p := ⟨b, 0, none⟩) hlt hb).trans h.c0, (hk.cell (p := ⟨b, 1, none⟩) hlt hb).trans h.c1, (hk.cell (p := ⟨b, 2, none⟩) hlt hb).trans h.c2, (hk.cell (p := ⟨b, 3, none⟩) hlt hb).trans h.c3, (hk.cell (p := ⟨b, 4, none⟩) hlt hb).trans h.c4, (hk.cell (p := ⟨b, 5, none⟩) hlt hb).trans h.c5, (hk.cell (p := ⟨b, 6, none⟩) hlt hb).trans h.c6, (hk.cell (p := ⟨b, 7, none⟩) hlt hb).trans h.c7⟩

theorem cb_new (w : World) (c : CD) (t : TypeId) : Cb (w.alloc (.cells #[.bool c.dr, .int .i64 c.d.k, .string (bs c.d.c), .string (bs c.d.p), .slice c.ao c.d.vs.length c.cap, .string (bs c.d.s), .string (bs c.d.t), .string (bs c.key)] t)) w.heap.size c := by
  constructor <;> exact World.cell?_alloc_new w _ t _

def chgL (c : CD) (l : List DD) : List DD := if c.dr = true then dropK keyD c.key l else putK keyD c.d l
def keyC (c : CD) : List UInt8 := if c.dr = true then c.key else keyD c.d

/-- What a change that came in has. -/
structure Cin (w : World) (B : Nat) (c : CD) : Prop where
  lies : Lies w B c.ao (strs c.d.vs)
  cap : c.d.vs.length ≤ c.cap
  key : c.key.length ≤ maxLen

theorem dr_two (c : CD) : c.dr = true ∨ c.dr = false := by cases c.dr <;> simp

theorem keytrue_of {c : CD} (h : (!c.dr) = true) : keyC c = keyD c.d := by simp at h; simp [keyC, h]
theorem keyfalse_of {c : CD} (h : (!c.dr) = false) : keyC c = c.key := by simp at h; simp [keyC, h]

theorem rise_chg {c : CD} {l : List DD} (h : Rise keyD l) : Rise keyD (chgL c l) := by
  unfold chgL
  split
  · exact rise_dropK h
  · exact rise_putK h

theorem mem_chg {c : CD} {l : List DD} (h : Rise keyD l) (x : DD) : x ∈ chgL c l ↔ (c.dr = false ∧ x = c.d) ∨ (x ∈ l ∧ keyD x ≠ keyC c) := by
  unfold chgL keyC
  cases c.dr
  · simp only [Bool.false_eq_true, if_false, true_and]
    exact mem_putK h x
  · simp only [if_true, Bool.true_eq_false, false_and, false_or]
    exact mem_dropK

theorem chg_len {c : CD} {l : List DD} (h : Rise keyD l) : (chgL c l).length ≤ l.length + 1 := by
  unfold chgL
  split
  · exact Nat.le_succ_of_le (List.length_filter_le _ _)
  · exact putK_le h

/-- Of two changes of unlike keys it does not matter which one comes first. -/
theorem chg_comm {a b : CD} {l : List DD} (h : Rise keyD l) (hk : keyC a ≠ keyC b) : chgL b (chgL a l) = chgL a (chgL b l) := by
  refine rise_ext (rise_chg (rise_chg h)) (rise_chg (rise_chg h)) (fun x => ?_)
  rw [mem_chg (rise_chg h), mem_chg h, mem_chg (rise_chg h), mem_chg h]
  have ha : a.dr = false → keyD a.d = keyC a := fun e => by simp [keyC, e]
  have hb : b.dr = false → keyD b.d = keyC b := fun e => by simp [keyC, e]
  constructor
  · rintro (⟨h1, rfl⟩ | ⟨⟨h1, rfl⟩ | ⟨h1, h2⟩, h3⟩)
    · exact .inr ⟨.inl ⟨h1, rfl⟩, by rw [hb h1]; exact fun e => hk e.symm⟩
    · exact .inl ⟨h1, rfl⟩
    · exact .inr ⟨.inr ⟨h1, h3⟩, h2⟩
  · rintro (⟨h1, rfl⟩ | ⟨⟨h1, rfl⟩ | ⟨h1, h2⟩, h3⟩)
    · exact .inr ⟨.inl ⟨h1, rfl⟩, by rw [ha h1]; exact hk⟩
    · exact .inl ⟨h1, rfl⟩
    · exact .inr ⟨.inr ⟨h1, h3⟩, h2⟩

theorem putR_ok {d : DD} {l : List DD} (hr : rightD d = true) (hl : l.length ≤ 400) : putR d l = (0, putK keyD d l) := by
  unfold putR
  have := List.length_filter_le (fun x => !(keyD x == keyD d)) l
  rw [if_neg (by simp [hr]), if_neg (by unfold dropK; omega)]

end Go.Proofs.YtecjecdgjmipcaaGreat

/-
  SnapChanges: the walk.
-/
namespace Go.Proofs.YtecjecdgjmipcaaGreat
open Go.RowKit Go.Mk Go.Maps

/-- A change's cells at an offset. -/
structure Co (w : World) (b o : Nat) (c : CD) : Prop where
  c0 : w.cell? ⟨b, o, none⟩ = some (.bool c.dr)
  c1 : w.cell? ⟨b, o + 1, none⟩ = some (.int .i64 c.d.k)
  c2 : w.cell? ⟨b, o + 2, none⟩ = some (.string (bs c.d.c))
  c3 : w.cell? ⟨b, o + 3, none⟩ = some (.string (bs c.d.p))
  c4 : w.cell? ⟨b, o + 4, none⟩ = some (.slice c.ao c.d.vs.length c.cap)
  c5 : w.cell? ⟨b, o + 5, none⟩ = some (.string (bs c.d.s))
  c6 : w.cell? ⟨b, o + 6, none⟩ = some (.string (bs c.d.t))
  c7 : w.cell? ⟨b, o + 7, none⟩ = some (.string (bs c.key))

theorem Co.keep {w w' : World} {b o : Nat} {c : CD} (h : Co w b o c) (hk : Kept (fun _ => False) w w') : Co w' b o c := by
  have hlt : b < w.heap.size := World.block_lt_of_cell? _ _ h.c0
  exact ⟨(hk.cell (p := ⟨b, o, none⟩) hlt (fun h => h)).trans h.c0, (hk.cell (p := ⟨b, o + 1, none⟩) hlt (fun h => h)).trans h.c1, (hk.cell (p := ⟨b, o + 2, none⟩) hlt (fun h => h)).trans h.c2, (hk.cell (p := ⟨b, o + 3, none⟩) hlt (fun h => h)).trans h.c3, (hk.cell (p := ⟨b, o + 4, none⟩) hlt (fun h => h)).trans h.c4, (hk.cell (p := ⟨b, o + 5, none⟩) hlt (fun h => h)).trans h.c5, (hk.cell (p := ⟨b, o + 6, none⟩) hlt (fun h => h)).trans h.c6, (hk.cell (p := ⟨b, o + 7, none⟩) hlt (fun h => h)).trans h.c7⟩

/-- Changes in a row that came in. -/
structure Cds (w : World) (B : Nat) (ca : Option Addr) (cs : List CD) : Prop where
  row : cs ≠ [] → ∃ b off, ca = some ⟨b, off, none⟩ ∧ b < B ∧ ∀ j (h : j < cs.length), Co w b (off + j * 8) cs[j]
  each : ∀ c ∈ cs, Cin w B c

/-- A change in its box. -/
structure X8 (w : World) (b : Nat) (c : CD) (wx : World) : Prop where
  box : Cb wx b c
  k : Kept (fun _ => False) w wx

theorem X8.keep {w : World} {b : Nat} {c : CD} {wx wy : World} (h : X8 w b c wx) (hk : Kept (fun _ => False) wx wy) : X8 w b c wy :=
  ⟨h.box.kept hk (fun h => h), h.k.trans hk (fun _ _ h => h)⟩

theorem is_rl {v : Value} {oa : Option Addr} {oc : Nat} {es : List Ent} {w : World} (hs : Sn w v (dds es)) (hr : Rl w oa es) (hl : es.length ≤ 600) :
    Calls Tryz.prog 20 #[v, .slice oa es.length oc] w fun e w' => e = .returned (.bool true) ∧ Kept (fun _ => False) w w' := by
  have := is_any v (dds es) oa oc es w hs hr.ds (by rw [dds_len]; exact hl) (fun e he => (hr.len e he).n)
  rwa [show isL (dds es) (dds es) = true from decide_eq_true rfl] at this

theorem dds_drop (key : List UInt8) (es : List Ent) : dds (dropK keyE key es) = dropK keyD key (dds es) := map_dropK (f := fun e : Ent => e.1) (ka := keyE) (kb := keyD) (fun _ => rfl) key es
theorem dds_put (x : Ent) (es : List Ent) : dds (putK keyE x es) = putK keyD x.1 (dds es) := map_putK (f := fun e : Ent => e.1) (ka := keyE) (kb := keyD) (fun _ => rfl) x es

theorem nx_any (j : Nat) (h : j ≤ 1000) : Value.int .i64 (wrap64 ((j : Int) + 1)) = .int .i64 ((j + 1 : Nat) : Int) := by
  refine congrArg _ ?_
  unfold wrap64
  omega

def bigX (es : List Ent) (n : Nat) : Bool := !fewB es 10 || decide (10 < n)

end Go.Proofs.YtecjecdgjmipcaaGreat
