/-
  Lemmas towards the claim of this folder: contracts of the functions that the law reaches; joined texts.
-/
import Derived.Test.YtlnincdmdegaoaaGreatGL8
import Derived.Test.YtlnincdmdegaoaaGreatGFits
import Derived.Test.YtlnincdmdegaoaaGreatGEe
import Derived.OpenShut
/-
  A change, as it lies in memory; what becomes of a snapshot by it; two changes of unlike keys.
-/
namespace Go.Proofs.YtlnincdmdegaoaaGreat
open Go.RowKit Go.Mk Go.Maps

structure CD where
  dr : Bool
  d : DD
  ao : Option Addr
  cap : Nat
  key : List UInt8

def CD.cells (c : CD) : Array Value := #[.bool c.dr, .int .i64 c.d.k, .string (bs c.d.c), .string (bs c.d.p), .slice c.ao c.d.vs.length c.cap, .string (bs c.d.s), .string (bs c.d.t), .string (bs c.key)]

/-- Its cells at a block. -/
structure Cb (w : World) (b : Nat) (c : CD) : Prop where
  c0 : w.cell? ⟨b, 0, none⟩ = some (.bool c.dr)
  c1 : w.cell? ⟨b, 1, none⟩ = some (.int .i64 c.d.k)
  c2 : w.cell? ⟨b, 2, none⟩ = some (.string (bs c.d.c))
  c3 : w.cell? ⟨b, 3, none⟩ = some (.string (bs c.d.p))
  c4 : w.cell? ⟨b, 4, none⟩ = some (.slice c.ao c.d.vs.length c.cap)
  c5 : w.cell? ⟨b, 5, none⟩ = some (.string (bs c.d.s))
  c6 : w.cell? ⟨b, 6, none⟩ = some (.string (bs c.d.t))
  c7 : w.cell? ⟨b, 7, none⟩ = some (.string (bs c.key))

theorem Cb.kept {S : Nat → Prop} {w w' : World} {b : Nat} {c : CD} (h : Cb w b c) (hk : Kept S w w') (hb : ¬ S b) : Cb w' b c := by
  have hlt : b < w.heap.size := World.block_lt_of_cell? _ _ h.c0
  exact ⟨(hk.cell (p := ⟨b, 0, none⟩) hlt hb).trans h.c0, (hk.cell (p := ⟨b, 1, none⟩) hlt hb).trans h.c1, (hk.cell (p := ⟨b, 2, none⟩) hlt hb).trans h.c2, (hk.cell (p := ⟨b, 3, none⟩) hlt hb).trans h.c3, (hk.cell (p := ⟨b, 4, none⟩) hlt hb).trans h.c4, (hk.cell (p := ⟨b, 5, none⟩) hlt hb).trans h.c5, (hk.cell (p := ⟨b, 6, none⟩) hlt hb).trans h.c6, (hk.cell (p := ⟨b, 7, none⟩) hlt hb).trans h.c7⟩

theorem cb_new (w : World) (c : CD) (t : TypeId) : Cb (w.alloc (.cells #[.bool c.dr, .int .i64 c.d.k, .string (bs c.d.c), .string (bs c.d.p), .slice c.ao c.d.vs.length c.cap, .string (bs c.d.s), .string (bs c.d.t), .string (bs c.key)] t)) w.heap.size c := by
  constructor <;> exact World.cell?_alloc_new w _ t _

def chgL (c : CD) (l : List DD) : List DD := if c.dr = true then dropK keyD c.key l else putK keyD c.d l
def keyC (c : CD) : List UInt8 := if c.dr = true then c.key else keyD c.d

/-- What a change that came in has. -/
structure Cin (w : World) (B : Nat) (c : CD) : Prop where
  lies : Lies w B c.ao (strs c.d.vs)
  cap : c.d.vs.length ≤ c.cap
  key : c.key.length ≤ maxLen

theorem dr_two (c : CD) : c.dr = true ∨ c.dr = false := by cases c.dr <;> simp

theorem keytrue_of {c : CD} (h : (!c.dr) = true) : keyC c = keyD c.d := by simp at h; simp [keyC, h]
theorem keyfalse_of {c : CD} (h : (!c.dr) = false) : keyC c = c.key := by simp at h; simp [keyC, h]

theorem rise_chg {c : CD} {l : List DD} (h : Rise keyD l) : Rise keyD (chgL c l) := by
  unfold chgL
  split
  · exact rise_dropK h
  · exact rise_putK h

theorem mem_chg {c : CD} {l : List DD} (h : Rise keyD l) (x : DD) : x ∈ chgL c l ↔ (c.dr = false ∧ x = c.d) ∨ (x ∈ l ∧ keyD x ≠ keyC c) := by
  unfold chgL keyC
  cases c.dr
  · simp only [Bool.false_eq_true, if_false, true_and]
    exact mem_putK h x
  · simp only [if_true, Bool.true_eq_false, false_and, false_or]
    exact mem_dropK

theorem chg_len {c : CD} {l : List DD} (h : Rise keyD l) : (chgL c l).length ≤ l.length + 1 := by
  unfold chgL
  split
  · exact Nat.le_succ_of_le (List.length_filter_le _ _)
  · exact putK_le h

/-- Of two changes of unlike keys it does not matter which one comes first. -/
theorem chg_comm {a b : CD} {l : List DD} (h : Rise keyD l) (hk : keyC a ≠ keyC b) : chgL b (chgL a l) = chgL a (chgL b l) := by
  refine rise_ext (rise_chg (rise_chg h)) (rise_chg (rise_chg h)) (fun x => ?_)
  rw [mem_chg (rise_chg h), mem_chg h, mem_chg (rise_chg h), mem_chg h]
  have ha : a.dr = false → keyD a.d = keyC a := fun e => by simp [keyC, e]
  have hb : b.dr = false → keyD b.d = keyC b := fun e => by simp [keyC, e]
  constructor
  · rintro (⟨h1, rfl⟩ | ⟨⟨h1, rfl⟩ | ⟨h1, h2⟩, h3⟩)
    · exact .inr ⟨.inl ⟨h1, rfl⟩, by rw [hb h1]; exact fun e => hk e.symm⟩
    · exact .inl ⟨h1, rfl⟩
    · exact .inr ⟨.inr ⟨h1, h3⟩, h2⟩
  · rintro (⟨h1, rfl⟩ | ⟨⟨h1, rfl⟩ | ⟨h1, h2⟩, h3⟩)
    · exact .inr ⟨.inl ⟨h1, rfl⟩, by rw [ha h1]; exact hk⟩
    · exact .inl ⟨h1, rfl⟩
    · exact .inr ⟨.inr ⟨h1, h3⟩, h2⟩

theorem putR_ok {d : DD} {l : List DD} (hr : rightD d = true) (hl : l.length ≤ 400) : putR d l = (0, putK keyD d l) := by
  unfold putR
  have := List.length_filter_le (fun x => !(keyD x == keyD d)) l
  rw [if_neg (by simp [hr]), if_neg (by unfold dropK; omega)]

end Go.Proofs.YtlnincdmdegaoaaGreat

/-
  Definitions in a row, and changes, that came in, as they lie in memory.
-/
namespace Go.Proofs.YtlnincdmdegaoaaGreat
open Go.ChangeShapes Go.WideShapes Go.ChangeAt Go.RowKit Go.Mk

/-- A row of which each element is a definition. -/
theorem ds_of_row {w : World} {B : Nat} {la : Option Addr} (n : Nat) (h : 0 < n → ∃ b off, la = some ⟨b, off, none⟩ ∧ b < B ∧ ∀ j, j < n → ∃ cs', (∃ y : tyDef.Val, Fits w B tyDef cs' y) ∧ ∀ i u, cs'[i]? = some u → w.cell? ⟨b, off + j * 6 + i, none⟩ = some u) :
    ∃ es : List Ent, es.length = n ∧ Ds w B la es := by
  by_cases hn : 0 < n
  · obtain ⟨b, off, rfl, hb, hc⟩ := h hn
    have : ∀ m, m ≤ n → ∃ es : List Ent, es.length = m ∧ (∀ j (hj : j < es.length), Bo w b (off + j * 6) es[j].2.1 es[j].2.2 es[j].1) ∧ ∀ e ∈ es, Lies w B e.2.1 (strs e.1.vs) ∧ e.1.vs.length ≤ e.2.2 := by
      intro m
      induction m with
      | zero => intro _; exact ⟨[], rfl, fun j hj => by simp at hj, by simp⟩
      | succ m ih =>
        intro hm
        obtain ⟨es, h1, h2, h3⟩ := ih (by omega)
        obtain ⟨cs', ⟨y, hf⟩, hcell⟩ := hc m (by omega)
        obtain ⟨ao, cap, d, rfl, hl, hcp, _⟩ := def_cells hf
        refine ⟨es ++ [(d, ao, cap)], by simp [h1], fun j hj => ?_, fun e he => ?_⟩
        · by_cases hjm : j < es.length
          · rw [List.getElem_append_left hjm]
            exact h2 j hjm
          · have hje : j = es.length := by simp at hj; omega
            subst hje
            rw [List.getElem_append_right (Nat.le_refl _)]
            simp only [Nat.sub_self, List.getElem_cons_zero]
            rw [h1]
            exact ⟨hcell 0 _ rfl, hcell 1 _ rfl, hcell 2 _ rfl, hcell 3 _ rfl, hcell 4 _ rfl, hcell 5 _ rfl⟩
        · rcases List.mem_append.1 he with he | he
          · exact h3 e he
          · rw [List.mem_singleton] at he
            subst he
            exact ⟨hl, hcp⟩
    obtain ⟨es, h1, h2, h3⟩ := this n (Nat.le_refl _)
    exact ⟨es, h1, ⟨fun _ => ⟨b, off, rfl, hb, h2⟩, h3⟩⟩
  · obtain rfl : n = 0 := by omega
    exact ⟨[], rfl, ⟨fun h => (h rfl).elim, by simp⟩⟩

theorem defs_of {w : World} {B : Nat} {cs : List Value} : ∀ {v : (Ty.slice tyDef).Val} (_ : Fits w B (.slice tyDef) cs v), ∃ (la : Option Addr) (lc : Nat) (es : List Ent), cs = [.slice la es.length lc] ∧ Ds w B la es
  | (la, lc, (l : List tyDef.Val)), h => by
    have h5 : l ≠ [] → ∃ b off, la = some ⟨b, off, none⟩ ∧ b < B ∧ ∀ j (hj : j < l.length), ∃ cs', Fits w B tyDef cs' l[j] ∧ ∀ i u, cs'[i]? = some u → w.cell? ⟨b, off + j * 6 + i, none⟩ = some u := h.2.2.2.2
    obtain ⟨es, h1, h2⟩ := ds_of_row (w := w) (B := B) (la := la) l.length (fun hn => by
      obtain ⟨b, off, e, hb, hc⟩ := h5 (by intro e; rw [e] at hn; simp at hn)
      exact ⟨b, off, e, hb, fun j hj => by obtain ⟨cs', hf, hcell⟩ := hc j hj; exact ⟨cs', ⟨_, hf⟩, hcell⟩⟩)
    exact ⟨la, lc, es, by rw [h1]; exact h.1, h2⟩

def tyChange : Ty := .struct (.pair .bool (.pair tyDef (.pair .str .unit)))

theorem chg_cells {w : World} {B : Nat} {cs : List Value} : ∀ {y : tyChange.Val} (_ : Fits w B tyChange cs y), ∃ c : CD, cs = c.cells.toList ∧ Cin w B c
  | (dr, d, key, ()), h => by
    obtain ⟨_, _, rfl, rfl, _, _, rfl, hd, _, _, rfl, ⟨rfl, hk⟩, h0⟩ := h
    obtain rfl := h0
    obtain ⟨ao, cap, d', rfl, g1, g2, _⟩ := def_cells (show Fits w B tyDef _ d from hd)
    exact ⟨⟨dr, d', ao, cap, key.data.toList⟩, rfl, ⟨g1, g2, hk⟩⟩

end Go.Proofs.YtlnincdmdegaoaaGreat

/-
  Edits that came in, as they lie in memory.
-/
namespace Go.Proofs.YtlnincdmdegaoaaGreat
open Go.ChangeShapes Go.WideShapes Go.ChangeAt Go.RowKit Go.Mk

def tyEdit : Ty := .struct (.pair .str (.pair (.slice tyDef) (.pair (.slice tyDef) .unit)))

theorem sd_of {w : World} {B : Nat} {cs : List Value} : ∀ {v : (Ty.slice tyDef).Val} (_ : Fits w B (.slice tyDef) cs v), ∃ s : SD, cs = [s.val] ∧ SDs w B s
  | (la, lc, (l : List tyDef.Val)), h => by
    obtain ⟨la', lc', es, h1, h2⟩ := defs_of h
    have h3 : l.length ≤ lc := h.2.1
    have h4 : cs = [.slice la l.length lc] := h.1
    rw [h4] at h1
    simp only [List.cons.injEq, Value.slice.injEq, and_true] at h1
    obtain ⟨rfl, hl, rfl⟩ := h1
    exact ⟨⟨la, lc, es⟩, by rw [h4, hl]; rfl, ⟨h2, by show es.length ≤ lc; omega⟩⟩

theorem ed_cells {w : World} {B : Nat} {cs : List Value} : ∀ {y : tyEdit.Val} (_ : Fits w B tyEdit cs y), ∃ e : EE, cs = cellsP1 e ∧ SDs w B e.old ∧ SDs w B e.new
  | (key, o, n, ()), h => by
    obtain ⟨_, _, rfl, ⟨rfl, hk⟩, _, _, rfl, ho, _, _, rfl, hn, h0⟩ := h
    obtain rfl := h0
    obtain ⟨so, rfl, h1⟩ := sd_of (show Fits w B (.slice tyDef) _ o from ho)
    obtain ⟨sn, rfl, h2⟩ := sd_of (show Fits w B (.slice tyDef) _ n from hn)
    exact ⟨⟨key.data.toList, so, sn⟩, rfl, h1, h2⟩

theorem eds_of {w : World} {B : Nat} {cs : List Value} : ∀ {v : (Ty.slice tyEdit).Val} (_ : Fits w B (.slice tyEdit) cs v), ∃ (pa : Option Addr) (pc : Nat) (p : List EE), cs = [.slice pa p.length pc] ∧ p.length ≤ pc ∧ Es w B pa p
  | (pa, pc, (l : List tyEdit.Val)), h => by
    have h5 : l ≠ [] → ∃ b off, pa = some ⟨b, off, none⟩ ∧ b < B ∧ ∀ j (hj : j < l.length), ∃ cs', Fits w B tyEdit cs' l[j] ∧ ∀ i u, cs'[i]? = some u → w.cell? ⟨b, off + j * 3 + i, none⟩ = some u := h.2.2.2.2
    have hcap : l.length ≤ pc := h.2.1
    by_cases hn : l = []
    · exact ⟨pa, pc, [], by rw [h.1, hn]; rfl, Nat.zero_le _, Es.nil _ _ _⟩
    · obtain ⟨b, off, rfl, hb, hc⟩ := h5 hn
      have : ∀ m, m ≤ l.length → ∃ p : List EE, p.length = m ∧ (∀ j (hj : j < p.length), Eo w b (off + j * 3) p[j]) ∧ ∀ e ∈ p, SDs w B e.old ∧ SDs w B e.new := by
        intro m
        induction m with
        | zero => intro _; exact ⟨[], rfl, fun j hj => by simp at hj, by simp⟩
        | succ m ih =>
          intro hm
          obtain ⟨p, h1, h2, h3⟩ := ih (by omega)
          obtain ⟨cs', hf, hcell⟩ := hc m (by omega)
          obtain ⟨e, rfl, g1, g2⟩ := ed_cells hf
          refine ⟨p ++ [e], by simp [h1], fun j hj => ?_, fun x hx => ?_⟩
          · by_cases hjm : j < p.length
            · rw [List.getElem_append_left hjm]
              exact h2 j hjm
            · have hje : j = p.length := by simp at hj; omega
              subst hje
              rw [List.getElem_append_right (Nat.le_refl _)]
              simp only [Nat.sub_self, List.getElem_cons_zero]
              rw [h1]
              exact ⟨hcell 0 _ rfl, hcell 1 _ rfl, hcell 2 _ rfl⟩
          · rcases List.mem_append.1 hx with hx | hx
            · exact h3 x hx
            · rw [List.mem_singleton] at hx
              subst hx
              exact ⟨g1, g2⟩
      obtain ⟨p, h1, h2, h3⟩ := this l.length (Nat.le_refl _)
      exact ⟨some ⟨b, off, none⟩, pc, p, by rw [h1]; exact h.1, by rw [h1]; exact hcap, ⟨fun _ => ⟨b, off, rfl, hb, h2⟩, h3⟩⟩

end Go.Proofs.YtlnincdmdegaoaaGreat

/-
  Three slices of definitions beside each other that came in.
-/
namespace Go.Proofs.YtlnincdmdegaoaaGreat
open Go.ChangeShapes Go.WideShapes Go.ChangeAt Go.RowKit Go.Mk

set_option maxRecDepth 100000 in
theorem okWide_arr3 {w : World} {r : _} {base : Nat} {v : Value} (h : Value.okWide Tryz.prog w r base 23 v) : ∃ cs, v = .agg cs := by
  have ht := Tryz.underlying23
  simp only [Value.okWide, ht] at h
  obtain ⟨cs, h1, _⟩ := h
  exact ⟨cs, h1⟩

set_option maxRecDepth 100000 in
theorem lists_cells {H : Type} {enc : TypeId × Value → H} {w : World} {spare : Nat → Bool} {held : Bool} {v : Value} {x : DataW H} {ps : List MemPlace} (h : DataW.Trod enc Tryz.prog w 0 spare held 23 v x ps) :
    ∃ (s0 s1 s2 : SD), v.cells.toList = [s0.val, s1.val, s2.val] ∧ SDs w w.heap.size s0 ∧ SDs w w.heap.size s1 ∧ SDs w w.heap.size s2 := by
  obtain ⟨fuel, hf⟩ := h
  obtain ⟨xs, m, _, _, hlen, hxl, hel⟩ := DataW.trod_array Tryz.underlying23 hf
  generalize v.cells.toList = cs at *
  have hz : Tryz.prog.cellsOf 22 = 1 := by kernel_rfl
  have hz2 : Tryz.prog.cellsOf 23 = 3 := by kernel_rfl
  rw [hz2] at hlen
  have each : ∀ i, i < 3 → ∃ s : SD, (cs.drop (i * 1)).take 1 = [s.val] ∧ SDs w w.heap.size s := by
    intro i hi
    have h1 := hel i hi
    rw [hz, List.getElem?_eq_getElem (by omega)] at h1
    obtain ⟨y, hy⟩ := fits_of (enc := enc) (P := Tryz.prog) (w := w) (spare := spare) (held := held) (.slice tyDef) (.inl 22) _ (by kernel_rfl) ⟨m, _, h1⟩ (fun _ _ h => by cases h)
    exact sd_of hy
  obtain ⟨s0, e0, h0⟩ := each 0 (by omega)
  obtain ⟨s1, e1, h1⟩ := each 1 (by omega)
  obtain ⟨s2, e2, h2⟩ := each 2 (by omega)
  refine ⟨s0, s1, s2, ?_, h0, h1, h2⟩
  have hcut : cs = (cs.drop (0 * 1)).take 1 ++ ((cs.drop (1 * 1)).take 1 ++ (cs.drop (2 * 1)).take 1) := by
    have t2 : (cs.drop (2 * 1)).take 1 = cs.drop 2 := List.take_of_length_le (by rw [List.length_drop]; omega)
    have t1 : (cs.drop (1 * 1)).take 1 ++ cs.drop 2 = cs.drop 1 := by
      have := List.take_append_drop 1 (cs.drop 1)
      rwa [List.drop_drop] at this
    rw [t2, t1]
    exact (List.take_append_drop 1 cs).symm
  rw [hcut, e0, e1, e2]
  rfl

def l3 (s0 s1 s2 : SD) (i : Nat) : SD := if i = 0 then s0 else if i = 1 then s1 else s2

theorem l3_ds {w : World} {s0 s1 s2 : SD} (h0 : SDs w w.heap.size s0) (h1 : SDs w w.heap.size s1) (h2 : SDs w w.heap.size s2) : ∀ i, i < 3 → Ds w w.heap.size (l3 s0 s1 s2 i).ao (l3 s0 s1 s2 i).es := by
  intro i hi
  have : i = 0 ∨ i = 1 ∨ i = 2 := by omega
  rcases this with rfl | rfl | rfl
  · exact h0.ds
  · exact h1.ds
  · exact h2.ds

end Go.Proofs.YtlnincdmdegaoaaGreat
