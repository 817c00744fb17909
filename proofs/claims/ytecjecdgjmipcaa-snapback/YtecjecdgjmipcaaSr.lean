/-
  CONTRACTS of package snap: New.
-/
import Derived.Test.YtecjecdgjmipcaaSq
import Derived.Test.YtecjecdgjmipcaaGDg
import Derived.Deep.CutBlock
import Derived.Deep.DeepCutAuto
namespace Go.Proofs.Ytecjecdgjmipcaa
open Go.RowKit Go.Mk Go.Maps

/-- A definition's cells somewhere in a block. -/
structure Bo (w : World) (b o : Nat) (ao : Option Addr) (cap : Nat) (d : DD) : Prop where
  c0 : w.cell? ⟨b, o, none⟩ = some (.int .i64 d.k)
  c1 : w.cell? ⟨b, o + 1, none⟩ = some (.string (bs d.c))
  c2 : w.cell? ⟨b, o + 2, none⟩ = some (.string (bs d.p))
  c3 : w.cell? ⟨b, o + 3, none⟩ = some (.slice ao d.vs.length cap)
  c4 : w.cell? ⟨b, o + 4, none⟩ = some (.string (bs d.s))
  c5 : w.cell? ⟨b, o + 5, none⟩ = some (.string (bs d.t))

theorem Bo.kept {S : Nat → Prop} {w w' : World} {b o : Nat} {ao : Option Addr} {cap : Nat} {d : DD} (h : Bo w b o ao cap d) (hk : Kept S w w') (hb : ¬ S b) : Bo w' b o ao cap d := by
  have hlt : b < w.heap.size := World.block_lt_of_cell? _ _ h.c0
  exact ⟨(hk.cell (p := ⟨b, o, none⟩) hlt hb).trans h.c0, (hk.cell (p := ⟨b, o + 1, none⟩) hlt hb).trans h.c1, (hk.cell (p := ⟨b, o + 2, none⟩) hlt hb).trans h.c2, (hk.cell (p := ⟨b, o + 3, none⟩) hlt hb).trans h.c3, (hk.cell (p := ⟨b, o + 4, none⟩) hlt hb).trans h.c4, (hk.cell (p := ⟨b, o + 5, none⟩) hlt hb).trans h.c5⟩

/-- Definitions in a row behind an address. -/
structure Ds (w : World) (B : Nat) (la : Option Addr) (es : List Ent) : Prop where
  row : es ≠ [] → ∃ b off, la = some ⟨b, off, none⟩ ∧ b < B ∧ ∀ j (h : j < es.length), Bo w b (off + j * 6) es[j].2.1 es[j].2.2 es[j].1
  lies : ∀ e ∈ es, Lies w B e.2.1 (strs e.1.vs) ∧ e.1.vs.length ≤ e.2.2

theorem Ds.kept {S : Nat → Prop} {w w' : World} {B : Nat} {la : Option Addr} {es : List Ent} (h : Ds w B la es) (hk : Kept S w w') (hS : ∀ k, k < B → ¬ S k) : Ds w' B la es := by
  refine ⟨fun hn => ?_, fun e he => ⟨(h.lies e he).1.kept hk (fun hn a ha => ?_), (h.lies e he).2⟩⟩
  · obtain ⟨b, off, e, hb, hc⟩ := h.row hn
    exact ⟨b, off, e, hb, fun j hj => (hc j hj).kept hk (hS b hb)⟩
  · obtain ⟨b, off, e1, hb, _⟩ := (h.lies e he).1 hn
    rw [e1] at ha
    cases ha
    exact hS b hb

theorem Ds.keep {w w' : World} {B : Nat} {la : Option Addr} {es : List Ent} (h : Ds w B la es) (hk : Kept (fun _ => False) w w') : Ds w' B la es := h.kept hk (fun _ _ h => h)

theorem Ds.mono {w : World} {B B' : Nat} {la : Option Addr} {es : List Ent} (h : Ds w B la es) (hB : B ≤ B') : Ds w B' la es := by
  refine ⟨fun hn => ?_, fun e he => ⟨(h.lies e he).1.mono hB, (h.lies e he).2⟩⟩
  obtain ⟨b, off, e, hb, hc⟩ := h.row hn
  exact ⟨b, off, e, Nat.lt_of_lt_of_le hb hB, hc⟩

def dds (es : List Ent) : List DD := es.map (·.1)
theorem dds_len (es : List Ent) : (dds es).length = es.length := by simp [dds]
theorem dds_get (es : List Ent) (j : Nat) (h : j < es.length) : (dds es)[j]'(by rw [dds_len]; exact h) = es[j].1 := by simp [dds]
theorem dds_take (es : List Ent) (j : Nat) (h : j < es.length) : (dds es).take (j + 1) = (dds es).take j ++ [es[j].1] := by
  rw [List.take_add_one, List.getElem?_eq_getElem (by rw [dds_len]; exact h), dds_get es j h]; rfl

/-- What New answers. -/
def NwPost (w : World) (r : Int × List DD) (e : Ending) (w' : World) : Prop :=
  ∃ v, e = .returned (.tuple #[v, .int .i64 r.1]) ∧ (r.1 = 0 → ∃ s, v = .pointer (some ⟨s, 0, none⟩)) ∧ (r.1 ≠ 0 → v = .pointer none) ∧ Sn w' v r.2 ∧ Kept (fun _ => False) w w'

theorem nw_err {w w' : World} {r : Int} (hr : r ≠ 0) (hk : Kept (fun _ => False) w w') : NwPost w (r, []) (.returned (.tuple #[.pointer none, .int .i64 r])) w' :=
  ⟨.pointer none, rfl, fun h => (hr h).elim, fun _ => rfl, sn_nil _, hk⟩

/-- New under way. -/
structure Nw (w : World) (m : List Ent) (wx : World) : Prop where
  tb : Tb wx w.heap.size m
  cell : wx.cell? ⟨w.heap.size + 1, 0, none⟩ = some (.map (some w.heap.size))
  k : Kept (fun _ => False) w wx
  sz : w.heap.size + 2 ≤ wx.heap.size

theorem Nw.keep {w : World} {m : List Ent} {wx wy : World} (h : Nw w m wx) (hk : Kept (fun _ => False) wx wy) : Nw w m wy :=
  ⟨h.tb.keep hk, (hk.cell (p := ⟨w.heap.size + 1, 0, none⟩) (World.block_lt_of_cell? _ _ h.cell) (fun h => h)).trans h.cell, h.k.trans hk (fun _ _ h => h), Nat.le_trans h.sz hk.size⟩

theorem Nw.sn {w : World} {m : List Ent} {wx : World} (h : Nw w m wx) : Sn wx (.pointer (some ⟨w.heap.size + 1, 0, none⟩)) (dds m) :=
  ⟨_, m, .inr ⟨_, rfl, h.cell⟩, .inr ⟨_, rfl, h.tb⟩, rfl⟩

theorem nw_new (w : World) : Nw w [] ((w.alloc (.map #[] 0)).alloc (.cells #[.map (some w.heap.size)] 67)) := by
  have h1 := (tb_new w).keep ((Kept.refl (fun _ => False) _).alloc (.cells #[.map (some w.heap.size)] 67))
  have h2 := World.cell?_alloc_new (w.alloc (.map #[] 0)) #[.map (some w.heap.size)] 67 0
  rw [World.size_alloc] at h2
  exact ⟨h1, h2, ((Kept.refl _ w).alloc _).alloc _, by simp⟩

theorem key_len {d : DD} (h : Len8 d) : (keyD d).length ≤ maxLen := by
  have := h.c; have := h.s
  unfold keyD maxLen
  split
  · split
    · simp; omega
    · omega
  · simp

/-- One more entry. -/
theorem Nw.put {w : World} {m : List Ent} {wx : World} (h : Nw w m wx) (e : Ent) (hr : rightD e.1 = true) (hL : Lies wx wx.heap.size e.2.1 (strs e.1.vs) ∧ e.1.vs.length ≤ e.2.2) (hl : Len8 e.1) (hm : m.length ≤ 1000000) :
    ∃ wy, (Instr.mapUpdate 65 (.map (some w.heap.size)) (.string (bs (keyE e))) (valE e)).run Try.prog wx = .ok () wy ∧ Nw w (putK keyE e m) wy ∧ Kept (fun k => k = w.heap.size) wx wy := by
  obtain ⟨wy, h1, h2, h3⟩ := h.tb.put e hr hL (key_len hl) hm (fun x hx hn => by
    rcases (mem_putK h.tb.rise x).1 hx with rfl | ⟨hx, _⟩
    · exact lies_row h.tb hL.1 (by unfold strs; simpa using hn)
    · exact h.tb.rows x hx hn)
  exact ⟨wy, h1, ⟨h2, (h3.cell (p := ⟨w.heap.size + 1, 0, none⟩) (World.block_lt_of_cell? _ _ h.cell) (by simp)).trans h.cell, h.k.trans h3 (fun i hi e => by omega), Nat.le_trans h.sz h3.size⟩, h3⟩

theorem newL_step (l : List DD) (d : DD) : newL (l ++ [d]) = newS (newL l) d := by simp [newL, List.foldl_append]
theorem newL_stop {l : List DD} {j : Nat} (h : (newL (l.take j)).1 ≠ 0) : newL l = newL (l.take j) := by
  have : newL l = (l.drop j).foldl newS (newL (l.take j)) := by
    unfold newL
    rw [← List.foldl_append, List.take_append_drop]
  rw [this, newS_err h]

end Go.Proofs.Ytecjecdgjmipcaa
