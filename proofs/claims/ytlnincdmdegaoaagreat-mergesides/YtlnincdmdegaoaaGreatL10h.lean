/-
  The laws of layer 10: three snapshots of three lists.
-/
import Derived.Test.YtlnincdmdegaoaaGreatGDy
import Derived.Test.YtlnincdmdegaoaaGreatGOd
import Derived.Test.YtlnincdmdegaoaaGreatGEe
import Derived.Deep.RegionHeld
import Derived.Deep.CutBlock
import Derived.Deep.DeepCutAuto
namespace Go.Proofs.YtlnincdmdegaoaaGreat
open Go.RowKit Go.Mk Go.Maps

def isPS (u : Value) : Prop := (∃ p, u = .pointer p) ∨ ∃ a n c, u = .slice a n c

/-- An array of three pointers or slices. -/
structure A3 (w : World) (b : Nat) (V : Nat → Value) : Prop where
  c : ∀ i, i < 3 → w.cell? ⟨b, i, none⟩ = some (V i)
  f : ∀ i, i < 3 → w.frozen? ⟨b, i, none⟩ = false
  n : ∀ o u, w.cell? ⟨b, o, none⟩ = some u → isPS u

theorem A3.lt {w : World} {b : Nat} {V : Nat → Value} (h : A3 w b V) : b < w.heap.size := World.block_lt_of_cell? _ _ (h.c 0 (by omega))

theorem A3.kept {S : Nat → Prop} {w w' : World} {b : Nat} {V : Nat → Value} (h : A3 w b V) (hk : Kept S w w') (hb : ¬ S b) : A3 w' b V := by
  have hlt := h.lt
  have he : ∀ o, w'.cell? ⟨b, o, none⟩ = w.cell? ⟨b, o, none⟩ := fun o => hk.cell (p := ⟨b, o, none⟩) hlt hb
  have hf : ∀ o, w'.frozen? ⟨b, o, none⟩ = w.frozen? ⟨b, o, none⟩ := fun o => hk.frozen (p := ⟨b, o, none⟩) hlt hb
  exact ⟨fun i hi => (he i).trans (h.c i hi), fun i hi => (hf i).trans (h.f i hi), fun o u hu => h.n o u ((he o).symm.trans hu)⟩

theorem A3.put {w : World} {b : Nat} {V : Nat → Value} (h : A3 w b V) (j : Nat) (hj : j < 3) (v : Value) (hv : isPS v) : A3 (w.setCell ⟨b, j, none⟩ v) b (fun i => if i = j then v else V i) := by
  refine ⟨fun i hi => ?_, fun i hi => by rw [World.frozen?_setCell]; exact h.f i hi, fun o u hu => ?_⟩
  · by_cases e : i = j
    · subst e
      rw [if_pos rfl]
      exact World.cell?_setCell_same _ _ _ (h.c i hi)
    · rw [if_neg e, World.cell?_setCell_other _ _ _ _ (by simp; try omega)]
      exact h.c i hi
  · by_cases e : o = j
    · subst e
      rw [World.cell?_setCell_same _ _ _ (h.c o hj)] at hu
      cases hu
      exact hv
    · rw [World.cell?_setCell_other _ _ _ _ (by simp; try omega)] at hu
      exact h.n o u hu

theorem A3.far {w : World} {b : Nat} {V : Nat → Value} (h : A3 w b V) (x i : Nat) (v : Value) (hx : x ≠ b) : A3 (w.setCell ⟨x, i, none⟩ v) b V :=
  h.kept (kept_at w x i v) (fun e => hx e.symm)

theorem lies_ne {w : World} {b : Nat} {V : Nat → Value} (h : A3 w b V) {B : Nat} {ao : Option Addr} {vs : List (List UInt8)} (hL : Lies w B ao (strs vs)) : strs vs ≠ [] → ∀ a, ao = some a → ¬ a.block = b := by
  intro hn a ha e
  obtain ⟨g, off, rfl, _, hc⟩ := hL hn
  cases ha
  dsimp only at e
  subst e
  cases vs with
  | nil => exact hn rfl
  | cons v vs =>
    rcases h.n _ _ (hc 0 (.string (bs v)) rfl) with ⟨p, e⟩ | ⟨a, n, c, e⟩ <;> cases e

theorem Sn.put {w w' : World} {v : Value} {l : List DD} {b : Nat} {V : Nat → Value} (h : Sn w v l) (hA : A3 w b V) (hk : Kept (fun k => k = b) w w') : Sn w' v l := by
  obtain ⟨p, m, hp, ht, rfl⟩ := h
  refine ⟨p, m, ?_, ?_, rfl⟩
  · rcases hp with hp | ⟨s, rfl, hc⟩
    · exact .inl hp
    · refine .inr ⟨s, rfl, (hk.cell (p := ⟨s, 0, none⟩) (World.block_lt_of_cell? _ _ hc) (fun e => ?_)).trans hc⟩
      dsimp only at e
      subst e
      rcases hA.n _ _ hc with ⟨p, e⟩ | ⟨a, n, c, e⟩ <;> cases e
  · rcases ht with ht | ⟨bb, rfl, tb⟩
    · exact .inl ht
    · refine .inr ⟨bb, rfl, tb.kept hk (fun e => ?_) (fun e he hn a ha => lies_ne hA (tb.lies e he).1 (by unfold strs; simpa using hn) a ha)⟩
      subst e
      obtain ⟨es, clock, hb, _⟩ := tb.own
      have := hA.c 0 (by omega)
      simp [World.cell?, hb] at this

theorem Rl.put {w w' : World} {oa : Option Addr} {es : List Ent} {b : Nat} {V : Nat → Value} (h : Rl w oa es) (hA : A3 w b V) (hk : Kept (fun k => k = b) w w') : Rl w' oa es := by
  refine ⟨⟨fun hn => ?_, fun e he => ⟨((h.ds.lies e he).1.kept hk (lies_ne hA (h.ds.lies e he).1)).mono hk.size, (h.ds.lies e he).2⟩⟩, h.len, h.rise⟩
  obtain ⟨g, off, e1, hb, hc⟩ := h.ds.row hn
  refine ⟨g, off, e1, Nat.lt_of_lt_of_le hb hk.size, fun j hj => (hc j hj).kept hk (fun e => ?_)⟩
  subst e
  rcases hA.n _ _ (hc j hj).c0 with ⟨p, e⟩ | ⟨a, n, c, e⟩ <;> cases e

/-- A list's snapshot, and the reference's list. -/
structure Done (wx : World) (l : SD) (p : Value) (x : SD) : Prop where
  ok : (newL (dds l.es)).1 = 0
  ptr : ∃ s, p = .pointer (some ⟨s, 0, none⟩)
  sn : Sn wx p (dds x.es)
  rl : Rl wx x.ao x.es
  eq : dds x.es = (newL (dds l.es)).2

theorem Done.keep {wx wy : World} {l : SD} {p : Value} {x : SD} (h : Done wx l p x) (hk : Kept (fun _ => False) wx wy) : Done wy l p x := ⟨h.ok, h.ptr, h.sn.keep hk, h.rl.keep hk, h.eq⟩
theorem Done.put {wx wy : World} {l : SD} {p : Value} {x : SD} {b : Nat} {V : Nat → Value} (h : Done wx l p x) (hA : A3 wx b V) (hk : Kept (fun k => k = b) wx wy) : Done wy l p x := ⟨h.ok, h.ptr, h.sn.put hA hk, h.rl.put hA hk, h.eq⟩

def valS (X : Nat → SD) (i : Nat) : Value := .slice (X i).ao (X i).es.length (X i).cap

/-- Under way. -/
structure Th (w : World) (L : Nat → SD) (j : Nat) (P : Nat → Option Addr) (X : Nat → SD) (wx : World) : Prop where
  box : A3 wx w.heap.size (valS L)
  r1 : A3 wx (w.heap.size + 1) (fun _ => .pointer none)
  r2 : A3 wx (w.heap.size + 2) (fun _ => .slice none 0 0)
  l1 : A3 wx (w.heap.size + 3) (fun i => .pointer (P i))
  l2 : A3 wx (w.heap.size + 4) (valS X)
  dn : ∀ i, i < j → Done wx (L i) (.pointer (P i)) (X i)
  k : Kept (fun _ => False) w wx

theorem Th.keep {w : World} {L : Nat → SD} {j : Nat} {P : Nat → Option Addr} {X : Nat → SD} {wx wy : World} (h : Th w L j P X wx) (hk : Kept (fun _ => False) wx wy) : Th w L j P X wy :=
  ⟨h.box.kept hk (fun h => h), h.r1.kept hk (fun h => h), h.r2.kept hk (fun h => h), h.l1.kept hk (fun h => h), h.l2.kept hk (fun h => h), fun i hi => (h.dn i hi).keep hk, h.k.trans hk (fun _ _ h => h)⟩

/-- One more. -/
theorem Th.step {w : World} {L : Nat → SD} {j : Nat} {P : Nat → Option Addr} {X : Nat → SD} {wx : World} (h : Th w L j P X wx) (hj : j < 3) (p : Option Addr) (x : SD) (hd : Done wx (L j) (.pointer p) x) :
    Th w L (j + 1) (fun i => if i = j then p else P i) (fun i => if i = j then x else X i) ((wx.setCell ⟨w.heap.size + 3, j, none⟩ (.pointer p)).setCell ⟨w.heap.size + 4, j, none⟩ (.slice x.ao x.es.length x.cap)) := by
  have k1 := kept_at wx (w.heap.size + 3) j (.pointer p)
  have l1 := h.l1.put j hj (.pointer p) (.inl ⟨_, rfl⟩)
  have l2 := h.l2.kept k1 (by omega)
  have k2 := kept_at (wx.setCell ⟨w.heap.size + 3, j, none⟩ (.pointer p)) (w.heap.size + 4) j (.slice x.ao x.es.length x.cap)
  have l22 := l2.put j hj (.slice x.ao x.es.length x.cap) (.inr ⟨_, _, _, rfl⟩)
  refine ⟨(h.box.kept k1 (by omega)).kept k2 (by omega), (h.r1.kept k1 (by omega)).kept k2 (by omega), (h.r2.kept k1 (by omega)).kept k2 (by omega), ?_, ?_, fun i hi => ?_, (h.k.trans k1 (fun i hi e => by omega)).trans k2 (fun i hi e => by omega)⟩
  · have l11 := l1.kept k2 (by omega)
    refine ⟨fun i hi => ?_, l11.f, l11.n⟩
    rw [l11.c i hi]
    by_cases e : i = j
    · subst e; simp
    · simp [e]
  · refine ⟨fun i hi => ?_, l22.f, l22.n⟩
    rw [l22.c i hi]
    unfold valS
    by_cases e : i = j
    · subst e; simp
    · simp [e]
  · by_cases e : i = j
    · subst e
      rw [if_pos rfl, if_pos rfl]
      exact (hd.put h.l1 k1).put l2 k2
    · rw [if_neg e, if_neg e]
      exact ((h.dn i (by omega)).put h.l1 k1).put l2 k2

theorem a3_new (w : World) (v0 v1 v2 : Value) (t : TypeId) (h0 : isPS v0) (h1 : isPS v1) (h2 : isPS v2) (V : Nat → Value) (e0 : V 0 = v0) (e1 : V 1 = v1) (e2 : V 2 = v2) : A3 (w.alloc (.cells #[v0, v1, v2] t)) w.heap.size V := by
  have hc := fun j => World.cell?_alloc_new w #[v0, v1, v2] t j
  refine ⟨fun i hi => ?_, fun i hi => by simp, fun o u hu => ?_⟩
  · have : i = 0 ∨ i = 1 ∨ i = 2 := by omega
    rcases this with rfl | rfl | rfl
    · rw [hc 0, e0]; rfl
    · rw [hc 1, e1]; rfl
    · rw [hc 2, e2]; rfl
  · rw [hc o] at hu
    match o, hu with
    | 0, hu => cases hu; exact h0
    | 1, hu => cases hu; exact h1
    | 2, hu => cases hu; exact h2
    | o + 3, hu => simp at hu

/-- What three answers. -/
def ThPost (w : World) (L : Nat → SD) (e : Ending) (w' : World) : Prop :=
  ∃ (ok : Bool) (P : Nat → Option Addr) (X : Nat → SD), e = .returned (.tuple #[.agg #[.pointer (P 0), .pointer (P 1), .pointer (P 2)], .agg #[valS X 0, valS X 1, valS X 2], .bool ok]) ∧ Kept (fun _ => False) w w' ∧ (ok = true → ∀ i, i < 3 → Done w' (L i) (.pointer (P i)) (X i))

theorem load_a3 {w : World} {r : Nat} {V : Nat → Value} (h : A3 w r V) : (loadVar 27 ⟨r, 0, none⟩).run Tryz.prog w = .ok (.agg #[V 0, V 1, V 2]) w := by
  have hl := run_loadCells_list (P := Tryz.prog) w ⟨r, 0, none⟩ [V 0, V 1, V 2] (fun j v hj => by
    rw [Addr.add_lit, Nat.zero_add]
    match j, hj with
    | 0, hj => cases hj; exact h.c 0 (by omega)
    | 1, hj => cases hj; exact h.c 1 (by omega)
    | 2, hj => cases hj; exact h.c 2 (by omega)
    | j + 3, hj => simp at hj)
  have hs := Tryz.sizeOf27
  have ha := Tryz.isAgg27
  unfold loadVar
  simp only [Sem.run_bind, ha, hs, Result.andThen, if_pos]
  simp only [List.length_cons, List.length_nil, Nat.reduceAdd] at hl
  simp [hl]

theorem load_a3s {w : World} {r : Nat} {V : Nat → Value} (h : A3 w r V) : (loadVar 23 ⟨r, 0, none⟩).run Tryz.prog w = .ok (.agg #[V 0, V 1, V 2]) w := by
  have hl := run_loadCells_list (P := Tryz.prog) w ⟨r, 0, none⟩ [V 0, V 1, V 2] (fun j v hj => by
    rw [Addr.add_lit, Nat.zero_add]
    match j, hj with
    | 0, hj => cases hj; exact h.c 0 (by omega)
    | 1, hj => cases hj; exact h.c 1 (by omega)
    | 2, hj => cases hj; exact h.c 2 (by omega)
    | j + 3, hj => simp at hj)
  have hs := Tryz.sizeOf23
  have ha := Tryz.isAgg23
  unfold loadVar
  simp only [Sem.run_bind, ha, hs, Result.andThen, if_pos]
  simp only [List.length_cons, List.length_nil, Nat.reduceAdd] at hl
  simp [hl]

theorem results_cct {P : Program} {fn : Func} {t u x : Tmp} {ty ty2 : TypeId} (h : fn.results = #[.cell t ty, .cell u ty2, .tmp x]) {tmps : Array Value} {w : World} {r r2 : Nat} {v v2 : Value} (ht : tmps.getD t undef = .pointer (some ⟨r, 0, none⟩)) (hu : tmps.getD u undef = .pointer (some ⟨r2, 0, none⟩)) (hl : (loadVar ty ⟨r, 0, none⟩).run P w = .ok v w) (hl2 : (loadVar ty2 ⟨r2, 0, none⟩).run P w = .ok v2 w) : (results fn tmps).run P w = .ok (.tuple #[v, v2, tmps.getD x undef]) w := by
  have ht' : tmps[t]?.getD undef = .pointer (some ⟨r, 0, none⟩) := by simpa using ht
  have hu' : tmps[u]?.getD undef = .pointer (some ⟨r2, 0, none⟩) := by simpa using hu
  simp [results, h, ht', hu', asAddr, hl, hl2]

/-- All three are stored. -/
def setA (w : World) (b : Nat) (v0 v1 v2 : Value) : World := ((w.setCell ⟨b, 0, none⟩ v0).setCell ⟨b, 1, none⟩ v1).setCell ⟨b, 2, none⟩ v2
def V3 (v0 v1 v2 : Value) (i : Nat) : Value := if i = 0 then v0 else if i = 1 then v1 else v2

theorem A3.set {w : World} {b : Nat} {V : Nat → Value} (h : A3 w b V) (v0 v1 v2 : Value) (h0 : isPS v0) (h1 : isPS v1) (h2 : isPS v2) : A3 (setA w b v0 v1 v2) b (V3 v0 v1 v2) := by
  have h3 := ((h.put 0 (by omega) v0 h0).put 1 (by omega) v1 h1).put 2 (by omega) v2 h2
  refine ⟨fun i hi => ?_, h3.f, h3.n⟩
  have : i = 0 ∨ i = 1 ∨ i = 2 := by omega
  rcases this with rfl | rfl | rfl
  · exact h3.c 0 (by omega)
  · exact h3.c 1 (by omega)
  · exact h3.c 2 (by omega)

theorem kept_setA (w : World) (b : Nat) (v0 v1 v2 : Value) : Kept (fun k => k = b) w (setA w b v0 v1 v2) :=
  Kept.setCell (p := ⟨b, 2, none⟩) (Kept.setCell (p := ⟨b, 1, none⟩) (Kept.setCell (S := fun k => k = b) (p := ⟨b, 0, none⟩) (Kept.refl _ w) (fun _ => rfl) _) (fun _ => rfl) _) (fun _ => rfl) _

/-- The results are stored. -/
theorem Th.fin {w : World} {L : Nat → SD} {j : Nat} {P : Nat → Option Addr} {X : Nat → SD} {wx : World} (h : Th w L j P X wx) :
    ∀ wz, wz = (setA (setA wx (w.heap.size + 1) (.pointer (P 0)) (.pointer (P 1)) (.pointer (P 2))) (w.heap.size + 1 + 1) (valS X 0) (valS X 1) (valS X 2)).drew →
      (loadVar 27 ⟨w.heap.size + 1, 0, none⟩).run Tryz.prog wz = .ok (.agg #[.pointer (P 0), .pointer (P 1), .pointer (P 2)]) wz ∧ (loadVar 23 ⟨w.heap.size + 1 + 1, 0, none⟩).run Tryz.prog wz = .ok (.agg #[valS X 0, valS X 1, valS X 2]) wz ∧
      Kept (fun _ => False) w wz ∧ ∀ i, i < j → Done wz (L i) (.pointer (P i)) (X i) := by
  rintro wz rfl
  have hp : ∀ a, isPS (.pointer a) := fun a => .inl ⟨_, rfl⟩
  have hs : ∀ i, isPS (valS X i) := fun i => .inr ⟨_, _, _, rfl⟩
  have k1 := kept_setA wx (w.heap.size + 1) (.pointer (P 0)) (.pointer (P 1)) (.pointer (P 2))
  have r1 := h.r1.set (.pointer (P 0)) (.pointer (P 1)) (.pointer (P 2)) (hp _) (hp _) (hp _)
  have r2 := h.r2.kept k1 (by omega)
  have k2 := kept_setA (setA wx (w.heap.size + 1) (.pointer (P 0)) (.pointer (P 1)) (.pointer (P 2))) (w.heap.size + 1 + 1) (valS X 0) (valS X 1) (valS X 2)
  have r11 := r1.kept k2 (by omega)
  have r22 := A3.set (b := w.heap.size + 1 + 1) r2 (valS X 0) (valS X 1) (valS X 2) (hs _) (hs _) (hs _)
  have kd := Kept.drew (Kept.refl (fun _ => False) (setA (setA wx (w.heap.size + 1) (.pointer (P 0)) (.pointer (P 1)) (.pointer (P 2))) (w.heap.size + 1 + 1) (valS X 0) (valS X 1) (valS X 2)))
  refine ⟨load_a3 (r11.kept kd (fun h => h)), load_a3s (V := V3 (valS X 0) (valS X 1) (valS X 2)) (r22.kept kd (fun h => h)), ((h.k.trans k1 (fun i hi e => by omega)).trans k2 (fun i hi e => by omega)).trans kd (fun _ _ h => h), fun i hi => ?_⟩
  exact (((h.dn i hi).put h.r1 k1).put r2 k2).keep kd

set_option maxHeartbeats 4000000 in
set_option maxRecDepth 100000 in
theorem three10_any (L : Nat → SD) (B : Nat) (w : World) (hB : B ≤ w.heap.size) (hD : ∀ i, i < 3 → Ds w B (L i).ao (L i).es) (hF : ∀ i, i < 3 → FewD (L i).es 10) :
    Calls Tryz.prog 9 #[.agg #[.slice (L 0).ao (L 0).es.length (L 0).cap, .slice (L 1).ao (L 1).es.length (L 1).cap, .slice (L 2).ao (L 2).es.length (L 2).cap]] w (ThPost w L) := by
  have HNA := Lib.hid (fun (i : Nat) (hi : i < 3) (wx : World) (h : Kept (fun _ => False) w wx) => snew_any (L i).ao (L i).cap (L i).es B wx (Nat.le_trans hB h.size) ((hD i hi).keep h) (fun e he => small_len8 ((hF i hi).small e he)) (by have := (hF i hi).len; omega))
  have HRA := Lib.hid (fun (i : Nat) (hi : i < 3) (wx : World) (h : Kept (fun _ => False) w wx) => rnew_any (L i).ao (L i).cap (L i).es B wx (Nat.le_trans hB h.size) ((hD i hi).keep h) (fun e he => small_len8 ((hF i hi).small e he)) (by have := (hF i hi).len; omega))
  clear hD hF hB
  have HT := Lib.hid (show Th w L 0 (fun _ => none) (fun _ => ⟨none, 0, []⟩) (((((w.alloc (.cells #[.slice (L 0).ao (L 0).es.length (L 0).cap, .slice (L 1).ao (L 1).es.length (L 1).cap, .slice (L 2).ao (L 2).es.length (L 2).cap] 23)).alloc (.cells #[.pointer none, .pointer none, .pointer none] 27)).alloc (.cells #[.slice none 0 0, .slice none 0 0, .slice none 0 0] 23)).alloc (.cells #[.pointer none, .pointer none, .pointer none] 27)).alloc (.cells #[.slice none 0 0, .slice none 0 0, .slice none 0 0] 23)) from by
    have kk := fun (w : World) (o : Obj) => (Kept.refl (fun _ => False) w).alloc o
    have hp : isPS (.pointer none) := .inl ⟨_, rfl⟩
    have hs : ∀ a n c, isPS (.slice a n c) := fun a n c => .inr ⟨_, _, _, rfl⟩
    have a0 := a3_new w _ _ _ 23 (hs (L 0).ao (L 0).es.length (L 0).cap) (hs (L 1).ao (L 1).es.length (L 1).cap) (hs (L 2).ao (L 2).es.length (L 2).cap) (valS L) rfl rfl rfl
    have a1 := a3_new (w.alloc (.cells #[.slice (L 0).ao (L 0).es.length (L 0).cap, .slice (L 1).ao (L 1).es.length (L 1).cap, .slice (L 2).ao (L 2).es.length (L 2).cap] 23)) _ _ _ 27 hp hp hp (fun _ => .pointer none) rfl rfl rfl
    have a2 := a3_new ((w.alloc (.cells #[.slice (L 0).ao (L 0).es.length (L 0).cap, .slice (L 1).ao (L 1).es.length (L 1).cap, .slice (L 2).ao (L 2).es.length (L 2).cap] 23)).alloc (.cells #[.pointer none, .pointer none, .pointer none] 27)) _ _ _ 23 (hs none 0 0) (hs none 0 0) (hs none 0 0) (fun _ => .slice none 0 0) rfl rfl rfl
    have a3 := a3_new (((w.alloc (.cells #[.slice (L 0).ao (L 0).es.length (L 0).cap, .slice (L 1).ao (L 1).es.length (L 1).cap, .slice (L 2).ao (L 2).es.length (L 2).cap] 23)).alloc (.cells #[.pointer none, .pointer none, .pointer none] 27)).alloc (.cells #[.slice none 0 0, .slice none 0 0, .slice none 0 0] 23)) _ _ _ 27 hp hp hp (fun _ => .pointer none) rfl rfl rfl
    have a4 := a3_new ((((w.alloc (.cells #[.slice (L 0).ao (L 0).es.length (L 0).cap, .slice (L 1).ao (L 1).es.length (L 1).cap, .slice (L 2).ao (L 2).es.length (L 2).cap] 23)).alloc (.cells #[.pointer none, .pointer none, .pointer none] 27)).alloc (.cells #[.slice none 0 0, .slice none 0 0, .slice none 0 0] 23)).alloc (.cells #[.pointer none, .pointer none, .pointer none] 27)) _ _ _ 23 (hs none 0 0) (hs none 0 0) (hs none 0 0) (valS (fun _ => ⟨none, 0, []⟩)) rfl rfl rfl
    simp only [World.size_alloc] at a1 a2 a3 a4
    exact ⟨(((a0.kept (kk _ _) (fun h => h)).kept (kk _ _) (fun h => h)).kept (kk _ _) (fun h => h)).kept (kk _ _) (fun h => h), ((a1.kept (kk _ _) (fun h => h)).kept (kk _ _) (fun h => h)).kept (kk _ _) (fun h => h), (a2.kept (kk _ _) (fun h => h)).kept (kk _ _) (fun h => h), a3.kept (kk _ _) (fun h => h), a4, fun i hi => absurd hi (by omega), ((((kk _ _).trans (kk _ _) (fun _ _ h => h)).trans (kk _ _) (fun _ _ h => h)).trans (kk _ _) (fun _ _ h => h)).trans (kk _ _) (fun _ _ h => h)⟩)
  go_enter Tryz.func9, Tryz.ntmps9
  go_wp2
  go_loopg [7] 3 (fun k c wr => ∃ j P X, k = 3 - j ∧ j ≤ 3 ∧ c = .int .i64 (j : Int) ∧ Th w L j P X wr)
  case atStart => exact ⟨0, _, _, rfl, Nat.zero_le _, rfl, HT.out⟩
  case round =>
    obtain ⟨j, P, X, hk, hj, rfl, hth⟩ := hrel
    have HK := Lib.hid hk; have HTH := Lib.hid hth
    clear hk hth HT
    by_cases hlt : j < 3
    · have c0 : wr.cell? ⟨w.heap.size, j, none⟩ = some (.slice (L j).ao (L j).es.length (L j).cap) := HTH.out.box.c j hlt
      have HN := Lib.hid (HNA.out j hlt); have HR := Lib.hid (HRA.out j hlt)
      have HC0 := Lib.hid (show ∀ wx, Kept (fun _ => False) wr wx → wx.cell? ⟨w.heap.size, j, none⟩ = some (.slice (L j).ao (L j).es.length (L j).cap) from fun wx h => (HTH.out.keep h).box.c j hlt)
      have i1 : (j : Int) < 3 := by omega
      generalize hr : newL (dds (L j).es) = r at *
      have HRR := Lib.hid hr
      clear hr
      obtain ⟨er, m⟩ := r
      generalize hLj : L j = s at *
      have HLJ := Lib.hid hLj
      clear hLj
      go_wp2_with fail
      refine (HN.out _ HTH.out.k).mono ?_
      rintro e w1 ⟨v1, rfl, hv1, hn1, s1, k1⟩
      have T1 := Lib.hid (HTH.out.keep k1); have S1 := Lib.hid s1; have K1 := Lib.hid k1; have HV1 := Lib.hid hv1; have HN1 := Lib.hid hn1
      clear s1 k1 hv1 hn1 c0
      have c0 := HC0.out _ K1.out
      go_wp2_with fail
      refine (HR.out _ T1.out.k).mono ?_
      rintro e w2 ⟨oa, oc, xs, rfl, hx, _, r2, k2⟩
      have T2 := Lib.hid (T1.out.keep k2); have S2 := Lib.hid (S1.out.keep k2); have R2 := Lib.hid r2; have HX := Lib.hid hx
      clear r2 k2 hx c0
      dsimp only at *
      by_cases he : er = 0
      · obtain ⟨p1, rfl⟩ := HV1.out he
        subst he
        have HDN := Lib.hid (show Done w2 (L j) (.pointer (some ⟨p1, 0, none⟩)) ⟨oa, oc, xs⟩ from ⟨by rw [HLJ.out, HRR.out], ⟨p1, rfl⟩, by
          show Sn w2 _ (dds xs)
          rw [HX.out]; exact S2.out, R2.out, by rw [HLJ.out, HRR.out]; exact HX.out⟩)
        have q1 := T2.out.l1.c j hlt
        have q2 := T2.out.l1.f j hlt
        have q3 := T2.out.l2.c j hlt
        have q4 := T2.out.l2.f j hlt
        clear HV1 HN1
        go_wp2
        go_roundg (3 - (j + 1))
        case measure => have := HK.out; omega
        case rel => exact ⟨j + 1, _, _, rfl, by omega, by go_num, T2.out.step hlt _ _ HDN.out⟩
      · obtain rfl := HN1.out he
        have h1 : (er != 0) = true := by simp [he]
        clear he HV1 HN1
        have a0 := T2.out.l1.c 0 (by omega); have a1 := T2.out.l1.c 1 (by omega); have a2 := T2.out.l1.c 2 (by omega)
        have b0 := T2.out.l2.c 0 (by omega); have b1 := T2.out.l2.c 1 (by omega); have b2 := T2.out.l2.c 2 (by omega)
        have d0 := T2.out.r1.c 0 (by omega); have d1 := T2.out.r1.c 1 (by omega); have d2 := T2.out.r1.c 2 (by omega)
        have e0 := T2.out.r2.c 0 (by omega); have e1 := T2.out.r2.c 1 (by omega); have e2 := T2.out.r2.c 2 (by omega)
        have f0 := T2.out.r1.f 0 (by omega); have f1 := T2.out.r1.f 1 (by omega); have f2 := T2.out.r1.f 2 (by omega)
        have g0 := T2.out.r2.f 0 (by omega); have g1 := T2.out.r2.f 1 (by omega); have g2 := T2.out.r2.f 2 (by omega)
        unfold valS at b0 b1 b2
        clear hlt
        go_upto_region 9 with fail
        go_region_held (fun w' => w'.cell? ⟨w.heap.size + 3, 0, none⟩ = some (.pointer (P 0)) ∧ w'.cell? ⟨w.heap.size + 3, 1, none⟩ = some (.pointer (P 1)) ∧ w'.cell? ⟨w.heap.size + 3, 2, none⟩ = some (.pointer (P 2)) ∧ w'.cell? ⟨w.heap.size + 4, 0, none⟩ = some (.slice (X 0).ao (X 0).es.length (X 0).cap) ∧ w'.cell? ⟨w.heap.size + 4, 1, none⟩ = some (.slice (X 1).ao (X 1).es.length (X 1).cap) ∧ w'.cell? ⟨w.heap.size + 4, 2, none⟩ = some (.slice (X 2).ao (X 2).es.length (X 2).cap)) (go_keep) (fail)
        go_wp2
        have hfin := T2.out.fin _ rfl
        refine bodyPost_ret (results_cct rfl rfl rfl hfin.1 hfin.2.1) rfl ?_
        exact ⟨false, P, X, rfl, hfin.2.2.1, fun h => by cases h⟩
    · obtain rfl : j = 3 := by omega
      have a0 := HTH.out.l1.c 0 (by omega); have a1 := HTH.out.l1.c 1 (by omega); have a2 := HTH.out.l1.c 2 (by omega)
      have b0 := HTH.out.l2.c 0 (by omega); have b1 := HTH.out.l2.c 1 (by omega); have b2 := HTH.out.l2.c 2 (by omega)
      have d0 := HTH.out.r1.c 0 (by omega); have d1 := HTH.out.r1.c 1 (by omega); have d2 := HTH.out.r1.c 2 (by omega)
      have e0 := HTH.out.r2.c 0 (by omega); have e1 := HTH.out.r2.c 1 (by omega); have e2 := HTH.out.r2.c 2 (by omega)
      have f0 := HTH.out.r1.f 0 (by omega); have f1 := HTH.out.r1.f 1 (by omega); have f2 := HTH.out.r1.f 2 (by omega)
      have g0 := HTH.out.r2.f 0 (by omega); have g1 := HTH.out.r2.f 1 (by omega); have g2 := HTH.out.r2.f 2 (by omega)
      unfold valS at b0 b1 b2
      clear hlt
      go_upto_region 12 with fail
      go_region_held (fun w' => w'.cell? ⟨w.heap.size + 3, 0, none⟩ = some (.pointer (P 0)) ∧ w'.cell? ⟨w.heap.size + 3, 1, none⟩ = some (.pointer (P 1)) ∧ w'.cell? ⟨w.heap.size + 3, 2, none⟩ = some (.pointer (P 2)) ∧ w'.cell? ⟨w.heap.size + 4, 0, none⟩ = some (.slice (X 0).ao (X 0).es.length (X 0).cap) ∧ w'.cell? ⟨w.heap.size + 4, 1, none⟩ = some (.slice (X 1).ao (X 1).es.length (X 1).cap) ∧ w'.cell? ⟨w.heap.size + 4, 2, none⟩ = some (.slice (X 2).ao (X 2).es.length (X 2).cap)) (go_keep) (fail)
      go_wp2
      have hfin := HTH.out.fin _ rfl
      refine bodyPost_ret (results_cct rfl rfl rfl hfin.1 hfin.2.1) rfl ?_
      exact ⟨true, P, X, rfl, hfin.2.2.1, fun _ => hfin.2.2.2⟩

end Go.Proofs.YtlnincdmdegaoaaGreat
