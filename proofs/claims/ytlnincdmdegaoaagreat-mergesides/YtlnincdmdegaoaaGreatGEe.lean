/-
  Lemmas towards the claim of this folder: contracts of the functions that the law reaches; joined texts.
-/
import Derived.Test.YtlnincdmdegaoaaGreatR8
import Derived.Test.YtlnincdmdegaoaaGreatPe
/-
  EDITS as they lie in memory: a key and two rows of definitions each.
-/
namespace Go.Proofs.YtlnincdmdegaoaaGreat
open Go.RowKit Go.Mk Go.Maps

/-- A slice of definitions: its address, its room, what is there. -/
structure SD where
  ao : Option Addr
  cap : Nat
  es : List Ent

def SD.val (s : SD) : Value := .slice s.ao s.es.length s.cap

structure EE where
  key : List UInt8
  old : SD
  new : SD

def edE (e : EE) : ED := ⟨e.key, dds e.old.es, dds e.new.es⟩
def eds (p : List EE) : List ED := p.map edE
theorem eds_len (p : List EE) : (eds p).length = p.length := by simp [eds]
theorem eds_get (p : List EE) (j : Nat) (h : j < p.length) : (eds p)[j]'(by rw [eds_len]; exact h) = edE p[j] := by simp [eds]
theorem eds_take (p : List EE) (j : Nat) (h : j < p.length) : (eds p).take (j + 1) = (eds p).take j ++ [edE p[j]] := by
  rw [List.take_add_one, List.getElem?_eq_getElem (by rw [eds_len]; exact h), eds_get p j h]; rfl
theorem eds_getD (p : List EE) (j : Nat) (h : j < p.length) : (eds p).getD j zeroE = edE p[j] := by
  rw [List.getD_eq_getElem?_getD, List.getElem?_eq_getElem (by rw [eds_len]; exact h), eds_get p j h]; rfl

def cellsP1 (e : EE) : List Value := [.string (bs e.key), .slice e.old.ao e.old.es.length e.old.cap, .slice e.new.ao e.new.es.length e.new.cap]
def cellsP (p : List EE) : List Value := p.flatMap cellsP1

theorem cellsP_snoc (p : List EE) (e : EE) : cellsP (p ++ [e]) = cellsP p ++ cellsP1 e := by simp [cellsP]

theorem cellsP_get : ∀ (p : List EE) (j : Nat) (h : j < p.length) (i : Nat) (u : Value), (cellsP1 p[j])[i]? = some u → (cellsP p)[j * 3 + i]? = some u
  | [], j, h, _, _, _ => by simp at h
  | e :: es, 0, _, i, u, hu => by
    have hi : i < 3 := by have := (List.getElem?_eq_some_iff.1 hu).1; simpa [cellsP1] using this
    rw [cellsP, List.flatMap_cons, List.getElem?_append_left (by simp [cellsP1]; omega)]
    simpa using hu
  | e :: es, j + 1, h, i, u, hu => by
    have := cellsP_get es j (by simpa using h) i u (by simpa using hu)
    rw [cellsP, List.flatMap_cons, List.getElem?_append_right (by simp [cellsP1]; omega)]
    rw [show (j + 1) * 3 + i - (cellsP1 e).length = j * 3 + i by simp [cellsP1]; omega]
    exact this

/-- An edit's cells. -/
structure Eo (w : World) (b o : Nat) (e : EE) : Prop where
  c0 : w.cell? ⟨b, o, none⟩ = some (.string (bs e.key))
  c1 : w.cell? ⟨b, o + 1, none⟩ = some (.slice e.old.ao e.old.es.length e.old.cap)
  c2 : w.cell? ⟨b, o + 2, none⟩ = some (.slice e.new.ao e.new.es.length e.new.cap)

theorem Eo.kept {S : Nat → Prop} {w w' : World} {b o : Nat} {e : EE} (h : Eo w b o e) (hk : Kept S w w') (hb : ¬ S b) : Eo w' b o e := by
  have hlt : b < w.heap.size := World.block_lt_of_cell? _ _ h.c0
  exact ⟨(hk.cell (p := ⟨b, o, none⟩) hlt hb).trans h.c0, (hk.cell (p := ⟨b, o + 1, none⟩) hlt hb).trans h.c1, (hk.cell (p := ⟨b, o + 2, none⟩) hlt hb).trans h.c2⟩

/-- A slice of definitions lies there. -/
structure SDs (w : World) (B : Nat) (s : SD) : Prop where
  ds : Ds w B s.ao s.es
  cap : s.es.length ≤ s.cap

theorem SDs.keep {w w' : World} {B : Nat} {s : SD} (h : SDs w B s) (hk : Kept (fun _ => False) w w') : SDs w' B s := ⟨h.ds.keep hk, h.cap⟩
theorem SDs.kept {S : Nat → Prop} {w w' : World} {B : Nat} {s : SD} (h : SDs w B s) (hk : Kept S w w') (hS : ∀ k, k < B → ¬ S k) : SDs w' B s := ⟨h.ds.kept hk hS, h.cap⟩
theorem SDs.mono {w : World} {B B' : Nat} {s : SD} (h : SDs w B s) (hB : B ≤ B') : SDs w B' s := ⟨h.ds.mono hB, h.cap⟩
theorem SDs.nil (w : World) (B : Nat) (ao : Option Addr) (cap : Nat) : SDs w B ⟨ao, cap, []⟩ := ⟨⟨fun h => (h rfl).elim, fun e he => absurd he List.not_mem_nil⟩, Nat.zero_le _⟩

/-- A patch in a row behind an address. -/
structure Es (w : World) (B : Nat) (pa : Option Addr) (p : List EE) : Prop where
  row : p ≠ [] → ∃ b off, pa = some ⟨b, off, none⟩ ∧ b < B ∧ ∀ j (h : j < p.length), Eo w b (off + j * 3) p[j]
  lies : ∀ e ∈ p, SDs w B e.old ∧ SDs w B e.new

theorem Es.kept {S : Nat → Prop} {w w' : World} {B : Nat} {pa : Option Addr} {p : List EE} (h : Es w B pa p) (hk : Kept S w w') (hS : ∀ k, k < B → ¬ S k) : Es w' B pa p := by
  refine ⟨fun hn => ?_, fun e he => ⟨(h.lies e he).1.kept hk hS, (h.lies e he).2.kept hk hS⟩⟩
  obtain ⟨b, off, e, hb, hc⟩ := h.row hn
  exact ⟨b, off, e, hb, fun j hj => (hc j hj).kept hk (hS b hb)⟩

theorem Es.keep {w w' : World} {B : Nat} {pa : Option Addr} {p : List EE} (h : Es w B pa p) (hk : Kept (fun _ => False) w w') : Es w' B pa p := h.kept hk (fun _ _ h => h)

theorem Es.mono {w : World} {B B' : Nat} {pa : Option Addr} {p : List EE} (h : Es w B pa p) (hB : B ≤ B') : Es w B' pa p := by
  refine ⟨fun hn => ?_, fun e he => ⟨(h.lies e he).1.mono hB, (h.lies e he).2.mono hB⟩⟩
  obtain ⟨b, off, e, hb, hc⟩ := h.row hn
  exact ⟨b, off, e, Nat.lt_of_lt_of_le hb hB, hc⟩

theorem Es.nil (w : World) (B : Nat) (pa : Option Addr) : Es w B pa [] := ⟨fun h => (h rfl).elim, fun e he => absurd he List.not_mem_nil⟩

theorem Tryz.infoEdit : (Tryz.prog.info? 85).map (fun i => (i.zero, i.size, i.bytes)) = some (some (.agg #[.string ⟨#[]⟩, .slice none 0 0, .slice none 0 0]), 3, 64) := by kernel_rfl

theorem src_ed (w : World) (e : EE) (t : TypeId) : Src Tryz.prog 3 82 (.slice (some ⟨w.heap.size, 0, none⟩) 1 1) 1 (cellsP1 e) (w.alloc (.cells #[.string (bs e.key), .slice e.old.ao e.old.es.length e.old.cap, .slice e.new.ao e.new.es.length e.new.cap] t)) :=
  Src.ofSlice _ Tryz.underlying82 _ 1 1 (cellsP1 e) rfl (fun j u hu => by
    rw [Addr.add_lit, Nat.zero_add]
    have e1 : (w.alloc (.cells (cellsP1 e).toArray t)).cell? ⟨w.heap.size, j, none⟩ = _ := World.cell?_alloc_new w (cellsP1 e).toArray t j
    exact e1.trans (by simpa using hu)) (fun u hu => by
    simp [cellsP1] at hu
    rcases hu with rfl | rfl | rfl <;> rfl)

/-- What is owned lies there in a row. -/
theorem owns_es {w : World} {base : Nat} {pa : Option Addr} {cap : Nat} {p : List EE} (h : w.ownsRow base 85 3 (.slice pa p.length cap) p.length (cellsP p)) (hl : ∀ e ∈ p, SDs w w.heap.size e.old ∧ SDs w w.heap.size e.new) : Es w w.heap.size pa p := by
  refine ⟨fun hn => ?_, hl⟩
  rcases h.2 with ⟨_, h2⟩ | ⟨g, c, cur, hv, _, hg, _⟩
  · exact (hn (List.eq_nil_of_length_eq_zero h2)).elim
  · cases hv
    refine ⟨g, 0, rfl, (Array.getElem?_eq_some_iff.1 hg).1, fun j hj => ?_⟩
    have hc : ∀ i u, (cellsP1 p[j])[i]? = some u → w.cell? ⟨g, 0 + j * 3 + i, none⟩ = some u := fun i u hu => by
      have := h.cells (g := g) rfl (j * 3 + i) u (cellsP_get p j hj i u hu)
      rw [Addr.add_lit] at this
      rw [Nat.zero_add] at this ⊢
      exact this
    exact ⟨hc 0 _ rfl, hc 1 _ rfl, hc 2 _ rfl⟩

/-- A new row of edits. -/
def EsQ (w : World) (p : List ED) (e : Ending) (w' : World) : Prop := ∃ pa pc q, e = .returned (.slice pa q.length pc) ∧ eds q = p ∧ Es w' w'.heap.size pa q ∧ Kept (fun _ => False) w w'

/-- A list of definitions. -/
def DsQ (w : World) (l : List DD) (e : Ending) (w' : World) : Prop := ∃ s : SD, e = .returned s.val ∧ dds s.es = l ∧ SDs w' w'.heap.size s ∧ Kept (fun _ => False) w w'

end Go.Proofs.YtlnincdmdegaoaaGreat

/-
  LISTS OF DEFINITIONS in memory that is new; rows under way: of definitions, of edits.
-/
namespace Go.Proofs.YtlnincdmdegaoaaGreat
open Go.RowKit Go.Mk Go.Maps

theorem Sn.pointer {w : World} {v : Value} {l : List DD} (h : Sn w v l) : ∃ q, v = .pointer q := by
  obtain ⟨p, m, h1, _⟩ := h
  rcases h1 with ⟨rfl, _⟩ | ⟨s, rfl, _⟩
  · exact ⟨_, rfl⟩
  · exact ⟨_, rfl⟩

theorem owns_block {w : World} {base : Nat} {e : TypeId} {size n cap : Nat} {ao : Option Addr} {xs : List Value} (h : w.ownsRow base e size (.slice ao n cap) n xs) (hn : n ≠ 0) : ∃ g, ao = some ⟨g, 0, none⟩ ∧ base ≤ g := by
  rcases h.2 with ⟨_, h2⟩ | ⟨g, c, cur, hv, hb, _⟩
  · exact (hn h2).elim
  · cases hv; exact ⟨g, rfl, hb⟩

theorem owns_lies_block {w : World} {base : Nat} {vs : List (List UInt8)} {ao : Option Addr} {cap : Nat} (h : w.ownsRow base 9 1 (.slice ao vs.length cap) vs.length (strs vs)) (hn : strs vs ≠ []) : ∃ g, ao = some ⟨g, 0, none⟩ ∧ base ≤ g :=
  owns_block h (fun e => hn (by rw [List.eq_nil_of_length_eq_zero e]; rfl))

theorem owns_row_block {w : World} {base : Nat} {q : List Ent} {ao : Option Addr} {cap : Nat} {e : TypeId} {size : Nat} {xs : List Value} (h : w.ownsRow base e size (.slice ao q.length cap) q.length xs) (hn : q ≠ []) : ∃ g, ao = some ⟨g, 0, none⟩ ∧ base ≤ g :=
  owns_block h (fun e => hn (List.eq_nil_of_length_eq_zero e))

/-- A list whose memory is new since b. -/
structure SDf (b : Nat) (w : World) (s : SD) : Prop where
  sd : SDs w w.heap.size s
  row : s.es ≠ [] → ∀ a, s.ao = some a → b ≤ a.block
  rows : ∀ e ∈ s.es, strs e.1.vs ≠ [] → ∀ a, e.2.1 = some a → b ≤ a.block

theorem SDf.keep {b : Nat} {w w' : World} {s : SD} (h : SDf b w s) (hk : Kept (fun _ => False) w w') : SDf b w' s := ⟨(h.sd.keep hk).mono hk.size, h.row, h.rows⟩
theorem SDf.down {b b' : Nat} {w : World} {s : SD} (h : SDf b w s) (hb : b' ≤ b) : SDf b' w s := ⟨h.sd, fun hn a ha => Nat.le_trans hb (h.row hn a ha), fun e he hn a ha => Nat.le_trans hb (h.rows e he hn a ha)⟩
theorem SDf.nil (b : Nat) (w : World) : SDf b w ⟨none, 0, []⟩ := ⟨SDs.nil _ _ _ _, fun h => (h rfl).elim, fun _ he => absurd he List.not_mem_nil⟩

/-- A list that lies apart from a row under way. -/
structure SDa (w : World) (v : Value) (s : SD) : Prop where
  sd : SDs w w.heap.size s
  row : s.es ≠ [] → ∀ a, s.ao = some a → v.ownBlock ≠ some a.block
  rows : ∀ e ∈ s.es, strs e.1.vs ≠ [] → ∀ a, e.2.1 = some a → v.ownBlock ≠ some a.block

theorem SDf.apart {b : Nat} {w : World} {s : SD} {v : Value} (h : SDf b w s) (hv : ∀ k, v.ownBlock = some k → k < b) : SDa w v s :=
  ⟨h.sd, fun hn a ha e => by have := h.row hn a ha; have := hv _ e; omega, fun e he hn a ha e1 => by have := h.rows e he hn a ha; have := hv _ e1; omega⟩

theorem SDa.keep {w w' : World} {v : Value} {s : SD} (h : SDa w v s) (hk : Kept (fun _ => False) w w') : SDa w' v s := ⟨(h.sd.keep hk).mono hk.size, h.row, h.rows⟩

theorem SDa.own {w w' : World} {s : SD} {v : Value} (h : SDa w v s) (hk : Kept (fun k => v.ownBlock = some k) w w') (v' : Value) (hv' : ∀ k, v'.ownBlock = some k → v.ownBlock = some k ∨ w.heap.size ≤ k) : SDa w' v' s := by
  refine ⟨⟨⟨fun hn => ?_, fun e he => ⟨((h.sd.ds.lies e he).1.kept hk (h.rows e he)).mono hk.size, (h.sd.ds.lies e he).2⟩⟩, h.sd.cap⟩, fun hn a ha e1 => ?_, fun e he hn a ha e1 => ?_⟩
  · obtain ⟨b, off, e1, hb, hc⟩ := h.sd.ds.row hn
    exact ⟨b, off, e1, Nat.lt_of_lt_of_le hb hk.size, fun j hj => (hc j hj).kept hk (h.row hn _ e1)⟩
  · rcases hv' _ e1 with h1 | h1
    · exact h.row hn a ha h1
    · obtain ⟨b, off, e2, hb, _⟩ := h.sd.ds.row hn
      rw [e2] at ha
      cases ha
      dsimp only at h1
      omega
  · rcases hv' _ e1 with h1 | h1
    · exact h.rows e he hn a ha h1
    · obtain ⟨b, off, e2, hb, _⟩ := (h.sd.ds.lies e he).1 hn
      rw [e2] at ha
      cases ha
      dsimp only at h1
      omega

/-- A patch under way. -/
structure Pa9 (w : World) (v : Value) (q : List EE) (wx : World) : Prop where
  own : wx.ownsRow w.heap.size 85 3 v q.length (cellsP q)
  sd : ∀ e ∈ q, SDa wx v e.old ∧ SDa wx v e.new
  k : Kept (fun _ => False) w wx

theorem Pa9.keep {w : World} {v : Value} {q : List EE} {wx wy : World} (h : Pa9 w v q wx) (hk : Kept (fun _ => False) wx wy) : Pa9 w v q wy :=
  ⟨owns_kept h.own hk (fun _ _ h => h), fun e he => ⟨(h.sd e he).1.keep hk, (h.sd e he).2.keep hk⟩, h.k.trans hk (fun _ _ h => h)⟩

theorem Pa9.nil (w wx : World) (h : Kept (fun _ => False) w wx) : Pa9 w (.slice none 0 0) [] wx := ⟨World.ownsRow_nil _ _ _ _, fun _ he => absurd he List.not_mem_nil, h⟩

/-- One edit more. -/
theorem Pa9.app {w : World} {v v' : Value} {q : List EE} {wx wz wy : World} (h : Pa9 w v q wx) (e : EE) (he : SDa wx v e.old ∧ SDa wx v e.new) (hz : Kept (fun _ => False) wx wz)
    (ho : wy.ownsRow 0 85 3 v' (q.length + 1) (cellsP q ++ cellsP1 e)) (hg : wz.grownBy wy v.ownBlock) (hb : v'.ownBlock = v.ownBlock ∨ v'.ownBlock = some wz.heap.size) : Pa9 w v' (q ++ [e]) wy := by
  have hlt := owns_lt h.own
  have hrow : ∀ k, v'.ownBlock = some k → v.ownBlock = some k ∨ wx.heap.size ≤ k := fun k hk => by
    rcases hb with hb | hb
    · rw [hb] at hk; exact .inl hk
    · rw [hb] at hk; cases hk; exact .inr hz.size
  have hbase : ∀ k, v.ownBlock = some k → w.heap.size ≤ k := fun k hk => (hlt k hk).1
  have k4 : Kept (fun k => v.ownBlock = some k) wx wy := Kept.grown (hz.mono (fun _ _ h => h.elim)) hg (fun k hk _ => hk)
  refine ⟨?_, fun x hx => ?_, h.k.trans k4 (fun i hi h1 => by have := hbase i h1; omega)⟩
  · have ho5 := owns_base (base' := w.heap.size) ho (fun k hk => by
      rcases hrow k hk with h1 | h1
      · exact hbase k h1
      · exact Nat.le_trans h.k.size h1)
    rw [← cellsP_snoc, show q.length + 1 = (q ++ [e]).length by simp] at ho5
    exact ho5
  · rcases List.mem_append.1 hx with hx | hx
    · exact ⟨(h.sd x hx).1.own k4 v' hrow, (h.sd x hx).2.own k4 v' hrow⟩
    · rw [List.mem_singleton] at hx
      subst hx
      exact ⟨he.1.own k4 v' hrow, he.2.own k4 v' hrow⟩

/-- append, of one edit: as it runs. -/
theorem Pa9.push {w : World} {v : Value} {q : List EE} {wx : World} (h : Pa9 w v q wx) (hq : q.length ≤ 1000000) (e : EE) (he : SDa wx v e.old ∧ SDa wx v e.new) :
    ∃ v' wy, (Builtin.append_ #[82, 82] 82 #[v, .slice (some ⟨wx.heap.size, 0, none⟩) 1 1]).run Tryz.prog (wx.alloc (.cells #[.string (bs e.key), .slice e.old.ao e.old.es.length e.old.cap, .slice e.new.ao e.new.es.length e.new.cap] 85)) = .ok v' wy ∧ Pa9 w v' (q ++ [e]) wy ∧ Kept (fun k => v.ownBlock = some k) wx wy := by
  obtain ⟨i0, hi, hz0, hz1, hz2⟩ := info_parts Tryz.infoEdit
  obtain ⟨v', wy, hrun, ho, hg, hb, _⟩ := run_app (P := Tryz.prog) (wx.alloc (.cells #[.string (bs e.key), .slice e.old.ao e.old.es.length e.old.cap, .slice e.new.ao e.new.es.length e.new.cap] 85)) 82 82 82 85 i0 (.agg #[.string ⟨#[]⟩, .slice none 0 0, .slice none 0 0]) 3 64 Tryz.underlying82 hi hz0 hz1 hz2 rfl v q.length (cellsP q) ((owns_base (base' := 0) h.own (fun _ _ => Nat.zero_le _)).alloc _) (.slice (some ⟨wx.heap.size, 0, none⟩) 1 1) 1 (cellsP1 e) (src_ed wx e _) (by unfold maxLen; omega) (by omega)
  exact ⟨v', wy, hrun, h.app e he ((Kept.refl _ wx).alloc _) ho hg hb, ((Kept.refl _ wx).alloc _).grown hg (fun k hk _ => hk)⟩

/-- Definitions under way. -/
structure Dq (w : World) (v : Value) (q : List Ent) (wx : World) : Prop where
  own : wx.ownsRow w.heap.size 43 6 v q.length (cellsE q)
  rows : ∀ e ∈ q, (Lies wx wx.heap.size e.2.1 (strs e.1.vs) ∧ e.1.vs.length ≤ e.2.2) ∧ (strs e.1.vs ≠ [] → ∀ a, e.2.1 = some a → v.ownBlock ≠ some a.block)
  k : Kept (fun _ => False) w wx

theorem Dq.keep {w : World} {v : Value} {q : List Ent} {wx wy : World} (h : Dq w v q wx) (hk : Kept (fun _ => False) wx wy) : Dq w v q wy :=
  ⟨owns_kept h.own hk (fun _ _ h => h), fun e he => ⟨⟨((h.rows e he).1.1.kept hk (fun _ _ _ h => h)).mono hk.size, (h.rows e he).1.2⟩, (h.rows e he).2⟩, h.k.trans hk (fun _ _ h => h)⟩

theorem Dq.nil (w wx : World) (h : Kept (fun _ => False) w wx) : Dq w (.slice none 0 0) [] wx := ⟨World.ownsRow_nil _ _ _ _, fun _ he => absurd he List.not_mem_nil, h⟩

theorem cellsE_app (q r : List Ent) : cellsE (q ++ r) = cellsE q ++ cellsE r := by simp [cellsE]

/-- Some definitions more. -/
theorem Dq.apps {w : World} {v v' : Value} {q : List Ent} {wx wz wy : World} (h : Dq w v q wx) (r : List Ent)
    (hr : ∀ e ∈ r, (Lies wx wx.heap.size e.2.1 (strs e.1.vs) ∧ e.1.vs.length ≤ e.2.2) ∧ (strs e.1.vs ≠ [] → ∀ a, e.2.1 = some a → v.ownBlock ≠ some a.block)) (hz : Kept (fun _ => False) wx wz)
    (ho : wy.ownsRow 0 43 6 v' (q.length + r.length) (cellsE q ++ cellsE r)) (hg : wz.grownBy wy v.ownBlock) (hb : v'.ownBlock = v.ownBlock ∨ v'.ownBlock = some wz.heap.size) : Dq w v' (q ++ r) wy := by
  have hlt := owns_lt h.own
  have hrow : ∀ k, v'.ownBlock = some k → v.ownBlock = some k ∨ wx.heap.size ≤ k := fun k hk => by
    rcases hb with hb | hb
    · rw [hb] at hk; exact .inl hk
    · rw [hb] at hk; cases hk; exact .inr hz.size
  have hbase : ∀ k, v.ownBlock = some k → w.heap.size ≤ k := fun k hk => (hlt k hk).1
  have k4 : Kept (fun k => v.ownBlock = some k) wx wy := Kept.grown (hz.mono (fun _ _ h => h.elim)) hg (fun k hk _ => hk)
  have one : ∀ e : Ent, (Lies wx wx.heap.size e.2.1 (strs e.1.vs) ∧ e.1.vs.length ≤ e.2.2) ∧ (strs e.1.vs ≠ [] → ∀ a, e.2.1 = some a → v.ownBlock ≠ some a.block) →
      (Lies wy wy.heap.size e.2.1 (strs e.1.vs) ∧ e.1.vs.length ≤ e.2.2) ∧ (strs e.1.vs ≠ [] → ∀ a, e.2.1 = some a → v'.ownBlock ≠ some a.block) := fun e he => by
    refine ⟨⟨(he.1.1.kept k4 he.2).mono k4.size, he.1.2⟩, fun hn a ha e1 => ?_⟩
    rcases hrow _ e1 with h1 | h1
    · exact he.2 hn a ha h1
    · obtain ⟨b, off, e2, hb, _⟩ := he.1.1 hn
      rw [e2] at ha
      cases ha
      dsimp only at h1
      omega
  refine ⟨?_, fun x hx => ?_, h.k.trans k4 (fun i hi h1 => by have := hbase i h1; omega)⟩
  · have ho5 := owns_base (base' := w.heap.size) ho (fun k hk => by
      rcases hrow k hk with h1 | h1
      · exact hbase k h1
      · exact Nat.le_trans h.k.size h1)
    rw [← cellsE_app, ← List.length_append] at ho5
    exact ho5
  · rcases List.mem_append.1 hx with hx | hx
    · exact one x (h.rows x hx)
    · exact one x (hr x hx)

theorem Dq.app {w : World} {v v' : Value} {q : List Ent} {wx wz wy : World} (h : Dq w v q wx) (y : Ent)
    (hy : (Lies wx wx.heap.size y.2.1 (strs y.1.vs) ∧ y.1.vs.length ≤ y.2.2) ∧ (strs y.1.vs ≠ [] → ∀ a, y.2.1 = some a → v.ownBlock ≠ some a.block)) (hz : Kept (fun _ => False) wx wz)
    (ho : wy.ownsRow 0 43 6 v' (q.length + 1) (cellsE q ++ cellsE1 y)) (hg : wz.grownBy wy v.ownBlock) (hb : v'.ownBlock = v.ownBlock ∨ v'.ownBlock = some wz.heap.size) : Dq w v' (q ++ [y]) wy :=
  h.apps [y] (fun e he => by rw [List.mem_singleton] at he; subst he; exact hy) hz (by rw [show cellsE [y] = cellsE1 y by simp [cellsE]]; exact ho) hg hb

theorem Dq.sds {w : World} {ao : Option Addr} {cap : Nat} {q : List Ent} {wx : World} (h : Dq w (.slice ao q.length cap) q wx) : SDs wx wx.heap.size ⟨ao, cap, q⟩ :=
  ⟨owns_ds h.own (fun e he => (h.rows e he).1), owns_cap h.own⟩

theorem cellsE_len (es : List Ent) : (cellsE es).length = es.length * 6 := by
  induction es with
  | nil => rfl
  | cons e es ih =>
    rw [cellsE, List.flatMap_cons, List.length_append]
    unfold cellsE at ih
    rw [ih]
    simp [cellsE1]
    omega

/-- A list as what is appended. -/
theorem src_ds {w : World} {B : Nat} {s : SD} (h : SDs w B s) : Src Tryz.prog 6 22 (.slice s.ao s.es.length s.cap) s.es.length (cellsE s.es) w := by
  obtain ⟨ao, cap, es⟩ := s
  dsimp only
  by_cases hn : es = []
  · subst hn
    cases ao with
    | none => exact Src.ofNil _ Tryz.underlying22 _
    | some a => exact Src.ofSlice _ Tryz.underlying22 a 0 cap [] rfl (fun j u hu => by simp at hu) (fun u hu => by cases hu)
  · obtain ⟨b, off, e1, _, hc⟩ := h.ds.row hn
    dsimp only at e1 hc
    subst e1
    refine Src.ofSlice _ Tryz.underlying22 _ es.length cap (cellsE es) (cellsE_len es) (fun j u hu => ?_) (cellsE_one es)
    rw [Addr.add_lit]
    have hj : j < es.length * 6 := by have := (List.getElem?_eq_some_iff.1 hu).1; rwa [cellsE_len] at this
    have hi : j / 6 < es.length := by omega
    have h6 : j % 6 < 6 := Nat.mod_lt _ (by omega)
    have hg := cellsE_get es (j / 6) hi (j % 6) ((cellsE1 es[j / 6])[j % 6]'(by simpa [cellsE1] using h6)) (List.getElem?_eq_getElem _)
    rw [show j / 6 * 6 + j % 6 = j by omega, hu] at hg
    obtain ⟨c0, c1, c2, c3, c4, c5⟩ := hc (j / 6) hi
    rw [show off + j = off + j / 6 * 6 + j % 6 by omega]
    generalize j % 6 = t at *
    generalize j / 6 = i at *
    cases hg
    match t, h6 with
    | 0, _ => exact c0
    | 1, _ => exact c1
    | 2, _ => exact c2
    | 3, _ => exact c3
    | 4, _ => exact c4
    | 5, _ => exact c5

end Go.Proofs.YtlnincdmdegaoaaGreat
