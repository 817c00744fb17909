/-
  Lemmas towards the claim of this folder: contracts of the functions that the law reaches; joined texts.
-/
import Derived.Test.YtjnpmbdehalmpaaGreatRd
import Derived.Test.YtjnpmbdehalmpaaGreatGNe
import Derived.Test.YtjnpmbdehalmpaaGreatGNc
import Derived.Deep.RegionHeld
/-
  HOW A DEFINITION IS READ, over lists (plain), and a box that fields are stored into.
-/
namespace Go.Proofs.YtjnpmbdehalmpaaGreat
open Go.RowKit Go.Mk

/-- The fields behind a kind. -/
def fieldsR (s : RS) : RS × DD :=
  if s.num.2 = 1 then (s.num.1.text.1.text.1.texts.1, ⟨1, s.num.1.text.2, s.num.1.text.1.text.2, s.num.1.text.1.text.1.texts.2, [], []⟩)
  else if s.num.2 = 2 then (s.num.1.text.1.text.1.text.1, ⟨2, s.num.1.text.2, [], [], s.num.1.text.1.text.2, s.num.1.text.1.text.1.text.2⟩)
  else (s.num.1, ⟨s.num.2, [], [], [], [], []⟩)

/-- What a reading answers: a definition and an error. -/
def judgeR (r : RS × DD) : DD × Int := if r.1.err ≠ 0 then (zeroD, r.1.err) else if rightD r.2 = true then (r.2, 0) else (zeroD, 31)

/-- A box of six cells that may be stored into. -/
structure Bz (w : World) (b : Nat) (ao : Option Addr) (cap : Nat) (d : DD) : Prop where
  bx : Bx w b ao cap d
  f0 : w.frozen? ⟨b, 0, none⟩ = false
  f1 : w.frozen? ⟨b, 1, none⟩ = false
  f2 : w.frozen? ⟨b, 2, none⟩ = false
  f3 : w.frozen? ⟨b, 3, none⟩ = false
  f4 : w.frozen? ⟨b, 4, none⟩ = false
  f5 : w.frozen? ⟨b, 5, none⟩ = false

theorem Bz.lt {w : World} {b : Nat} {ao : Option Addr} {cap : Nat} {d : DD} (h : Bz w b ao cap d) : b < w.heap.size := World.block_lt_of_cell? _ _ h.bx.c0

theorem Bz.kept {S : Nat → Prop} {w w' : World} {b : Nat} {ao : Option Addr} {cap : Nat} {d : DD} (h : Bz w b ao cap d) (hk : Kept S w w') (hb : ¬ S b) : Bz w' b ao cap d := by
  have hlt := h.lt
  exact ⟨h.bx.kept hk hb, (hk.frozen (p := ⟨b, 0, none⟩) hlt hb).trans h.f0, (hk.frozen (p := ⟨b, 1, none⟩) hlt hb).trans h.f1, (hk.frozen (p := ⟨b, 2, none⟩) hlt hb).trans h.f2, (hk.frozen (p := ⟨b, 3, none⟩) hlt hb).trans h.f3, (hk.frozen (p := ⟨b, 4, none⟩) hlt hb).trans h.f4, (hk.frozen (p := ⟨b, 5, none⟩) hlt hb).trans h.f5⟩

theorem bz_new (w : World) (ao : Option Addr) (cap : Nat) (d : DD) (t : TypeId) : Bz (w.alloc (.cells #[.int .i64 d.k, .string (bs d.c), .string (bs d.p), .slice ao d.vs.length cap, .string (bs d.s), .string (bs d.t)] t)) w.heap.size ao cap d :=
  ⟨bx_new w ao cap d t, by simp, by simp, by simp, by simp, by simp, by simp⟩

theorem Bz.put1 {w : World} {b : Nat} {ao : Option Addr} {cap : Nat} {d : DD} (h : Bz w b ao cap d) (l : List UInt8) : Bz (w.setCell ⟨b, 1, none⟩ (.string (bs l))) b ao cap { d with c := l } := by
  refine ⟨⟨?_, World.cell?_setCell_same _ _ _ h.bx.c1, ?_, ?_, ?_, ?_⟩, ?_, ?_, ?_, ?_, ?_, ?_⟩
  all_goals first | (rw [World.cell?_setCell_other _ _ _ _ (by simp)]; first | exact h.bx.c0 | exact h.bx.c1 | exact h.bx.c2 | exact h.bx.c3 | exact h.bx.c4 | exact h.bx.c5) | (rw [World.frozen?_setCell]; first | exact h.f0 | exact h.f1 | exact h.f2 | exact h.f3 | exact h.f4 | exact h.f5)

theorem Bz.put2 {w : World} {b : Nat} {ao : Option Addr} {cap : Nat} {d : DD} (h : Bz w b ao cap d) (l : List UInt8) : Bz (w.setCell ⟨b, 2, none⟩ (.string (bs l))) b ao cap { d with p := l } := by
  refine ⟨⟨?_, ?_, World.cell?_setCell_same _ _ _ h.bx.c2, ?_, ?_, ?_⟩, ?_, ?_, ?_, ?_, ?_, ?_⟩
  all_goals first | (rw [World.cell?_setCell_other _ _ _ _ (by simp)]; first | exact h.bx.c0 | exact h.bx.c1 | exact h.bx.c2 | exact h.bx.c3 | exact h.bx.c4 | exact h.bx.c5) | (rw [World.frozen?_setCell]; first | exact h.f0 | exact h.f1 | exact h.f2 | exact h.f3 | exact h.f4 | exact h.f5)

theorem Bz.put3 {w : World} {b : Nat} {ao ao' : Option Addr} {cap cap' : Nat} {d : DD} (h : Bz w b ao cap d) (l : List (List UInt8)) : Bz (w.setCell ⟨b, 3, none⟩ (.slice ao' l.length cap')) b ao' cap' { d with vs := l } := by
  refine ⟨⟨?_, ?_, ?_, World.cell?_setCell_same _ _ _ h.bx.c3, ?_, ?_⟩, ?_, ?_, ?_, ?_, ?_, ?_⟩
  all_goals first | (rw [World.cell?_setCell_other _ _ _ _ (by simp)]; first | exact h.bx.c0 | exact h.bx.c1 | exact h.bx.c2 | exact h.bx.c3 | exact h.bx.c4 | exact h.bx.c5) | (rw [World.frozen?_setCell]; first | exact h.f0 | exact h.f1 | exact h.f2 | exact h.f3 | exact h.f4 | exact h.f5)

theorem Bz.put4 {w : World} {b : Nat} {ao : Option Addr} {cap : Nat} {d : DD} (h : Bz w b ao cap d) (l : List UInt8) : Bz (w.setCell ⟨b, 4, none⟩ (.string (bs l))) b ao cap { d with s := l } := by
  refine ⟨⟨?_, ?_, ?_, ?_, World.cell?_setCell_same _ _ _ h.bx.c4, ?_⟩, ?_, ?_, ?_, ?_, ?_, ?_⟩
  all_goals first | (rw [World.cell?_setCell_other _ _ _ _ (by simp)]; first | exact h.bx.c0 | exact h.bx.c1 | exact h.bx.c2 | exact h.bx.c3 | exact h.bx.c4 | exact h.bx.c5) | (rw [World.frozen?_setCell]; first | exact h.f0 | exact h.f1 | exact h.f2 | exact h.f3 | exact h.f4 | exact h.f5)

theorem Bz.put5 {w : World} {b : Nat} {ao : Option Addr} {cap : Nat} {d : DD} (h : Bz w b ao cap d) (l : List UInt8) : Bz (w.setCell ⟨b, 5, none⟩ (.string (bs l))) b ao cap { d with t := l } := by
  refine ⟨⟨?_, ?_, ?_, ?_, ?_, World.cell?_setCell_same _ _ _ h.bx.c5⟩, ?_, ?_, ?_, ?_, ?_, ?_⟩
  all_goals first | (rw [World.cell?_setCell_other _ _ _ _ (by simp)]; first | exact h.bx.c0 | exact h.bx.c1 | exact h.bx.c2 | exact h.bx.c3 | exact h.bx.c4 | exact h.bx.c5) | (rw [World.frozen?_setCell]; first | exact h.f0 | exact h.f1 | exact h.f2 | exact h.f3 | exact h.f4 | exact h.f5)

theorem Bz.put0 {w : World} {b : Nat} {ao : Option Addr} {cap : Nat} {d : DD} (h : Bz w b ao cap d) (k : Int) : Bz (w.setCell ⟨b, 0, none⟩ (.int .i64 k)) b ao cap { d with k := k } := by
  refine ⟨⟨World.cell?_setCell_same _ _ _ h.bx.c0, ?_, ?_, ?_, ?_, ?_⟩, ?_, ?_, ?_, ?_, ?_, ?_⟩
  all_goals first | (rw [World.cell?_setCell_other _ _ _ _ (by simp)]; first | exact h.bx.c0 | exact h.bx.c1 | exact h.bx.c2 | exact h.bx.c3 | exact h.bx.c4 | exact h.bx.c5) | (rw [World.frozen?_setCell]; first | exact h.f0 | exact h.f1 | exact h.f2 | exact h.f3 | exact h.f4 | exact h.f5)

/-- A whole definition is stored. -/
def setD (w : World) (r : Nat) (ao : Option Addr) (cap : Nat) (d : DD) : World :=
  (((((w.setCell ⟨r, 0, none⟩ (.int .i64 d.k)).setCell ⟨r, 1, none⟩ (.string (bs d.c))).setCell ⟨r, 2, none⟩ (.string (bs d.p))).setCell ⟨r, 3, none⟩ (.slice ao d.vs.length cap)).setCell ⟨r, 4, none⟩ (.string (bs d.s))).setCell ⟨r, 5, none⟩ (.string (bs d.t))

theorem Bz.set {w : World} {r : Nat} {ao0 : Option Addr} {cap0 : Nat} {d0 : DD} (h : Bz w r ao0 cap0 d0) (ao : Option Addr) (cap : Nat) (d : DD) : Bz (setD w r ao cap d) r ao cap d :=
  ((((((h.put0 d.k).put1 d.c).put2 d.p).put3 (ao' := ao) (cap' := cap) d.vs).put4 d.s).put5 d.t)

theorem kept_setD (w : World) (r : Nat) (ao : Option Addr) (cap : Nat) (d : DD) : Kept (fun k => k = r) w (setD w r ao cap d) :=
  Kept.setCell (p := ⟨r, 5, none⟩) (Kept.setCell (p := ⟨r, 4, none⟩) (Kept.setCell (p := ⟨r, 3, none⟩) (Kept.setCell (p := ⟨r, 2, none⟩) (Kept.setCell (p := ⟨r, 1, none⟩) (Kept.setCell (S := fun k => k = r) (p := ⟨r, 0, none⟩) (Kept.refl _ w) (fun _ => rfl) _) (fun _ => rfl) _) (fun _ => rfl) _) (fun _ => rfl) _) (fun _ => rfl) _) (fun _ => rfl) _

theorem kept_setD' {S : Nat → Prop} {w wx : World} {r : Nat} {ao : Option Addr} {cap : Nat} {d : DD} (h : Kept S w wx) (hr : w.heap.size ≤ r) : Kept S w (setD wx r ao cap d) :=
  h.trans (kept_setD wx r ao cap d) (fun i hi e => by omega)

theorem load_def {w : World} {r : Nat} {ao : Option Addr} {cap : Nat} {d : DD} (h : Bx w r ao cap d) : (loadVar 46 ⟨r, 0, none⟩).run Tryz.prog w = .ok (.agg #[.int .i64 d.k, .string (bs d.c), .string (bs d.p), .slice ao d.vs.length cap, .string (bs d.s), .string (bs d.t)]) w := by
  have hl := run_loadCells_list (P := Tryz.prog) w ⟨r, 0, none⟩ [.int .i64 d.k, .string (bs d.c), .string (bs d.p), .slice ao d.vs.length cap, .string (bs d.s), .string (bs d.t)] (fun j v hj => by
    rw [Addr.add_lit, Nat.zero_add]
    match j, hj with
    | 0, hj => cases hj; exact h.c0
    | 1, hj => cases hj; exact h.c1
    | 2, hj => cases hj; exact h.c2
    | 3, hj => cases hj; exact h.c3
    | 4, hj => cases hj; exact h.c4
    | 5, hj => cases hj; exact h.c5
    | j + 6, hj => simp at hj)
  have hs := Tryz.sizeOf46
  have ha := Tryz.isAgg46
  unfold loadVar
  simp only [Sem.run_bind, ha, hs, Result.andThen, if_pos]
  simp only [List.length_cons, List.length_nil, Nat.reduceAdd] at hl
  simp [hl]

theorem results_box {P : Program} {fn : Func} {t : Tmp} {ty : TypeId} (h : fn.results = #[.cell t ty]) {tmps : Array Value} {w : World} {r : Nat} {v : Value} (ht : tmps.getD t undef = .pointer (some ⟨r, 0, none⟩)) (hl : (loadVar ty ⟨r, 0, none⟩).run P w = .ok v w) : (results fn tmps).run P w = .ok v w := by
  have ht' : tmps[t]?.getD undef = .pointer (some ⟨r, 0, none⟩) := by simpa using ht
  simp [results, h, ht', asAddr, hl]

theorem results_box2 {P : Program} {fn : Func} {t u : Tmp} {ty : TypeId} (h : fn.results = #[.cell t ty, .tmp u]) {tmps : Array Value} {w : World} {r : Nat} {v : Value} (ht : tmps.getD t undef = .pointer (some ⟨r, 0, none⟩)) (hl : (loadVar ty ⟨r, 0, none⟩).run P w = .ok v w) : (results fn tmps).run P w = .ok (.tuple #[v, tmps.getD u undef]) w := by
  have ht' : tmps[t]?.getD undef = .pointer (some ⟨r, 0, none⟩) := by simpa using ht
  simp [results, h, ht', asAddr, hl]

/-- What a call keeps that writes into block x only, which lies behind w. -/
theorem kept_put {w wx : World} {b x i : Nat} {v : Value} (h : Kept (fun k => k = b) w wx) (hx : w.heap.size ≤ x) : Kept (fun k => k = b) w (wx.setCell ⟨x, i, none⟩ v) :=
  Kept.setCell (p := ⟨x, i, none⟩) h (fun hlt => by simp at hlt; omega) v

theorem kept_at (w : World) (x i : Nat) (v : Value) : Kept (fun k => k = x) w (w.setCell ⟨x, i, none⟩ v) := Kept.setCell (S := fun k => k = x) (p := ⟨x, i, none⟩) (Kept.refl _ w) (fun _ => rfl) v

/-- The program's reader, the box that is filled, and the box of the result, in a world behind w. -/
structure Fl (w : World) (D : Nat → Prop) (b : Nat) (r x : Nat) (ao : Option Addr) (cap : Nat) (s : RS) (d : DD) (wx : World) : Prop where
  rd : ∃ a c, Rd wx D b a c s
  res : Bz wx r none 0 zeroD
  box : Bz wx x ao cap d
  own : wx.ownsRow w.heap.size 9 1 (.slice ao d.vs.length cap) d.vs.length (strs d.vs)
  k : Kept (fun k => k = b) w wx
  ne : b < w.heap.size
  hr : w.heap.size ≤ r
  hx : w.heap.size ≤ x
  rx : r ≠ x
  hD : ∀ k, D k → k < w.heap.size
  ob : ∀ k, (Value.slice ao d.vs.length cap).ownBlock = some k → k ≠ x ∧ k ≠ r

/-- The reader has gone on. -/
theorem Fl.step {w : World} {D : Nat → Prop} {b r x : Nat} {ao : Option Addr} {cap : Nat} {s s' : RS} {d : DD} {wx wy : World} (h : Fl w D b r x ao cap s d wx) (hr : ∃ a c, Rd wy D b a c s') (hk : Kept (fun k => k = b) wx wy) : Fl w D b r x ao cap s' d wy :=
  ⟨hr, h.res.kept hk (by have := h.hr; have := h.ne; omega), h.box.kept hk (by have := h.hx; have := h.ne; omega), owns_kept h.own hk (fun k hk e => by have := (owns_lt h.own k hk).1; have := h.ne; omega), h.k.trans hk (fun _ _ h => h), h.ne, h.hr, h.hx, h.rx, h.hD, h.ob⟩

theorem Fl.rdput {w : World} {D : Nat → Prop} {b r x : Nat} {ao : Option Addr} {cap : Nat} {s : RS} {d : DD} {wx : World} (h : Fl w D b r x ao cap s d wx) (i : Nat) (v : Value) : ∃ a c, Rd (wx.setCell ⟨x, i, none⟩ v) D b a c s := by
  obtain ⟨a, c, hr⟩ := h.rd
  exact ⟨a, c, hr.kept (kept_at wx x i v) (by have := h.hx; have := h.ne; omega) (fun k _ hd e => by have := h.hD k hd; have := h.hx; omega)⟩

theorem Fl.put {w : World} {D : Nat → Prop} {b r x : Nat} {ao : Option Addr} {cap : Nat} {s : RS} {d d' : DD} {wx : World} (h : Fl w D b r x ao cap s d wx) (i : Nat) (v : Value) (hb : Bz (wx.setCell ⟨x, i, none⟩ v) x ao cap d') (hv : d'.vs = d.vs) : Fl w D b r x ao cap s d' (wx.setCell ⟨x, i, none⟩ v) :=
  ⟨h.rdput i v, h.res.kept (kept_at wx x i v) h.rx, hb, by rw [hv]; exact owns_kept h.own (kept_at wx x i v) (fun k hk => (h.ob k hk).1), kept_put h.k h.hx, h.ne, h.hr, h.hx, h.rx, h.hD, by rw [hv]; exact h.ob⟩

theorem Fl.put3 {w : World} {D : Nat → Prop} {b r x : Nat} {ao ao' : Option Addr} {cap cap' z : Nat} {s : RS} {d : DD} {wx : World} (h : Fl w D b r x ao cap s d wx) (l : List (List UInt8)) (ho : wx.ownsRow z 9 1 (.slice ao' l.length cap') l.length (strs l)) (h1 : x < z) (h2 : r < z) :
    Fl w D b r x ao' cap' s { d with vs := l } (wx.setCell ⟨x, 3, none⟩ (.slice ao' l.length cap')) :=
  ⟨h.rdput 3 _, h.res.kept (kept_at wx x 3 _) h.rx, h.box.put3 l, owns_base (owns_kept ho (kept_at wx x 3 _) (fun k hk e => by have := (owns_lt ho k hk).1; omega)) (fun k hk => by have := (owns_lt ho k hk).1; have := h.hx; omega), kept_put h.k h.hx, h.ne, h.hr, h.hx, h.rx, h.hD,
    fun k hk => by have := (owns_lt ho k hk).1; omega⟩

end Go.Proofs.YtjnpmbdehalmpaaGreat

/-
  CONTRACTS of package own: Texts, Def; of package snap: how a Snap lies in memory; table, Len, isFull.
-/
namespace Go.Proofs.YtjnpmbdehalmpaaGreat
open Go.RowKit Go.Mk Go.Maps

/-- A table, nil or not. -/
def TbO (w : World) (p : Option Nat) (m : List Ent) : Prop := (p = none ∧ m = []) ∨ ∃ b, p = some b ∧ Tb w b m
/-- A *Snap, nil or not, and its table. -/
def SnP (w : World) (v : Value) (p : Option Nat) : Prop := (v = .pointer none ∧ p = none) ∨ ∃ s, v = .pointer (some ⟨s, 0, none⟩) ∧ w.cell? ⟨s, 0, none⟩ = some (.map p)
/-- A *Snap and its definitions by rising keys. -/
def Sn (w : World) (v : Value) (l : List DD) : Prop := ∃ p m, SnP w v p ∧ TbO w p m ∧ l = m.map (·.1)

theorem TbO.keep {w w' : World} {p : Option Nat} {m : List Ent} (h : TbO w p m) (hk : Kept (fun _ => False) w w') : TbO w' p m := by
  rcases h with h | ⟨b, rfl, h⟩
  · exact .inl h
  · exact .inr ⟨b, rfl, h.keep hk⟩

theorem TbO.rise {w : World} {p : Option Nat} {m : List Ent} (h : TbO w p m) : Rise keyE m := by
  rcases h with ⟨_, rfl⟩ | ⟨b, rfl, h⟩
  · exact List.Pairwise.nil
  · exact h.rise

theorem TbO.right {w : World} {p : Option Nat} {m : List Ent} (h : TbO w p m) : ∀ e ∈ m, rightD e.1 = true := by
  rcases h with ⟨_, rfl⟩ | ⟨b, rfl, h⟩
  · simp
  · exact h.right

theorem TbO.lies {w : World} {p : Option Nat} {m : List Ent} (h : TbO w p m) : ∀ e ∈ m, Lies w w.heap.size e.2.1 (strs e.1.vs) ∧ e.1.vs.length ≤ e.2.2 := by
  rcases h with ⟨_, rfl⟩ | ⟨b, rfl, h⟩
  · simp
  · exact h.lies

theorem SnP.keep {w w' : World} {v : Value} {p : Option Nat} (h : SnP w v p) (hk : Kept (fun _ => False) w w') : SnP w' v p := by
  rcases h with h | ⟨s, rfl, h⟩
  · exact .inl h
  · exact .inr ⟨s, rfl, (hk.cell (p := ⟨s, 0, none⟩) (World.block_lt_of_cell? _ _ h) (fun h => h)).trans h⟩

theorem Sn.keep {w w' : World} {v : Value} {l : List DD} (h : Sn w v l) (hk : Kept (fun _ => False) w w') : Sn w' v l := by
  obtain ⟨p, m, h1, h2, h3⟩ := h
  exact ⟨p, m, h1.keep hk, h2.keep hk, h3⟩

theorem Sn.rise {w : World} {v : Value} {l : List DD} (h : Sn w v l) : Rise keyD l := by
  obtain ⟨p, m, _, h2, rfl⟩ := h
  exact (map_rise (f := fun e : Ent => e.1) (ka := keyE) (kb := keyD) (fun _ => rfl)).2 h2.rise

theorem Sn.right {w : World} {v : Value} {l : List DD} (h : Sn w v l) : ∀ d ∈ l, rightD d = true := by
  obtain ⟨p, m, _, h2, rfl⟩ := h
  intro d hd
  obtain ⟨e, he, rfl⟩ := List.mem_map.1 hd
  exact h2.right e he

theorem sn_nil (w : World) : Sn w (.pointer none) [] := ⟨none, [], .inl ⟨rfl, rfl⟩, .inl ⟨rfl, rfl⟩, rfl⟩

set_option maxHeartbeats 400000 in
theorem table_any {w : World} {v : Value} {p : Option Nat} (h : SnP w v p) : Calls Tryz.prog 82 #[v] w fun e w' => e = .returned (.map p) ∧ w = w' := by
  rcases h with ⟨rfl, rfl⟩ | ⟨s, rfl, hc⟩
  · go_enter Tryz.func82, Tryz.ntmps82
    go_wp2
    go_ret
    exact ⟨rfl, rfl⟩
  · go_enter Tryz.func82, Tryz.ntmps82
    go_wp2
    go_ret
    exact ⟨rfl, rfl⟩

theorem TbO.len {w : World} {p : Option Nat} {m : List Ent} (h : TbO w p m) (ty : TypeId) : (Builtin.len_ #[85] ty #[.map p]).run Tryz.prog w = .ok (.int .i64 (m.length : Int)) w := by
  rcases h with ⟨rfl, rfl⟩ | ⟨b, rfl, h⟩
  · exact Maps.len_nil Tryz.underlying85 ty
  · exact h.len ty

set_option maxHeartbeats 400000 in
theorem slen_any {w : World} {v : Value} {l : List DD} (h : Sn w v l) : Calls Tryz.prog 49 #[v] w fun e w' => e = .returned (.int .i64 (l.length : Int)) ∧ w = w' := by
  obtain ⟨p, m, h1, h2, rfl⟩ := h
  have H := Lib.hid (table_any h1)
  have hl := h2.len
  rw [List.length_map]
  clear h1 h2
  go_enter Tryz.func49, Tryz.ntmps49
  go_wp2_with fail
  refine H.out.mono ?_; rintro e w1 ⟨rfl, rfl⟩
  go_wp2
  go_ret
  exact ⟨rfl, rfl⟩

set_option maxHeartbeats 400000 in
theorem full_any {w : World} {v : Value} {l : List DD} (h : Sn w v l) : Calls Tryz.prog 57 #[v] w fun e w' => e = .returned (.bool (decide (500 ≤ l.length))) ∧ w = w' := by
  have H := Lib.hid (slen_any h)
  clear h
  have hd : decide ((500 : Int) ≤ (l.length : Int)) = decide (500 ≤ l.length) := by rw [decide_eq_decide]; omega
  generalize decide (500 ≤ l.length) = r at *
  go_enter Tryz.func57, Tryz.ntmps57
  go_wp2_with fail
  refine H.out.mono ?_; rintro e w1 ⟨rfl, rfl⟩
  go_wp2
  all_goals go_ret
  all_goals exact ⟨by simp_all, rfl⟩

theorem owns_cap {w : World} {base : Nat} {e : TypeId} {size n cap : Nat} {ao : Option Addr} {xs : List Value} (h : w.ownsRow base e size (.slice ao n cap) n xs) : n ≤ cap := by
  rcases h.2 with ⟨h1, h2⟩ | ⟨g, c, cur, hv, _, _, hle, _⟩
  · omega
  · cases hv; exact hle

/-- What Def answers: the definition in memory of its own. -/
def CpPost (w : World) (d : DD) (e : Ending) (w' : World) : Prop :=
  ∃ ao cap, e = .returned (valE (d, ao, cap)) ∧ w'.ownsRow w.heap.size 9 1 (.slice ao d.vs.length cap) d.vs.length (strs d.vs) ∧ Kept (fun _ => False) w w'

/-- Lengths that Def can take. -/
structure Len8 (d : DD) : Prop where
  c : d.c.length ≤ 1000000
  p : d.p.length ≤ 1000000
  s : d.s.length ≤ 1000000
  t : d.t.length ≤ 1000000
  n : d.vs.length ≤ 1000000
  v : ∀ x ∈ d.vs, x.length ≤ 1000000

/-- The boxes of Def: the argument, the result. -/
structure Cq (w : World) (ao : Option Addr) (cap : Nat) (d : DD) (wx : World) : Prop where
  bx : Bx wx w.heap.size ao cap d
  rs : Bz wx (w.heap.size + 1) none 0 zeroD
  k : Kept (fun _ => False) w wx
  sz : w.heap.size + 2 ≤ wx.heap.size

theorem Cq.kept {w : World} {ao : Option Addr} {cap : Nat} {d : DD} {wx wy : World} {S : Nat → Prop} (h : Cq w ao cap d wx) (hk : Kept S wx wy) (hs : ∀ k, S k → w.heap.size + 2 ≤ k) : Cq w ao cap d wy :=
  ⟨h.bx.kept hk (fun e => by have := hs _ e; omega), h.rs.kept hk (fun e => by have := hs _ e; omega), h.k.trans hk (fun i hi e => by have := hs i e; omega), Nat.le_trans h.sz hk.size⟩

theorem cq_new (w : World) (ao : Option Addr) (cap : Nat) (d : DD) :
    Cq w ao cap d ((w.alloc (.cells #[.int .i64 d.k, .string (bs d.c), .string (bs d.p), .slice ao d.vs.length cap, .string (bs d.s), .string (bs d.t)] 46)).alloc (.cells #[.int .i64 0, .string ⟨#[]⟩, .string ⟨#[]⟩, .slice none 0 0, .string ⟨#[]⟩, .string ⟨#[]⟩] 46)) := by
  have h1 := bx_new w ao cap d 46
  have h2 := bz_new (w.alloc (.cells #[.int .i64 d.k, .string (bs d.c), .string (bs d.p), .slice ao d.vs.length cap, .string (bs d.s), .string (bs d.t)] 46)) none 0 zeroD 46
  rw [World.size_alloc] at h2
  exact ⟨h1.kept (S := fun _ => False) ((Kept.refl _ _).alloc _) (fun h => h), h2, ((Kept.refl _ w).alloc _).alloc _, by simp⟩

/-- The six cells of a definition's box. -/
abbrev cells6 (B : Nat) (k : Int) (c p : List UInt8) (v : Value) (s t : List UInt8) (w : World) : Prop := w.cell? ⟨B, 0, none⟩ = some (.int .i64 k) ∧ w.cell? ⟨B, 1, none⟩ = some (.string (bs c)) ∧ w.cell? ⟨B, 2, none⟩ = some (.string (bs p)) ∧ w.cell? ⟨B, 3, none⟩ = some v ∧ w.cell? ⟨B, 4, none⟩ = some (.string (bs s)) ∧ w.cell? ⟨B, 5, none⟩ = some (.string (bs t))

theorem Cq.cells {w : World} {ao : Option Addr} {cap : Nat} {d : DD} {w' : World} (h : Cq w ao cap d w') : cells6 w.heap.size d.k d.c d.p (.slice ao d.vs.length cap) d.s d.t w' :=
  ⟨h.bx.c0, h.bx.c1, h.bx.c2, h.bx.c3, h.bx.c4, h.bx.c5⟩

theorem cells_set {w : World} {B r : Nat} {k : Int} {c p s t : List UInt8} {v : Value} {v0 v1 v2 v3 v4 v5 : Value} (h : cells6 B k c p v s t w) (hr : B ≠ r) :
    cells6 B k c p v s t ((((((w.setCell ⟨r, 0, none⟩ v0).setCell ⟨r, 1, none⟩ v1).setCell ⟨r, 2, none⟩ v2).setCell ⟨r, 3, none⟩ v3).setCell ⟨r, 4, none⟩ v4).setCell ⟨r, 5, none⟩ v5) := by
  have hne : ∀ (w : World) (i j : Nat) (v : Value), (w.setCell ⟨r, j, none⟩ v).cell? ⟨B, i, none⟩ = w.cell? ⟨B, i, none⟩ := fun w i j v => World.cell?_setCell_other _ _ _ _ (fun e => hr (by cases e; rfl))
  unfold cells6
  simp only [hne]
  exact h

/-- What Texts answers: the texts in memory of their own. -/
def TxPost (w : World) (vs : List (List UInt8)) (e : Ending) (w' : World) : Prop :=
  ∃ ao cap, e = .returned (.slice ao vs.length cap) ∧ w'.ownsRow w.heap.size 9 1 (.slice ao vs.length cap) vs.length (strs vs) ∧ Kept (fun _ => False) w w'

set_option maxHeartbeats 800000 in
set_option maxRecDepth 100000 in
theorem otexts_any (vs : List (List UInt8)) (ao : Option Addr) (cap : Nat) (B : Nat) (w : World) (hA : Lies w B ao (strs vs)) (hn : vs.length ≤ 1000000) (hv : ∀ x ∈ vs, x.length ≤ 1000000) :
    Calls Tryz.prog 43 #[.slice ao vs.length cap] w (TxPost w vs) := by
  obtain ⟨i0, hi, hz0, hz1, hz2⟩ := info_parts Tryz.infoStr
  have HA := Lib.hid hA; have HV := Lib.hid hv
  clear hA hv
  go_enter Tryz.func43, Tryz.ntmps43
  go_wp2
  go_loopg [3, 8] vs.length (fun k v c wr => ∃ j, k = vs.length - j ∧ j ≤ vs.length ∧ c = .int .i64 (j : Int) ∧ wr.ownsRow w.heap.size 9 1 v j (strs (vs.take j)) ∧ Kept (fun _ => False) w wr)
  case atStart => exact ⟨0, rfl, Nat.zero_le _, rfl, World.ownsRow_nil _ _ _ _, Kept.refl _ _⟩
  case round =>
    obtain ⟨j, hk, hj, rfl, hown, hq⟩ := hrel
    have HK := Lib.hid hk; have HO := Lib.hid hown; have HQ := Lib.hid hq
    clear hk hown hq
    by_cases hlt : j < vs.length
    · obtain ⟨xb, xo, rfl, hxb, hc⟩ := HA.out (by intro h; simp [strs] at h; rw [h] at hlt; simp at hlt)
      have hx : wr.cell? ⟨xb, xo + j, none⟩ = some (.string (bs vs[j])) := by
        have h1 := hc j (.string (bs vs[j])) (by simp [strs, hlt])
        exact (HQ.out.cell (p := ⟨xb, xo + j, none⟩) (World.block_lt_of_cell? _ _ h1) (fun h => h)).trans h1
      have htk : strs (vs.take j) ++ [.string (bs vs[j])] = strs (vs.take (j + 1)) := by
        unfold strs
        rw [List.take_add_one, List.getElem?_eq_getElem hlt, Option.toList_some, List.map_append]
        rfl
      have hxl := HV.out vs[j] (List.getElem_mem hlt)
      have i1 : (j : Int) < (vs.length : Int) := by omega
      clear hc
      generalize vs[j] = x at *
      have HS := Lib.hid (fun w => sclone_any x w (by omega))
      have HT := Lib.hid htk; clear htk hxl
      go_wp2_with fail
      refine (HS.out _).mono ?_
      rintro e w3 ⟨rfl, k3⟩
      have ho3 := owns_base (base' := 0) (owns_kept HO.out k3 (fun _ _ h => h)) (fun _ _ => Nat.zero_le _)
      have HLO := Lib.hid (owns_lt HO.out)
      have Q3 := Lib.hid (HQ.out.trans k3 (fun _ _ h => h))
      have hz3 := Q3.out.size
      have HO3 := Lib.hid ho3; clear ho3 k3 hx
      go_wp2_with (at_builtin; refine wpList_app _ rfl (.tmp 12) (.tmp 15) 22 22 rfl 9 i0 (.string ⟨#[]⟩) 1 16 Tryz.underlying22 hi hz0 hz1 hz2 rfl _ _ _ rfl (HO3.out.alloc _) (.slice (some ⟨w3.heap.size, 0, none⟩) 1 1) 1 [.string (bs x)] rfl (src_one Tryz.underlying22 w3 _ _ rfl) ?b1 ?b2 ?next)
      case b1 => unfold maxLen; omega
      case b2 => omega
      case next =>
        intro v' w4 ho4 hg4 hb4 _
        have hrow : ∀ k, v'.ownBlock = some k → w.heap.size ≤ k := fun k hk => by
          rcases hb4 with hb4 | hb4
          · rw [hb4] at hk; exact (HLO.out k hk).1
          · rw [hb4] at hk; cases hk; omega
        have k4 : Kept (fun k => w.heap.size ≤ k) w3 w4 := Kept.grown ((Kept.refl _ w3).alloc _) hg4 (fun k hk _ => (HLO.out k hk).1)
        have HO5 := Lib.hid (owns_base (base' := w.heap.size) ho4 hrow)
        have Q4 := Lib.hid (show Kept (fun _ => False) w w4 from Q3.out.trans k4 (fun i hi h => by omega))
        clear ho4 hg4 hb4 hrow k4
        go_wp2
        go_roundg (vs.length - (j + 1))
        case measure => have := HK.out; omega
        case rel => exact ⟨j + 1, rfl, by omega, by go_num, by rw [← HT.out]; exact HO5.out, Q4.out⟩
    · obtain rfl : j = vs.length := by omega
      have ho := HO.out
      rw [List.take_length] at ho
      obtain ⟨aoL, capL, rfl⟩ := owns_slice ho
      have HOO := Lib.hid ho; clear ho hlt
      go_wp2
      go_ret
      exact ⟨aoL, capL, rfl, HOO.out, HQ.out⟩

set_option maxHeartbeats 1600000 in
set_option maxRecDepth 100000 in
theorem copy_any (d : DD) (ao : Option Addr) (cap : Nat) (B : Nat) (w : World) (hA : Lies w B ao (strs d.vs)) (hl : Len8 d) :
    Calls Tryz.prog 58 #[.agg #[.int .i64 d.k, .string (bs d.c), .string (bs d.p), .slice ao d.vs.length cap, .string (bs d.s), .string (bs d.t)]] w (CpPost w d) := by
  have C0 := Lib.hid (cq_new w ao cap d)
  have hc := hl.c; have hp := hl.p; have hs := hl.s; have ht := hl.t
  have H1 := Lib.hid (fun w => sclone_any d.c w (by omega))
  have H2 := Lib.hid (fun w => sclone_any d.p w (by omega))
  have H3 := Lib.hid (fun w => sclone_any d.s w (by omega))
  have H4 := Lib.hid (fun w => sclone_any d.t w (by omega))
  have HT := Lib.hid (fun (wx : World) (h : Kept (fun _ => False) w wx) => otexts_any d.vs ao cap B wx (hA.kept h (fun _ _ _ h => h)) hl.n hl.v)
  clear hA hl hc hp hs ht
  go_enter Tryz.func58, Tryz.ntmps58
  go_upto_region 1 with fail
  have QD := Lib.hid (C0.out.kept (S := fun _ => False) (Kept.drew (Kept.refl _ _)) (fun _ h => h.elim))
  generalize hdc : d.c = dc at *
  generalize hdp : d.p = dp at *
  generalize hds : d.s = ds at *
  generalize hdt : d.t = dt at *
  have hS := QD.out.cells
  rw [hdc, hdp, hds, hdt] at hS
  have E1 := Lib.hid hdc; have E2 := Lib.hid hdp; have E3 := Lib.hid hds; have E4 := Lib.hid hdt
  clear hdc hdp hds hdt
  go_region_held (cells6 w.heap.size d.k dc dp (.slice ao d.vs.length cap) ds dt) (first | with_reducible assumption | exact cells_set hS5 (Nat.ne_of_lt (Nat.lt_succ_self _))) (first
    | (go_at_call_of 42 (Value.string (bs dc)); refine (H1.out _).mono ?_; rintro e w1 ⟨rfl, k1⟩; have Q1 := Lib.hid (QD.out.kept k1 (fun _ h => h.elim)); have hS1 := Q1.out.cells; rw [E1.out, E2.out, E3.out, E4.out] at hS1; clear k1)
    | (go_at_call_of 42 (Value.string (bs dp)); refine (H2.out _).mono ?_; rintro e w2 ⟨rfl, k2⟩; have Q2 := Lib.hid (Q1.out.kept k2 (fun _ h => h.elim)); have hS2 := Q2.out.cells; rw [E1.out, E2.out, E3.out, E4.out] at hS2; clear k2)
    | (go_at_call 43; refine (HT.out _ Q2.out.k).mono ?_; rintro e w3 ⟨aoL, capL, rfl, ho3, k3⟩; have Q3 := Lib.hid (Q2.out.kept k3 (fun _ h => h.elim)); have hS3 := Q3.out.cells; rw [E1.out, E2.out, E3.out, E4.out] at hS3; have O3 := Lib.hid (owns_base (base' := w.heap.size + 2) ho3 (fun k hk => Nat.le_trans Q2.out.sz (owns_lt ho3 k hk).1)); clear k3 ho3)
    | (go_at_call_of 42 (Value.string (bs ds)); refine (H3.out _).mono ?_; rintro e w4 ⟨rfl, k4⟩; have Q4 := Lib.hid (Q3.out.kept k4 (fun _ h => h.elim)); have hS4 := Q4.out.cells; rw [E1.out, E2.out, E3.out, E4.out] at hS4; have O4 := Lib.hid (owns_kept O3.out k4 (fun _ _ h => h)); clear k4)
    | (go_at_call_of 42 (Value.string (bs dt)); refine (H4.out _).mono ?_; rintro e w5 ⟨rfl, k5⟩; have Q5 := Lib.hid (Q4.out.kept k5 (fun _ h => h.elim)); have hS5 := Q5.out.cells; rw [E1.out, E2.out, E3.out, E4.out] at hS5; have O5 := Lib.hid (owns_kept O4.out k5 (fun _ _ h => h)); obtain ⟨⟨x0, x1, x2, x3, x4, x5⟩, f0, f1, f2, f3, f4, f5⟩ := Q5.out.rs; clear k5))
  all_goals go_wp2
  have e1 := E1.out; have e2 := E2.out; have e3 := E3.out; have e4 := E4.out
  subst e1 e2 e3 e4
  have hb := Q5.out.rs.set aoL capL d
  refine bodyPost_ret (results_box rfl rfl (load_def hb.bx)) rfl ?_
  exact ⟨aoL, capL, rfl, owns_base (owns_kept O5.out (kept_setD w5 (w.heap.size + 1) aoL capL d) (fun k hk e => by have := (owns_lt O5.out k hk).1; omega)) (fun k hk => by have := (owns_lt O5.out k hk).1; omega), kept_setD' Q5.out.k (Nat.le_succ _)⟩

end Go.Proofs.YtjnpmbdehalmpaaGreat
