/-
  HOW A DEFINITION IS READ, over lists (plain), and a box that fields are stored into.
-/
import Derived.Test.YtofpnlmlenffnaaDoorGRd
import Derived.Test.YtofpnlmlenffnaaDoorGNe
namespace Go.Proofs.YtofpnlmlenffnaaDoor
open Go.RowKit Go.Mk

/-- The fields behind a kind. -/
def fieldsR (s : RS) : RS × DD :=
  if s.num.2 = 1 then (s.num.1.text.1.text.1.texts.1, ⟨1, s.num.1.text.2, s.num.1.text.1.text.2, s.num.1.text.1.text.1.texts.2, [], []⟩)
  else if s.num.2 = 2 then (s.num.1.text.1.text.1.text.1, ⟨2, s.num.1.text.2, [], [], s.num.1.text.1.text.2, s.num.1.text.1.text.1.text.2⟩)
  else (s.num.1, ⟨s.num.2, [], [], [], [], []⟩)

/-- What a reading answers: a definition and an error. -/
def judgeR (r : RS × DD) : DD × Int := if r.1.err ≠ 0 then (zeroD, r.1.err) else if rightD r.2 = true then (r.2, 0) else (zeroD, 31)

/-- A box of six cells that may be stored into. -/
structure Bz (w : World) (b : Nat) (ao : Option Addr) (cap : Nat) (d : DD) : Prop where
  bx : Bx w b ao cap d
  f0 : w.frozen? ⟨b, 0, none⟩ = false
  f1 : w.frozen? ⟨b, 1, none⟩ = false
  f2 : w.frozen? ⟨b, 2, none⟩ = false
  f3 : w.frozen? ⟨b, 3, none⟩ = false
  f4 : w.frozen? ⟨b, 4, none⟩ = false
  f5 : w.frozen? ⟨b, 5, none⟩ = false

theorem Bz.lt {w : World} {b : Nat} {ao : Option Addr} {cap : Nat} {d : DD} (h : Bz w b ao cap d) : b < w.heap.size := World.block_lt_of_cell? _ _ h.bx.c0

theorem Bz.kept {S : Nat → Prop} {w w' : World} {b : Nat} {ao : Option Addr} {cap : Nat} {d : DD} (h : Bz w b ao cap d) (hk : Kept S w w') (hb : ¬ S b) : Bz w' b ao cap d := by
  have hlt := h.lt
  exact ⟨h.bx.kept hk hb, (hk.frozen (p := ⟨b, 0, none⟩) hlt hb).trans h.f0, (hk.frozen (p := ⟨b, 1, none⟩) hlt hb).trans h.f1, (hk.frozen (p := ⟨b, 2, none⟩) hlt hb).trans h.f2, (hk.frozen (p := ⟨b, 3, none⟩) hlt hb).trans h.f3, (hk.frozen (p := ⟨b, 4, none⟩) hlt hb).trans h.f4, (hk.frozen (p := ⟨b, 5, none⟩) hlt hb).trans h.f5⟩

theorem bz_new (w : World) (ao : Option Addr) (cap : Nat) (d : DD) (t : TypeId) : Bz (w.alloc (.cells #[.int .i64 d.k, .string (bs d.c), .string (bs d.p), .slice ao d.vs.length cap, .string (bs d.s), .string (bs d.t)] t)) w.heap.size ao cap d :=
  ⟨bx_new w ao cap d t, by simp, by simp, by simp, by simp, by simp, by simp⟩

theorem Bz.put1 {w : World} {b : Nat} {ao : Option Addr} {cap : Nat} {d : DD} (h : Bz w b ao cap d) (l : List UInt8) : Bz (w.setCell ⟨b, 1, none⟩ (.string (bs l))) b ao cap { d with c := l } := by
  refine ⟨⟨?_, World.cell?_setCell_same _ _ _ h.bx.c1, ?_, ?_, ?_, ?_⟩, ?_, ?_, ?_, ?_, ?_, ?_⟩
  all_goals first | (rw [World.cell?_setCell_other _ _ _ _ (by simp)]; first | exact h.bx.c0 | exact h.bx.c1 | exact h.bx.c2 | exact h.bx.c3 | exact h.bx.c4 | exact h.bx.c5) | (rw [World.frozen?_setCell]; first | exact h.f0 | exact h.f1 | exact h.f2 | exact h.f3 | exact h.f4 | exact h.f5)

theorem Bz.put2 {w : World} {b : Nat} {ao : Option Addr} {cap : Nat} {d : DD} (h : Bz w b ao cap d) (l : List UInt8) : Bz (w.setCell ⟨b, 2, none⟩ (.string (bs l))) b ao cap { d with p := l } := by
  refine ⟨⟨?_, ?_, World.cell?_setCell_same _ _ _ h.bx.c2, ?_, ?_, ?_⟩, ?_, ?_, ?_, ?_, ?_, ?_⟩
  all_goals first | (rw [World.cell?_setCell_other _ _ _ _ (by simp)]; first | exact h.bx.c0 | exact h.bx.c1 | exact h.bx.c2 | exact h.bx.c3 | exact h.bx.c4 | exact h.bx.c5) | (rw [World.frozen?_setCell]; first | exact h.f0 | exact h.f1 | exact h.f2 | exact h.f3 | exact h.f4 | exact h.f5)

theorem Bz.put3 {w : World} {b : Nat} {ao ao' : Option Addr} {cap cap' : Nat} {d : DD} (h : Bz w b ao cap d) (l : List (List UInt8)) : Bz (w.setCell ⟨b, 3, none⟩ (.slice ao' l.length cap')) b ao' cap' { d with vs := l } := by
  refine ⟨⟨?_, ?_, ?_, World.cell?_setCell_same _ _ _ h.bx.c3, ?_, ?_⟩, ?_, ?_, ?_, ?_, ?_, ?_⟩
  all_goals first | (rw [World.cell?_setCell_other _ _ _ _ (by simp)]; first | exact h.bx.c0 | exact h.bx.c1 | exact h.bx.c2 | exact h.bx.c3 | exact h.bx.c4 | exact h.bx.c5) | (rw [World.frozen?_setCell]; first | exact h.f0 | exact h.f1 | exact h.f2 | exact h.f3 | exact h.f4 | exact h.f5)

theorem Bz.put4 {w : World} {b : Nat} {ao : Option Addr} {cap : Nat} {d : DD} (h : Bz w b ao cap d) (l : List UInt8) : Bz (w.setCell ⟨b, 4, none⟩ (.string (bs l))) b ao cap { d with s := l } := by
  refine ⟨⟨?_, ?_, ?_, ?_, World.cell?_setCell_same _ _ _ h.bx.c4, ?_⟩, ?_, ?_, ?_, ?_, ?_, ?_⟩
  all_goals first | (rw [World.cell?_setCell_other _ _ _ _ (by simp)]; first | exact h.bx.c0 | exact h.bx.c1 | exact h.bx.c2 | exact h.bx.c3 | exact h.bx.c4 | exact h.bx.c5) | (rw [World.frozen?_setCell]; first | exact h.f0 | exact h.f1 | exact h.f2 | exact h.f3 | exact h.f4 | exact h.f5)

theorem Bz.put5 {w : World} {b : Nat} {ao : Option Addr} {cap : Nat} {d : DD} (h : Bz w b ao cap d) (l : List UInt8) : Bz (w.setCell ⟨b, 5, none⟩ (.string (bs l))) b ao cap { d with t := l } := by
  refine ⟨⟨?_, ?_, ?_, ?_, ?_, World.cell?_setCell_same _ _ _ h.bx.c5⟩, ?_, ?_, ?_, ?_, ?_, ?_⟩
  all_goals first | (rw [World.cell?_setCell_other _ _ _ _ (by simp)]; first | exact h.bx.c0 | exact h.bx.c1 | exact h.bx.c2 | exact h.bx.c3 | exact h.bx.c4 | exact h.bx.c5) | (rw [World.frozen?_setCell]; first | exact h.f0 | exact h.f1 | exact h.f2 | exact h.f3 | exact h.f4 | exact h.f5)

theorem Bz.put0 {w : World} {b : Nat} {ao : Option Addr} {cap : Nat} {d : DD} (h : Bz w b ao cap d) (k : Int) : Bz (w.setCell ⟨b, 0, none⟩ (.int .i64 k)) b ao cap { d with k := k } := by
  refine ⟨⟨World.cell?_setCell_same _ _ _ h.bx.c0, ?_, ?_, ?_, ?_, ?_⟩, ?_, ?_, ?_, ?_, ?_, ?_⟩
  all_goals first | (rw [World.cell?_setCell_other _ _ _ _ (by simp)]; first | exact h.bx.c0 | exact h.bx.c1 | exact h.bx.c2 | exact h.bx.c3 | exact h.bx.c4 | exact h.bx.c5) | (rw [World.frozen?_setCell]; first | exact h.f0 | exact h.f1 | exact h.f2 | exact h.f3 | exact h.f4 | exact h.f5)

/-- A whole definition is stored. -/
def setD (w : World) (r : Nat) (ao : Option Addr) (cap : Nat) (d : DD) : World :=
  (((((w.setCell ⟨r, 0, none⟩ (.int .i64 d.k)).setCell ⟨r, 1, none⟩ (.string (bs d.c))).setCell ⟨r, 2, none⟩ (.string (bs d.p))).setCell ⟨r, 3, none⟩ (.slice ao d.vs.length cap)).setCell ⟨r, 4, none⟩ (.string (bs d.s))).setCell ⟨r, 5, none⟩ (.string (bs d.t))

theorem Bz.set {w : World} {r : Nat} {ao0 : Option Addr} {cap0 : Nat} {d0 : DD} (h : Bz w r ao0 cap0 d0) (ao : Option Addr) (cap : Nat) (d : DD) : Bz (setD w r ao cap d) r ao cap d :=
  ((((((h.put0 d.k).put1 d.c).put2 d.p).put3 (ao' := ao) (cap' := cap) d.vs).put4 d.s).put5 d.t)

theorem kept_setD (w : World) (r : Nat) (ao : Option Addr) (cap : Nat) (d : DD) : Kept (fun k => k = r) w (setD w r ao cap d) :=
  Kept.setCell (p := ⟨r, 5, none⟩) (Kept.setCell (p := ⟨r, 4, none⟩) (Kept.setCell (p := ⟨r, 3, none⟩) (Kept.setCell (p := ⟨r, 2, none⟩) (Kept.setCell (p := ⟨r, 1, none⟩) (Kept.setCell (S := fun k => k = r) (p := ⟨r, 0, none⟩) (Kept.refl _ w) (fun _ => rfl) _) (fun _ => rfl) _) (fun _ => rfl) _) (fun _ => rfl) _) (fun _ => rfl) _) (fun _ => rfl) _

theorem kept_setD' {S : Nat → Prop} {w wx : World} {r : Nat} {ao : Option Addr} {cap : Nat} {d : DD} (h : Kept S w wx) (hr : w.heap.size ≤ r) : Kept S w (setD wx r ao cap d) :=
  h.trans (kept_setD wx r ao cap d) (fun i hi e => by omega)

theorem results_box {P : Program} {fn : Func} {t : Tmp} {ty : TypeId} (h : fn.results = #[.cell t ty]) {tmps : Array Value} {w : World} {r : Nat} {v : Value} (ht : tmps.getD t undef = .pointer (some ⟨r, 0, none⟩)) (hl : (loadVar ty ⟨r, 0, none⟩).run P w = .ok v w) : (results fn tmps).run P w = .ok v w := by
  have ht' : tmps[t]?.getD undef = .pointer (some ⟨r, 0, none⟩) := by simpa using ht
  simp [results, h, ht', asAddr, hl]

theorem results_box2 {P : Program} {fn : Func} {t u : Tmp} {ty : TypeId} (h : fn.results = #[.cell t ty, .tmp u]) {tmps : Array Value} {w : World} {r : Nat} {v : Value} (ht : tmps.getD t undef = .pointer (some ⟨r, 0, none⟩)) (hl : (loadVar ty ⟨r, 0, none⟩).run P w = .ok v w) : (results fn tmps).run P w = .ok (.tuple #[v, tmps.getD u undef]) w := by
  have ht' : tmps[t]?.getD undef = .pointer (some ⟨r, 0, none⟩) := by simpa using ht
  simp [results, h, ht', asAddr, hl]

/-- What a call keeps that writes into block x only, which lies behind w. -/
theorem kept_put {w wx : World} {b x i : Nat} {v : Value} (h : Kept (fun k => k = b) w wx) (hx : w.heap.size ≤ x) : Kept (fun k => k = b) w (wx.setCell ⟨x, i, none⟩ v) :=
  Kept.setCell (p := ⟨x, i, none⟩) h (fun hlt => by simp at hlt; omega) v

theorem kept_at (w : World) (x i : Nat) (v : Value) : Kept (fun k => k = x) w (w.setCell ⟨x, i, none⟩ v) := Kept.setCell (S := fun k => k = x) (p := ⟨x, i, none⟩) (Kept.refl _ w) (fun _ => rfl) v

/-- The program's reader, the box that is filled, and the box of the result, in a world behind w. -/
structure Fl (w : World) (D : Nat → Prop) (b : Nat) (r x : Nat) (ao : Option Addr) (cap : Nat) (s : RS) (d : DD) (wx : World) : Prop where
  rd : ∃ a c, Rd wx D b a c s
  res : Bz wx r none 0 zeroD
  box : Bz wx x ao cap d
  own : wx.ownsRow w.heap.size 9 1 (.slice ao d.vs.length cap) d.vs.length (strs d.vs)
  k : Kept (fun k => k = b) w wx
  ne : b < w.heap.size
  hr : w.heap.size ≤ r
  hx : w.heap.size ≤ x
  rx : r ≠ x
  hD : ∀ k, D k → k < w.heap.size
  ob : ∀ k, (Value.slice ao d.vs.length cap).ownBlock = some k → k ≠ x ∧ k ≠ r

/-- The reader has gone on. -/
theorem Fl.step {w : World} {D : Nat → Prop} {b r x : Nat} {ao : Option Addr} {cap : Nat} {s s' : RS} {d : DD} {wx wy : World} (h : Fl w D b r x ao cap s d wx) (hr : ∃ a c, Rd wy D b a c s') (hk : Kept (fun k => k = b) wx wy) : Fl w D b r x ao cap s' d wy :=
  ⟨hr, h.res.kept hk (by have := h.hr; have := h.ne; omega), h.box.kept hk (by have := h.hx; have := h.ne; omega), owns_kept h.own hk (fun k hk e => by have := (owns_lt h.own k hk).1; have := h.ne; omega), h.k.trans hk (fun _ _ h => h), h.ne, h.hr, h.hx, h.rx, h.hD, h.ob⟩

theorem Fl.rdput {w : World} {D : Nat → Prop} {b r x : Nat} {ao : Option Addr} {cap : Nat} {s : RS} {d : DD} {wx : World} (h : Fl w D b r x ao cap s d wx) (i : Nat) (v : Value) : ∃ a c, Rd (wx.setCell ⟨x, i, none⟩ v) D b a c s := by
  obtain ⟨a, c, hr⟩ := h.rd
  exact ⟨a, c, hr.kept (kept_at wx x i v) (by have := h.hx; have := h.ne; omega) (fun k _ hd e => by have := h.hD k hd; have := h.hx; omega)⟩

theorem Fl.put {w : World} {D : Nat → Prop} {b r x : Nat} {ao : Option Addr} {cap : Nat} {s : RS} {d d' : DD} {wx : World} (h : Fl w D b r x ao cap s d wx) (i : Nat) (v : Value) (hb : Bz (wx.setCell ⟨x, i, none⟩ v) x ao cap d') (hv : d'.vs = d.vs) : Fl w D b r x ao cap s d' (wx.setCell ⟨x, i, none⟩ v) :=
  ⟨h.rdput i v, h.res.kept (kept_at wx x i v) h.rx, hb, by rw [hv]; exact owns_kept h.own (kept_at wx x i v) (fun k hk => (h.ob k hk).1), kept_put h.k h.hx, h.ne, h.hr, h.hx, h.rx, h.hD, by rw [hv]; exact h.ob⟩

theorem Fl.put3 {w : World} {D : Nat → Prop} {b r x : Nat} {ao ao' : Option Addr} {cap cap' z : Nat} {s : RS} {d : DD} {wx : World} (h : Fl w D b r x ao cap s d wx) (l : List (List UInt8)) (ho : wx.ownsRow z 9 1 (.slice ao' l.length cap') l.length (strs l)) (h1 : x < z) (h2 : r < z) :
    Fl w D b r x ao' cap' s { d with vs := l } (wx.setCell ⟨x, 3, none⟩ (.slice ao' l.length cap')) :=
  ⟨h.rdput 3 _, h.res.kept (kept_at wx x 3 _) h.rx, h.box.put3 l, owns_base (owns_kept ho (kept_at wx x 3 _) (fun k hk e => by have := (owns_lt ho k hk).1; omega)) (fun k hk => by have := (owns_lt ho k hk).1; have := h.hx; omega), kept_put h.k h.hx, h.ne, h.hr, h.hx, h.rx, h.hD,
    fun k hk => by have := (owns_lt ho k hk).1; omega⟩

end Go.Proofs.YtofpnlmlenffnaaDoor
