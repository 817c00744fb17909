/-
  Lemmas towards the claim of this folder: contracts of the functions that the law reaches; joined texts.
-/
import Derived.Test.YtjnpmbdehalmpaaGreatGKp
import Derived.Test.YtjnpmbdehalmpaaGreatGPt
import Derived.Test.YtjnpmbdehalmpaaGreatGKd
/-
  A PACKAGE's box that is stored into; lengths of what is read.
-/
namespace Go.Proofs.YtjnpmbdehalmpaaGreat
open Go.RowKit Go.Mk Go.Maps

def zeroPE : PE := ⟨[], 0, none, 0, [], ⟨none, 0, []⟩⟩

/-- A package in a box of four cells. -/
structure Bp (w : World) (b : Nat) (p : PE) : Prop where
  c : ceP b p.n p.v (.slice p.na p.ns.length p.nc) (.slice p.ds.ao p.ds.es.length p.ds.cap) w
  f0 : w.frozen? ⟨b, 0, none⟩ = false
  f1 : w.frozen? ⟨b, 1, none⟩ = false
  f2 : w.frozen? ⟨b, 2, none⟩ = false
  f3 : w.frozen? ⟨b, 3, none⟩ = false

theorem Bp.lt {w : World} {b : Nat} {p : PE} (h : Bp w b p) : b < w.heap.size := World.block_lt_of_cell? _ _ h.c.1

theorem Bp.kept {S : Nat → Prop} {w w' : World} {b : Nat} {p : PE} (h : Bp w b p) (hk : Kept S w w') (hb : ¬ S b) : Bp w' b p := by
  have hlt := h.lt
  exact ⟨ceP_kept h.c hk hb, (hk.frozen (p := ⟨b, 0, none⟩) hlt hb).trans h.f0, (hk.frozen (p := ⟨b, 1, none⟩) hlt hb).trans h.f1, (hk.frozen (p := ⟨b, 2, none⟩) hlt hb).trans h.f2, (hk.frozen (p := ⟨b, 3, none⟩) hlt hb).trans h.f3⟩

theorem bp_new (w : World) (p : PE) (t : TypeId) : Bp (w.alloc (.cells #[.string (bs p.n), .int .i64 p.v, .slice p.na p.ns.length p.nc, .slice p.ds.ao p.ds.es.length p.ds.cap] t)) w.heap.size p :=
  ⟨ceP_new w _ _ _ _ t, by simp, by simp, by simp, by simp⟩

theorem Bp.put0 {w : World} {b : Nat} {p : PE} (h : Bp w b p) (n : List UInt8) : Bp (w.setCell ⟨b, 0, none⟩ (.string (bs n))) b { p with n := n } := by
  refine ⟨⟨World.cell?_setCell_same _ _ _ h.c.1, ?_, ?_, ?_⟩, ?_, ?_, ?_, ?_⟩
  all_goals first | (rw [World.cell?_setCell_other _ _ _ _ (by simp)]; first | exact h.c.2.1 | exact h.c.2.2.1 | exact h.c.2.2.2) | (rw [World.frozen?_setCell]; first | exact h.f0 | exact h.f1 | exact h.f2 | exact h.f3)
theorem Bp.put1 {w : World} {b : Nat} {p : PE} (h : Bp w b p) (v : Int) : Bp (w.setCell ⟨b, 1, none⟩ (.int .i64 v)) b { p with v := v } := by
  refine ⟨⟨?_, World.cell?_setCell_same _ _ _ h.c.2.1, ?_, ?_⟩, ?_, ?_, ?_, ?_⟩
  all_goals first | (rw [World.cell?_setCell_other _ _ _ _ (by simp)]; first | exact h.c.1 | exact h.c.2.2.1 | exact h.c.2.2.2) | (rw [World.frozen?_setCell]; first | exact h.f0 | exact h.f1 | exact h.f2 | exact h.f3)
theorem Bp.put2 {w : World} {b : Nat} {p : PE} (h : Bp w b p) (na : Option Addr) (nc : Nat) (ns : List (List UInt8)) : Bp (w.setCell ⟨b, 2, none⟩ (.slice na ns.length nc)) b { p with na := na, nc := nc, ns := ns } := by
  refine ⟨⟨?_, ?_, World.cell?_setCell_same _ _ _ h.c.2.2.1, ?_⟩, ?_, ?_, ?_, ?_⟩
  all_goals first | (rw [World.cell?_setCell_other _ _ _ _ (by simp)]; first | exact h.c.1 | exact h.c.2.1 | exact h.c.2.2.2) | (rw [World.frozen?_setCell]; first | exact h.f0 | exact h.f1 | exact h.f2 | exact h.f3)
theorem Bp.put3 {w : World} {b : Nat} {p : PE} (h : Bp w b p) (s : SD) : Bp (w.setCell ⟨b, 3, none⟩ (.slice s.ao s.es.length s.cap)) b { p with ds := s } := by
  refine ⟨⟨?_, ?_, ?_, World.cell?_setCell_same _ _ _ h.c.2.2.2⟩, ?_, ?_, ?_, ?_⟩
  all_goals first | (rw [World.cell?_setCell_other _ _ _ _ (by simp)]; first | exact h.c.1 | exact h.c.2.1 | exact h.c.2.2.1) | (rw [World.frozen?_setCell]; first | exact h.f0 | exact h.f1 | exact h.f2 | exact h.f3)

/-- A whole package is stored. -/
def setK (w : World) (r : Nat) (p : PE) : World :=
  (((w.setCell ⟨r, 0, none⟩ (.string (bs p.n))).setCell ⟨r, 1, none⟩ (.int .i64 p.v)).setCell ⟨r, 2, none⟩ (.slice p.na p.ns.length p.nc)).setCell ⟨r, 3, none⟩ (.slice p.ds.ao p.ds.es.length p.ds.cap)

theorem Bp.set {w : World} {r : Nat} {p0 : PE} (h : Bp w r p0) (p : PE) : Bp (setK w r p) r p := (((h.put0 p.n).put1 p.v).put2 p.na p.nc p.ns).put3 p.ds

theorem kept_setK (w : World) (r : Nat) (p : PE) : Kept (fun k => k = r) w (setK w r p) :=
  Kept.setCell (p := ⟨r, 3, none⟩) (Kept.setCell (p := ⟨r, 2, none⟩) (Kept.setCell (p := ⟨r, 1, none⟩) (Kept.setCell (S := fun k => k = r) (p := ⟨r, 0, none⟩) (Kept.refl _ w) (fun _ => rfl) _) (fun _ => rfl) _) (fun _ => rfl) _) (fun _ => rfl) _

theorem load_pk {w : World} {r : Nat} {p : PE} (h : Bp w r p) : (loadVar 25 ⟨r, 0, none⟩).run Tryz.prog w = .ok (.agg #[.string (bs p.n), .int .i64 p.v, .slice p.na p.ns.length p.nc, .slice p.ds.ao p.ds.es.length p.ds.cap]) w := by
  have hl := run_loadCells_list (P := Tryz.prog) w ⟨r, 0, none⟩ [.string (bs p.n), .int .i64 p.v, .slice p.na p.ns.length p.nc, .slice p.ds.ao p.ds.es.length p.ds.cap] (fun j v hj => by
    rw [Addr.add_lit, Nat.zero_add]
    match j, hj with
    | 0, hj => cases hj; exact h.c.1
    | 1, hj => cases hj; exact h.c.2.1
    | 2, hj => cases hj; exact h.c.2.2.1
    | 3, hj => cases hj; exact h.c.2.2.2
    | j + 4, hj => simp at hj)
  have hs := Tryz.sizeOf25
  have ha := Tryz.isAgg25
  unfold loadVar
  simp only [Sem.run_bind, ha, hs, Result.andThen, if_pos]
  simp only [List.length_cons, List.length_nil, Nat.reduceAdd] at hl
  simp [hl]

theorem many_small : ∀ (n : Nat) (s : RS), ∀ x ∈ (RS.many n s).2, x.length ≤ s.rest.length
  | 0, s, x, hx => by rw [RS.many] at hx; cases hx
  | n + 1, s, x, hx => by
    rw [RS.many] at hx
    split at hx
    · cases hx
    · rcases List.mem_cons.1 hx with rfl | hx
      · exact text_len2 s
      · exact Nat.le_trans (many_small n s.text.1 x hx) (text_len1 s)

theorem head_len (s : RS) : s.head.rest.length ≤ s.rest.length := by
  have := num_len s
  unfold RS.head
  split
  · exact this
  · exact this

theorem texts_small (s : RS) : ∀ x ∈ s.texts.2, x.length ≤ s.rest.length := by
  intro x hx
  unfold RS.texts at hx
  split at hx
  · cases hx
  · exact Nat.le_trans (many_small _ _ x hx) (head_len s)

theorem texts_count (s : RS) : s.texts.2.length ≤ s.rest.length := by
  unfold RS.texts
  split
  · simp
  · rename_i h
    have h1 := many_cnt s.num.2.toNat s.head
    have h2 := num_len s
    by_cases hm : s.num.1.tooMany s.num.2 = true
    · have he : s.head.err = 10 := by unfold RS.head; rw [if_pos hm]
      rw [RS.many_end _ _ (.inr (by rw [he]; decide))]
      simp
    · by_cases hz : s.num.1.err = 0
      · have hn : ¬ (1000000 < s.num.2 ∨ (s.num.1.rest.length : Int) < s.num.2) := fun hh => hm (by unfold RS.tooMany; exact decide_eq_true ⟨hz, hh⟩)
        omega
      · have he : s.head.err ≠ 0 := by unfold RS.head; rw [if_neg hm]; exact hz
        rw [RS.many_end _ _ (.inr he)]
        simp

end Go.Proofs.YtjnpmbdehalmpaaGreat

/-
  Reading a PACKAGE's contents over lists; lists that stay where a package's box is stored into.
-/
namespace Go.Proofs.YtjnpmbdehalmpaaGreat
open Go.RowKit Go.Mk Go.Maps

/-- Contents that are read, valid or not. -/
def readC (l : List UInt8) : Int × PD :=
  if (hd1 l).1.err = 0 ∧ (hd1 l).2 ≠ 1297107783 then (11, zeroP)
  else if (hd4 l).1.err ≠ 0 then ((hd4 l).1.err, zeroP)
  else if (parseL (hd4 l).1.rest).1 ≠ 0 then ((parseL (hd4 l).1.rest).1, zeroP)
  else (0, ofP l)

theorem parseC_read (l : List UInt8) : parseC l = if (readC l).1 ≠ 0 then ((readC l).1, zeroP) else if rightPk (readC l).2 = true then (0, (readC l).2) else (2, zeroP) := by
  unfold parseC readC
  by_cases h1 : (hd1 l).1.err = 0 ∧ (hd1 l).2 ≠ 1297107783
  · rw [if_pos h1, if_pos h1, if_pos (by decide)]
  · rw [if_neg h1, if_neg h1]
    by_cases h2 : (hd4 l).1.err ≠ 0
    · rw [if_pos h2, if_pos h2, if_pos h2]
    · rw [if_neg h2, if_neg h2]
      by_cases h3 : (parseL (hd4 l).1.rest).1 ≠ 0
      · rw [if_pos h3, if_pos h3, if_pos h3]
      · rw [if_neg h3, if_neg h3, if_neg (show ¬ ((0 : Int), ofP l).1 ≠ 0 from fun h => h rfl)]

theorem hd_split {l : List UInt8} (h : (hd4 l).1.err = 0) : ∃ pre, l = pre ++ (hd4 l).1.rest := by
  obtain ⟨t1, t2⟩ := texts_inv (s := (hd3 l).1) h
  obtain ⟨v, _, v2⟩ := num_inv (s := (hd2 l).1) t2
  have v3 := num_err0 (s := (hd2 l).1) t2
  obtain ⟨x1, x2⟩ := text_inv (s := (hd1 l).1) v3
  obtain ⟨n, _, n2⟩ := num_inv (s := ⟨l, 0⟩) x2
  have q1 : (hd3 l).1.rest = encL (hd4 l).2 ++ (hd4 l).1.rest := t1
  have q2 : (hd2 l).1.rest = bigB 4 v ++ (hd3 l).1.rest := v2
  have q3 : (hd1 l).1.rest = encT (hd2 l).2 ++ (hd2 l).1.rest := x1
  have q4 : l = bigB 4 n ++ (hd1 l).1.rest := n2
  refine ⟨bigB 4 n ++ (encT (hd2 l).2 ++ (bigB 4 v ++ encL (hd4 l).2)), ?_⟩
  simp only [List.append_assoc]
  rw [← q1, ← q2, ← q3]
  exact q4

theorem texts_mill (s : RS) : s.texts.2.length ≤ 1000000 := by
  unfold RS.texts
  split
  · simp
  · rename_i h
    have h1 := many_cnt s.num.2.toNat s.head
    by_cases hm : s.num.1.tooMany s.num.2 = true
    · have he : s.head.err = 10 := by unfold RS.head; rw [if_pos hm]
      rw [RS.many_end _ _ (.inr (by rw [he]; decide))]
      simp
    · by_cases hz : s.num.1.err = 0
      · have hn : ¬ (1000000 < s.num.2 ∨ (s.num.1.rest.length : Int) < s.num.2) := fun hh => hm (by unfold RS.tooMany; exact decide_eq_true ⟨hz, hh⟩)
        omega
      · have he : s.head.err ≠ 0 := by unfold RS.head; rw [if_neg hm]; exact hz
        rw [RS.many_end _ _ (.inr he)]
        simp

theorem va_ne {x : List UInt8} (h : isVa x = true) : x ≠ [] := fun e => by rw [e] at h; cases h

theorem vars_ne {d : DD} (h : rightD d = true) : ∀ x ∈ d.vs, x ≠ [] := by
  intro x hx
  rcases right_kind h with hk | hk
  · rw [rightD_one hk] at h
    simp only [rightC, Bool.and_eq_true] at h
    obtain ⟨⟨⟨_, h3⟩, _⟩, _⟩ := h
    simp only [areVars, Bool.and_eq_true, decide_eq_true_eq] at h3
    obtain ⟨i, hi, rfl⟩ := List.mem_iff_getElem.1 hx
    have hv := List.all_eq_true.1 (show varsTo d.vs d.vs.length = true from h3.2) i (List.mem_range.2 hi)
    rw [varAt_lt hi] at hv
    simp only [Bool.and_eq_true] at hv
    exact va_ne hv.1
  · rw [rightD_two hk] at h
    simp only [rightM, Bool.and_eq_true] at h
    have e5 : d.vs = [] := by simpa using h.2
    rw [e5] at hx
    cases hx

/-- Texts stay where a slice of a package's box is stored. -/
theorem lies_slot {w : World} {B b i : Nat} {ao : Option Addr} {vs : List (List UInt8)} {u0 : Value} (h : Lies w B ao (strs vs)) (hc : w.cell? ⟨b, i, none⟩ = some u0) (hu : ∀ s, u0 ≠ .string s) (u : Value) : Lies (w.setCell ⟨b, i, none⟩ u) B ao (strs vs) := by
  intro hn
  obtain ⟨g, off, e, hb, hcs⟩ := h hn
  refine ⟨g, off, e, hb, fun j x hx => ?_⟩
  have h1 := hcs j x hx
  rw [World.cell?_setCell_other _ _ _ _ (fun e => by
    rw [e] at hc
    rw [hc] at h1
    have hxs : ∃ s, x = .string s := by
      unfold strs at hx
      rw [List.getElem?_map] at hx
      cases hg : vs[j]? with
      | none => rw [hg] at hx; cases hx
      | some y => rw [hg] at hx; cases hx; exact ⟨_, rfl⟩
    obtain ⟨s, rfl⟩ := hxs
    cases h1
    exact hu s rfl)]
  exact h1

/-- Texts that are not empty stay where a package is stored into an empty one's box. -/
theorem lies_setK {w : World} {B r : Nat} {ao : Option Addr} {vs : List (List UInt8)} (h : Lies w B ao (strs vs)) (hne : ∀ x ∈ vs, x ≠ []) (hr : Bp w r zeroPE) (q : PE) : Lies (setK w r q) B ao (strs vs) := by
  have h0 : Lies (w.setCell ⟨r, 0, none⟩ (.string (bs q.n))) B ao (strs vs) := by
    intro hn
    obtain ⟨g, off, e, hb, hcs⟩ := h hn
    refine ⟨g, off, e, hb, fun j x hx => ?_⟩
    have h1 := hcs j x hx
    rw [World.cell?_setCell_other _ _ _ _ (fun e => by
      have hc := hr.c.1
      rw [e] at hc
      rw [hc] at h1
      unfold strs at hx
      rw [List.getElem?_map] at hx
      cases hg : vs[j]? with
      | none => rw [hg] at hx; cases hx
      | some y =>
        rw [hg] at hx
        simp only [Option.map_some, Option.some.injEq] at hx h1
        rw [← hx] at h1
        have h2 : bs zeroPE.n = bs y := by injection h1
        exact hne y (List.mem_of_getElem? hg) (bs_inj h2).symm)]
    exact h1
  have b0 := hr.put0 q.n
  have h1 := lies_slot h0 b0.c.2.1 (fun s e => by cases e) (.int .i64 q.v)
  have b1 := b0.put1 q.v
  have h2 := lies_slot h1 b1.c.2.2.1 (fun s e => by cases e) (.slice q.na q.ns.length q.nc)
  have b2 := b1.put2 q.na q.nc q.ns
  exact lies_slot h2 b2.c.2.2.2 (fun s e => by cases e) (.slice q.ds.ao q.ds.es.length q.ds.cap)

theorem sds_setK {w : World} {r : Nat} {s : SD} (h : SDs w w.heap.size s) (hrow : s.es ≠ [] → ∀ a, s.ao = some a → a.block ≠ r) (hv : ∀ e ∈ s.es, rightD e.1 = true) (hr : Bp w r zeroPE) (q : PE) : SDs (setK w r q) (setK w r q).heap.size s := by
  have hk := kept_setK w r q
  refine ⟨⟨fun hn => ?_, fun e he => ⟨(lies_setK (h.ds.lies e he).1 (vars_ne (hv e he)) hr q).mono hk.size, (h.ds.lies e he).2⟩⟩, h.cap⟩
  obtain ⟨b, off, e1, hb, hc⟩ := h.ds.row hn
  exact ⟨b, off, e1, Nat.lt_of_lt_of_le hb hk.size, fun j hj => (hc j hj).kept hk (hrow hn _ e1)⟩

theorem sds_put3 {w : World} {b : Nat} {p : PE} {s : SD} (h : SDs w w.heap.size s) (hrow : s.es ≠ [] → ∀ a, s.ao = some a → a.block ≠ b) (hb : Bp w b p) (u : Value) : SDs (w.setCell ⟨b, 3, none⟩ u) (w.setCell ⟨b, 3, none⟩ u).heap.size s := by
  have hk := Kept.setCell (S := fun k => k = b) (p := ⟨b, 3, none⟩) (Kept.refl _ w) (fun _ => rfl) u
  refine ⟨⟨fun hn => ?_, fun e he => ⟨(lies_slot (h.ds.lies e he).1 hb.c.2.2.2 (fun s e => by cases e) u).mono hk.size, (h.ds.lies e he).2⟩⟩, h.cap⟩
  obtain ⟨g, off, e1, hg, hc⟩ := h.ds.row hn
  exact ⟨g, off, e1, Nat.lt_of_lt_of_le hg hk.size, fun j hj => (hc j hj).kept hk (hrow hn _ e1)⟩

/-- What read answers. -/
def RqPost (w : World) (r : Int × PD) (e : Ending) (w' : World) : Prop :=
  ∃ p : PE, e = .returned (.tuple #[.agg #[.string (bs p.n), .int .i64 p.v, .slice p.na p.ns.length p.nc, .slice p.ds.ao p.ds.es.length p.ds.cap], .int .i64 r.1]) ∧ pkE p = r.2 ∧ Pks w' w'.heap.size p ∧ p.ns.length ≤ 1000000 ∧ (∀ e ∈ p.ds.es, rightD e.1 = true) ∧ p.ds.es.length ≤ 1000000 ∧ (p.ds.es ≠ [] → ∀ a, p.ds.ao = some a → w.heap.size ≤ a.block) ∧ Kept (fun _ => False) w w'

theorem pks_none (w : World) (B : Nat) : Pks w B zeroPE := ⟨Lies.nil _ _ _, SDs.nil _ _ _ _⟩

theorem rq_err {w wx : World} {r : Nat} (hr : w.heap.size ≤ r) (k : Kept (fun _ => False) w wx) (er : Int) :
    RqPost w (er, zeroP) (.returned (.tuple #[.agg #[.string (bs zeroPE.n), .int .i64 zeroPE.v, .slice zeroPE.na zeroPE.ns.length zeroPE.nc, .slice zeroPE.ds.ao zeroPE.ds.es.length zeroPE.ds.cap], .int .i64 er])) (setK wx r zeroPE) :=
  ⟨zeroPE, rfl, rfl, pks_none _ _, Nat.zero_le _, fun e he => absurd he List.not_mem_nil, Nat.zero_le _, fun h => (h rfl).elim, k.trans (kept_setK wx r zeroPE) (fun i hi e => by omega)⟩

/-- The reader and both boxes under way. -/
structure RkS (w : World) (D : Nat → Prop) (b b2 : Nat) (s : RS) (q : PE) (wx : World) : Prop where
  rd : ∃ a c, Rd wx D b a c s
  pb : Bp wx b2 q
  rb : Bp wx w.heap.size zeroPE
  k : Kept (fun _ => False) w wx
  b1 : w.heap.size < b
  bb : b < b2
  hD : ∀ k, D k → w.heap.size < k ∧ k < b

section
variable {w : World} {D : Nat → Prop} {b b2 : Nat} {s : RS} {q : PE} {wx : World}

theorem RkS.read (h : RkS w D b b2 s q wx) {s' : RS} {wy : World} (hr : ∃ a c, Rd wy D b a c s') (hk : Kept (fun k => k = b) wx wy) : RkS w D b b2 s' q wy :=
  ⟨hr, h.pb.kept hk (by have := h.bb; omega), h.rb.kept hk (by have := h.b1; omega), h.k.trans hk (fun i hi e => by have := h.b1; omega), h.b1, h.bb, h.hD⟩

theorem RkS.keep (h : RkS w D b b2 s q wx) {wy : World} (hk : Kept (fun _ => False) wx wy) : RkS w D b b2 s q wy := by
  obtain ⟨a, c, hr⟩ := h.rd
  exact ⟨⟨a, c, hr.kept hk (fun h => h) (fun _ _ _ h => h)⟩, h.pb.kept hk (fun h => h), h.rb.kept hk (fun h => h), h.k.trans hk (fun _ _ h => h), h.b1, h.bb, h.hD⟩

theorem RkS.put (h : RkS w D b b2 s q wx) (i : Nat) (u : Value) {q' : PE} (hq : Bp (wx.setCell ⟨b2, i, none⟩ u) b2 q') : RkS w D b b2 s q' (wx.setCell ⟨b2, i, none⟩ u) := by
  obtain ⟨a, c, hr⟩ := h.rd
  have hk := Kept.setCell (S := fun k => k = b2) (p := ⟨b2, i, none⟩) (Kept.refl _ wx) (fun _ => rfl) u
  have h1 := h.b1; have h2 := h.bb
  exact ⟨⟨a, c, hr.kept hk (by omega) (fun k _ hk => by have := h.hD k hk; omega)⟩, hq, h.rb.kept hk (by omega), h.k.trans hk (fun i hi e => by omega), h.b1, h.bb, h.hD⟩

theorem RkS.text (h : RkS w D b b2 s q wx) : Calls Tryz.prog 77 #[.pointer (some ⟨b, 0, none⟩)] wx fun e wy => e = .returned (.string (bs s.text.2)) ∧ RkS w D b b2 s.text.1 q wy := by
  obtain ⟨a, c, hr⟩ := h.rd
  exact (rtext_any' D b a c s wx hr).mono (fun e wy ⟨he, hr, hk⟩ => ⟨he, h.read hr hk⟩)

theorem RkS.num (h : RkS w D b b2 s q wx) : Calls Tryz.prog 75 #[.pointer (some ⟨b, 0, none⟩)] wx fun e wy => e = .returned (.int .i64 s.num.2) ∧ RkS w D b b2 s.num.1 q wy := by
  obtain ⟨a, c, hr⟩ := h.rd
  exact (rnum_any' D b a c s wx hr).mono (fun e wy ⟨he, hr, hk⟩ => ⟨he, h.read hr hk⟩)

theorem RkS.texts (h : RkS w D b b2 s q wx) : Calls Tryz.prog 78 #[.pointer (some ⟨b, 0, none⟩)] wx fun e wy => (∃ ao cap, e = .returned (.slice ao s.texts.2.length cap) ∧ wy.ownsRow wx.heap.size 9 1 (.slice ao s.texts.2.length cap) s.texts.2.length (strs s.texts.2)) ∧ RkS w D b b2 s.texts.1 q wy := by
  obtain ⟨a, c, hr⟩ := h.rd
  exact (rtexts_any' D b a c s wx (fun k hk => by have := h.hD k hk; have := h.bb; have := h.pb.lt; omega) hr).mono (fun e wy ⟨he, hr, hk⟩ => ⟨he, h.read hr hk⟩)

end

end Go.Proofs.YtjnpmbdehalmpaaGreat
