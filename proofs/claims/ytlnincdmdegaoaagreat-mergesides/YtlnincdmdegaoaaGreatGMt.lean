/-
  Lemmas towards the claim of this folder: contracts of the functions that the law reaches; joined texts.
-/
import Derived.Test.YtlnincdmdegaoaaGreatGDz
import Derived.BigRegion
import Derived.Test.YtlnincdmdegaoaaGreatGRd
import Derived.Test.YtlnincdmdegaoaaGreatGR1
import Derived.Test.YtlnincdmdegaoaaGreatGDh
import Derived.Deep.CutBlock
import Derived.Deep.DeepCutAuto
import Derived.Test.YtlnincdmdegaoaaGreatGTi
import Derived.Test.YtlnincdmdegaoaaGreatGL8
/-
  CONTRACTS of the reference's Reader: Text, Texts.
-/
namespace Go.Proofs.YtlnincdmdegaoaaGreat
open Go.RowKit Go.Mk

/-- What Texts leaves. -/
def MtPost (w : World) (b : Nat) (l : List (List UInt8)) (s' : RS) (e : Ending) (w' : World) : Prop :=
  (∃ ao cap, e = .returned (.slice ao l.length cap) ∧ w'.ownsRow w.heap.size 9 1 (.slice ao l.length cap) l.length (strs l)) ∧ Mr w' b s' ∧ Kept (fun k => k = b) w w'

theorem many_len (n : Nat) (s : RS) : (RS.many n s).1.rest.length ≤ s.rest.length := by
  induction n generalizing s with
  | zero => exact Nat.le_refl _
  | succ n ih =>
    unfold RS.many
    split
    · exact Nat.le_refl _
    · have h1 := ih s.text.1
      have h2 : s.text.1.rest.length ≤ s.rest.length := by
        have : s.num.1.rest.length ≤ s.rest.length := by
          unfold RS.num; split; exact Nat.le_refl _; split; exact Nat.le_refl _; split; exact Nat.le_refl _; simp
        unfold RS.text; split; simp; split; simp; simp; omega
      simp only
      omega

end Go.Proofs.YtlnincdmdegaoaaGreat

/-
  How much a reading of a definition takes (plain).
-/
namespace Go.Proofs.YtlnincdmdegaoaaGreat
open Go.RowKit Go.Mk

theorem num_len (s : RS) : s.num.1.rest.length ≤ s.rest.length := by
  unfold RS.num; split; exact Nat.le_refl _; split; exact Nat.le_refl _; split; exact Nat.le_refl _; simp

theorem text_len1 (s : RS) : s.text.1.rest.length ≤ s.rest.length := by
  have := num_len s
  unfold RS.text; split; simp; split; simp; simp; omega

theorem text_len2 (s : RS) : s.text.2.length ≤ s.rest.length := by
  have := num_len s
  unfold RS.text; split; simp; split; simp; simp; omega

theorem texts_len1 (s : RS) : s.texts.1.rest.length ≤ s.rest.length := by
  have h1 := num_len s
  unfold RS.texts
  split
  · exact Nat.le_refl _
  · refine Nat.le_trans (many_len _ _) ?_
    unfold RS.head
    split
    · exact h1
    · exact h1

theorem many_cnt (n : Nat) (s : RS) : (RS.many n s).2.length ≤ n := by
  induction n generalizing s with
  | zero => exact Nat.le_refl _
  | succ n ih =>
    unfold RS.many
    split
    · exact Nat.zero_le _
    · have := ih s.text.1
      simp only [List.length_cons]
      omega

theorem texts_cnt (s : RS) : s.texts.2.length ≤ 1099511627776 := by
  have hn : s.num.2.toNat ≤ 2147483647 := by
    rcases s.num_cases with ⟨_, hq⟩ | ⟨_, _, m, hm, hq⟩
    · rw [hq]; simp
    · rw [hq]; simp; omega
  unfold RS.texts
  split
  · exact Nat.zero_le _
  · have := many_cnt s.num.2.toNat s.head
    omega

theorem fields_len (s : RS) : (fieldsR s).1.rest.length ≤ s.rest.length := by
  have h1 := num_len s
  have h2 := text_len1 s.num.1
  have h3 := text_len1 s.num.1.text.1
  have h4 := text_len1 s.num.1.text.1.text.1
  have h5 := texts_len1 s.num.1.text.1.text.1
  unfold fieldsR
  split
  · dsimp only; omega
  · split
    · dsimp only; omega
    · dsimp only; omega

theorem fields_s (s : RS) (h : s.rest.length ≤ 1099511627776) : (fieldsR s).2.s.length ≤ 1099511627776 := by
  have h1 := num_len s
  have h2 := text_len1 s.num.1
  have h3 := text_len2 s.num.1.text.1
  unfold fieldsR
  split
  · simp
  · split
    · dsimp only; omega
    · simp

theorem fields_v (s : RS) : (fieldsR s).2.vs.length ≤ 1099511627776 := by
  have h1 := texts_cnt s.num.1.text.1.text.1
  unfold fieldsR
  split
  · exact h1
  · split
    · simp
    · simp

theorem judge_v (s : RS) : (judgeR (fieldsR s)).1.vs.length ≤ 1099511627776 := by
  have h1 := fields_v s
  unfold judgeR
  split
  · simp [zeroD]
  · split
    · exact h1
    · simp [zeroD]

end Go.Proofs.YtlnincdmdegaoaaGreat

/-
  def.fields and def.Read, whatever the reader.
-/
namespace Go.Proofs.YtlnincdmdegaoaaGreat
open Go.RowKit Go.Mk

def FlPost (w : World) (D : Nat → Prop) (b : Nat) (s' : RS) (d : DD) (e : Ending) (w' : World) : Prop :=
  ∃ ao cap, e = .returned (.agg #[.int .i64 d.k, .string (bs d.c), .string (bs d.p), .slice ao d.vs.length cap, .string (bs d.s), .string (bs d.t)]) ∧ w'.ownsRow w.heap.size 9 1 (.slice ao d.vs.length cap) d.vs.length (strs d.vs) ∧ (∃ a c, Rd w' D b a c s') ∧ Kept (fun k => k = b) w w'

theorem owns_le {w : World} {base : Nat} {e : TypeId} {size n cap : Nat} {ao : Option Addr} {xs : List Value} (h : w.ownsRow base e size (.slice ao n cap) n xs) : n ≤ cap := by
  rcases h.2 with ⟨h1, h2⟩ | ⟨g, c, cur, hv, _, _, hle, _⟩
  · omega
  · cases hv; exact hle

def DrPost (w : World) (D : Nat → Prop) (b : Nat) (s' : RS) (d : DD) (er : Int) (e : Ending) (w' : World) : Prop :=
  ∃ ao cap, e = .returned (.tuple #[.agg #[.int .i64 d.k, .string (bs d.c), .string (bs d.p), .slice ao d.vs.length cap, .string (bs d.s), .string (bs d.t)], .int .i64 er]) ∧ w'.ownsRow w.heap.size 9 1 (.slice ao d.vs.length cap) d.vs.length (strs d.vs) ∧ (∃ a c, Rd w' D b a c s') ∧ Kept (fun k => k = b) w w'

end Go.Proofs.YtlnincdmdegaoaaGreat

/-
  snap.Parse: the walk.
-/
namespace Go.Proofs.YtlnincdmdegaoaaGreat
open Go.RowKit Go.Mk Go.Maps

/-- Parse under way: the reader at b, the table at t, the snapshot at t + 1. -/
structure Pg (w : World) (D : Nat → Prop) (b t : Nat) (s : RS) (m : List Ent) (wx : World) : Prop where
  rd : ∃ a c, Rd wx D b a c s
  tb : Tb wx t m
  cell : wx.cell? ⟨t + 1, 0, none⟩ = some (.map (some t))
  k : Kept (fun _ => False) w wx
  b1 : w.heap.size ≤ b
  b2 : b < t
  sz : t + 2 ≤ wx.heap.size
  rows : ∀ e ∈ m, e.1.vs ≠ [] → ∀ a, e.2.1 = some a → t + 2 ≤ a.block
  hD : ∀ k, D k → k < b

theorem Pg.keep {w : World} {D : Nat → Prop} {b t : Nat} {s : RS} {m : List Ent} {wx wy : World} (h : Pg w D b t s m wx) (hk : Kept (fun _ => False) wx wy) : Pg w D b t s m wy := by
  obtain ⟨a, c, hr⟩ := h.rd
  exact ⟨⟨a, c, hr.kept hk (fun h => h) (fun _ _ _ h => h)⟩, h.tb.keep hk, (hk.cell (p := ⟨t + 1, 0, none⟩) (World.block_lt_of_cell? _ _ h.cell) (fun h => h)).trans h.cell, h.k.trans hk (fun _ _ h => h), h.b1, h.b2, Nat.le_trans h.sz hk.size, h.rows, h.hD⟩

/-- The reader has gone on. -/
theorem Pg.read {w : World} {D : Nat → Prop} {b t : Nat} {s s' : RS} {m : List Ent} {wx wy : World} (h : Pg w D b t s m wx) (hr : ∃ a c, Rd wy D b a c s') (hk : Kept (fun k => k = b) wx wy) : Pg w D b t s' m wy := by
  have h1 := h.b1; have h2 := h.b2
  refine ⟨hr, h.tb.kept hk (by omega) (fun e he hn a ha => ?_), (hk.cell (p := ⟨t + 1, 0, none⟩) (World.block_lt_of_cell? _ _ h.cell) (by simp; omega)).trans h.cell, h.k.trans hk (fun i hi e => by omega), h1, h2, Nat.le_trans h.sz hk.size, h.rows, h.hD⟩
  have := h.rows e he hn a ha
  omega

/-- A definition is laid down. -/
theorem Pg.put {w : World} {D : Nat → Prop} {b t : Nat} {s : RS} {m : List Ent} {wx : World} (h : Pg w D b t s m wx) (e : Ent) (hr : rightD e.1 = true) (hL : Lies wx wx.heap.size e.2.1 (strs e.1.vs) ∧ e.1.vs.length ≤ e.2.2) (hb : e.1.vs ≠ [] → ∀ a, e.2.1 = some a → t + 2 ≤ a.block) (hl : Len8 e.1) (hm : m.length ≤ 1000000) (hlast : lastK (dds m) < keyE e) :
    ∃ wy, (Instr.mapUpdate 57 (.map (some t)) (.string (bs (keyE e))) (valE e)).run Tryz.prog wx = .ok () wy ∧ Pg w D b t s (m ++ [e]) wy ∧ Kept (fun k => k = t) wx wy := by
  have e0 := putK_last (x := e) (m := m) (rise_last h.tb.rise hlast)
  have hrow : ∀ x ∈ m ++ [e], x.1.vs ≠ [] → ∀ a, x.2.1 = some a → t + 2 ≤ a.block := fun x hx hn a ha => by
    rcases List.mem_append.1 hx with hx | hx
    · exact h.rows x hx hn a ha
    · rw [List.mem_singleton] at hx
      subst hx
      exact hb hn a ha
  obtain ⟨wy, h1, h2, h3⟩ := h.tb.put e hr hL (key_len hl) hm (fun x hx hn a ha => by
    rw [e0] at hx
    have := hrow x hx hn a ha
    omega)
  rw [e0] at h2
  obtain ⟨a, c, hrd⟩ := h.rd
  have hb1 := h.b1; have hb2 := h.b2
  exact ⟨wy, h1, ⟨⟨a, c, hrd.kept h3 (by omega) (fun k _ hk e => by have := h.hD k hk; omega)⟩, h2, (h3.cell (p := ⟨t + 1, 0, none⟩) (World.block_lt_of_cell? _ _ h.cell) (by simp)).trans h.cell, h.k.trans h3 (fun i hi e => by omega), hb1, hb2, Nat.le_trans h.sz h3.size, hrow, h.hD⟩, h3⟩

theorem Pg.sn {w : World} {D : Nat → Prop} {b t : Nat} {s : RS} {m : List Ent} {wx : World} (h : Pg w D b t s m wx) : Sn wx (.pointer (some ⟨t + 1, 0, none⟩)) (dds m) :=
  ⟨_, m, .inr ⟨_, rfl, h.cell⟩, .inr ⟨_, rfl, h.tb⟩, rfl⟩

theorem pg_new {w wx : World} {D : Nat → Prop} {b : Nat} {s : RS} (hr : ∃ a c, Rd wx D b a c s) (hk : Kept (fun _ => False) w wx) (hb : w.heap.size ≤ b) (hb2 : b < wx.heap.size) (hD : ∀ k, D k → k < b) : Pg w D b wx.heap.size s [] ((wx.alloc (.map #[] 0)).alloc (.cells #[.map (some wx.heap.size)] 78)) := by
  have N := nw_new wx
  obtain ⟨a, c, hrd⟩ := hr
  exact ⟨⟨a, c, hrd.kept N.k (fun h => h) (fun _ _ _ h => h)⟩, N.tb, N.cell, hk.trans N.k (fun _ _ h => h), hb, hb2, N.sz, by simp, hD⟩

theorem len8_right {d : DD} (h : rightD d = true) : Len8 d := small_len8 (right_small h)

theorem parseL_eq (l : List UInt8) : parseL l = if (RS.num ⟨l, 0⟩).1.err ≠ 0 then ((RS.num ⟨l, 0⟩).1.err, []) else if 500 < (RS.num ⟨l, 0⟩).2 then (21, []) else finP (parseN (RS.num ⟨l, 0⟩).2.toNat (RS.num ⟨l, 0⟩).1 []) := rfl

end Go.Proofs.YtlnincdmdegaoaaGreat
