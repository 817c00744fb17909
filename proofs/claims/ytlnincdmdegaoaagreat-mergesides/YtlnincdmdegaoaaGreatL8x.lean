/-
  SnapChanges: the walk.
-/
import Derived.Test.YtlnincdmdegaoaaGreatGL8c
import Derived.Test.YtlnincdmdegaoaaGreatGOd
import Derived.Test.YtlnincdmdegaoaaGreatTk
import Derived.Test.YtlnincdmdegaoaaGreatGR7
import Derived.Deep.CutBlock
import Derived.Deep.DeepCutAuto
namespace Go.Proofs.YtlnincdmdegaoaaGreat
open Go.RowKit Go.Mk Go.Maps

/-- A change's cells at an offset. -/
structure Co (w : World) (b o : Nat) (c : CD) : Prop where
  c0 : w.cell? ⟨b, o, none⟩ = some (.bool c.dr)
  c1 : w.cell? ⟨b, o + 1, none⟩ = some (.int .i64 c.d.k)
  c2 : w.cell? ⟨b, o + 2, none⟩ = some (.string (bs c.d.c))
  c3 : w.cell? ⟨b, o + 3, none⟩ = some (.string (bs c.d.p))
  c4 : w.cell? ⟨b, o + 4, none⟩ = some (.slice c.ao c.d.vs.length c.cap)
  c5 : w.cell? ⟨b, o + 5, none⟩ = some (.string (bs c.d.s))
  c6 : w.cell? ⟨b, o + 6, none⟩ = some (.string (bs c.d.t))
  c7 : w.cell? ⟨b, o + 7, none⟩ = some (.string (bs c.key))

theorem Co.keep {w w' : World} {b o : Nat} {c : CD} (h : Co w b o c) (hk : Kept (fun _ => False) w w') : Co w' b o c := by
  have hlt : b < w.heap.size := World.block_lt_of_cell? _ _ h.c0
  exact ⟨(hk.cell (p := ⟨b, o, none⟩) hlt (fun h => h)).trans h.c0, (hk.cell (p := ⟨b, o + 1, none⟩) hlt (fun h => h)).trans h.c1, (hk.cell (p := ⟨b, o + 2, none⟩) hlt (fun h => h)).trans h.c2, (hk.cell (p := ⟨b, o + 3, none⟩) hlt (fun h => h)).trans h.c3, (hk.cell (p := ⟨b, o + 4, none⟩) hlt (fun h => h)).trans h.c4, (hk.cell (p := ⟨b, o + 5, none⟩) hlt (fun h => h)).trans h.c5, (hk.cell (p := ⟨b, o + 6, none⟩) hlt (fun h => h)).trans h.c6, (hk.cell (p := ⟨b, o + 7, none⟩) hlt (fun h => h)).trans h.c7⟩

/-- Changes in a row that came in. -/
structure Cds (w : World) (B : Nat) (ca : Option Addr) (cs : List CD) : Prop where
  row : cs ≠ [] → ∃ b off, ca = some ⟨b, off, none⟩ ∧ b < B ∧ ∀ j (h : j < cs.length), Co w b (off + j * 8) cs[j]
  each : ∀ c ∈ cs, Cin w B c

/-- A change in its box. -/
structure X8 (w : World) (b : Nat) (c : CD) (wx : World) : Prop where
  box : Cb wx b c
  k : Kept (fun _ => False) w wx

theorem X8.keep {w : World} {b : Nat} {c : CD} {wx wy : World} (h : X8 w b c wx) (hk : Kept (fun _ => False) wx wy) : X8 w b c wy :=
  ⟨h.box.kept hk (fun h => h), h.k.trans hk (fun _ _ h => h)⟩

theorem is_rl {v : Value} {oa : Option Addr} {oc : Nat} {es : List Ent} {w : World} (hs : Sn w v (dds es)) (hr : Rl w oa es) (hl : es.length ≤ 600) :
    Calls Tryz.prog 12 #[v, .slice oa es.length oc] w fun e w' => e = .returned (.bool true) ∧ Kept (fun _ => False) w w' := by
  have := is_any v (dds es) oa oc es w hs hr.ds (by rw [dds_len]; exact hl) (fun e he => (hr.len e he).n)
  rwa [show isL (dds es) (dds es) = true from decide_eq_true rfl] at this

theorem dds_drop8 (key : List UInt8) (es : List Ent) : dds (dropK keyE key es) = dropK keyD key (dds es) := map_dropK (f := fun e : Ent => e.1) (ka := keyE) (kb := keyD) (fun _ => rfl) key es
theorem dds_put8 (x : Ent) (es : List Ent) : dds (putK keyE x es) = putK keyD x.1 (dds es) := map_putK (f := fun e : Ent => e.1) (ka := keyE) (kb := keyD) (fun _ => rfl) x es

theorem nx_any (j : Nat) (h : j ≤ 1000) : Value.int .i64 (wrap64 ((j : Int) + 1)) = .int .i64 ((j + 1 : Nat) : Int) := by
  refine congrArg _ ?_
  unfold wrap64
  omega

def bigX (es : List Ent) (n : Nat) : Bool := !fewB es 10 || decide (10 < n)

end Go.Proofs.YtlnincdmdegaoaaGreat
