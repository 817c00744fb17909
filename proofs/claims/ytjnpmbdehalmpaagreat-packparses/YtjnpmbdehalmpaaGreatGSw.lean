/-
  Lemmas towards the claim of this folder: contracts of the functions that the law reaches; joined texts.
-/
import Derived.Test.YtjnpmbdehalmpaaGreatGR9a
import Derived.Deep.CutBlock
import Derived.Deep.DeepCutAuto
import Derived.Test.YtjnpmbdehalmpaaGreatGNg
import Derived.Test.YtjnpmbdehalmpaaGreatGL7
import Derived.Deep.RegionHeld
/-
  CONTRACTS of package snap: Drop, Put.
-/
namespace Go.Proofs.YtjnpmbdehalmpaaGreat
open Go.RowKit Go.Mk Go.Maps

/-- One entry less. -/
theorem Nw.drop {w : World} {m : List Ent} {wx : World} (h : Nw w m wx) (k : List UInt8) (hk : k.length ≤ maxLen) (ty : TypeId) :
    ∃ wy, (Builtin.delete_ #[85, 9] ty #[.map (some w.heap.size), .string (bs k)]).run Tryz.prog wx = .ok (.tuple #[]) wy ∧ Nw w (dropK keyE k m) wy ∧ Kept (fun k => k = w.heap.size) wx wy := by
  obtain ⟨wy, h1, h2, h3⟩ := h.tb.drop k hk h.tb.rows ty
  exact ⟨wy, h1, ⟨h2, (h3.cell (p := ⟨w.heap.size + 1, 0, none⟩) (World.block_lt_of_cell? _ _ h.cell) (by simp)).trans h.cell, h.k.trans h3 (fun i hi e => by omega), Nat.le_trans h.sz h3.size⟩, h3⟩

/-- Without some keys. -/
def dropsE (ks : List (List UInt8)) (m : List Ent) : List Ent := ks.foldl (fun m k => dropK keyE k m) m
def dropsD (ks : List (List UInt8)) (l : List DD) : List DD := ks.foldl (fun l k => dropK keyD k l) l

theorem dropsE_dds : ∀ (ks : List (List UInt8)) (m : List Ent), dds (dropsE ks m) = dropsD ks (dds m)
  | [], _ => rfl
  | k :: ks, m => by
    have := dropsE_dds ks (dropK keyE k m)
    unfold dropsE dropsD at *
    rw [List.foldl_cons, List.foldl_cons, this]
    congr 1
    exact map_dropK (f := fun e : Ent => e.1) (ka := keyE) (kb := keyD) (fun _ => rfl) k m

theorem dropsE_take (ks : List (List UInt8)) (m : List Ent) (j : Nat) (h : j < ks.length) : dropsE (ks.take (j + 1)) m = dropK keyE ks[j] (dropsE (ks.take j) m) := by
  unfold dropsE
  rw [List.take_add_one, List.getElem?_eq_getElem h, Option.toList_some, List.foldl_append]
  rfl

/-- A list of texts, and what a call on them keeps. -/
def DpPost (w : World) (m : List Ent) (e : Ending) (w' : World) : Prop := e = .returned (.pointer (some ⟨w.heap.size + 1, 0, none⟩)) ∧ Nw w m w'

/-- A new snapshot. -/
def PtPost (w : World) (l : List DD) (e : Ending) (w' : World) : Prop := ∃ s, e = .returned (.pointer (some ⟨s, 0, none⟩)) ∧ Sn w' (.pointer (some ⟨s, 0, none⟩)) l ∧ Kept (fun _ => False) w w'

end Go.Proofs.YtjnpmbdehalmpaaGreat

/-
  The laws of layer 8: awake; a few small definitions; a change and what becomes of a snapshot by it.
-/
namespace Go.Proofs.YtjnpmbdehalmpaaGreat
open Go.RowKit Go.Mk Go.Maps

def exA : DD := ⟨1, [65], [79, 98, 106, 101, 99, 116], [], [], []⟩
def exB : DD := ⟨2, [65], [], [], [98], []⟩

theorem ex_new : newL (dds [(exA, none, 0), (exB, none, 0)]) = (0, [exA, exB]) := by decide +kernel
theorem ex_drop : dropsD [[65]] [exA, exB] = [exB] := by decide +kernel

theorem ex_ds (w : World) : Ds (w.alloc (.cells #[.int .i64 1, .string (bs [65]), .string (bs [79, 98, 106, 101, 99, 116]), .slice none 0 0, .string (bs []), .string (bs []), .int .i64 2, .string (bs [65]), .string (bs []), .slice none 0 0, .string (bs [98]), .string (bs [])] 46)) (w.heap.size + 1) (some ⟨w.heap.size, 0, none⟩) [(exA, none, 0), (exB, none, 0)] := by
  refine ⟨fun _ => ⟨w.heap.size, 0, rfl, by omega, fun j hj => ?_⟩, fun e he => ?_⟩
  · have hj2 : j = 0 ∨ j = 1 := by simp at hj; omega
    rcases hj2 with rfl | rfl
    · constructor <;> exact World.cell?_alloc_new w _ _ _
    · constructor <;> exact World.cell?_alloc_new w _ _ _
  · rcases List.mem_cons.1 he with rfl | he
    · exact ⟨Lies.nil _ _ _, by decide⟩
    · rw [List.mem_singleton] at he
      subst he
      exact ⟨Lies.nil _ _ _, by decide⟩

theorem ex_len : ∀ e ∈ [(exA, (none : Option Addr), 0), (exB, none, 0)], Len8 e.1 := by
  intro e he
  rcases List.mem_cons.1 he with rfl | he
  · exact ⟨by decide, by decide, by decide, by decide, by decide, by simp [exA]⟩
  · rw [List.mem_singleton] at he
    subst he
    exact ⟨by decide, by decide, by decide, by decide, by decide, by simp [exB]⟩

def fewB (es : List Ent) (n : Int) : Bool := decide ((es.length : Int) ≤ n) && (dds es).all smallD

set_option maxHeartbeats 1000000 in
set_option maxRecDepth 100000 in
theorem few_any (la : Option Addr) (lc : Nat) (es : List Ent) (n : Int) (B : Nat) (w : World) (hD : Ds w B la es) (hn : n ≤ 1000000) :
    Calls Tryz.prog 20 #[.slice la es.length lc, .int .i64 n] w fun e w' => e = .returned (.bool (fewB es n)) ∧ Kept (fun _ => False) w w' := by
  have HD := Lib.hid hD; clear hD
  by_cases h : (es.length : Int) ≤ n
  · have hB : fewB es n = (dds es).all smallD := by simp [fewB, h]
    rw [hB]; clear hB
    have h1 : ¬ n < (es.length : Int) := by omega
    clear h
    go_enter Tryz.func20, Tryz.ntmps20
    go_wp2
    go_loopg [5] es.length (fun k c wr => ∃ j, k = es.length - j ∧ j ≤ es.length ∧ c = .int .i64 (j : Int) ∧ ((dds es).take j).all smallD = true ∧ Kept (fun _ => False) w wr)
    case atStart => exact ⟨0, rfl, Nat.zero_le _, rfl, rfl, Kept.refl _ _⟩
    case round =>
      obtain ⟨j, hk, hj, rfl, hall, hw⟩ := hrel
      have HK := Lib.hid hk; have HA := Lib.hid hall; have HW := Lib.hid hw
      clear hk hall hw
      by_cases hlt : j < es.length
      · obtain ⟨xb, xo, rfl, hxb, hc⟩ := HD.out.row (by intro h; rw [h] at hlt; simp at hlt)
        obtain ⟨c0, c1, c2, c3, c4, c5⟩ := (hc j hlt).kept HW.out (fun h => h)
        have HLI := Lib.hid (HD.out.lies es[j] (List.getElem_mem hlt)).1
        have htk := dds_take es j hlt
        have HNO := Lib.hid (show smallD es[j].1 = false → (dds es).all smallD = false from fun h => by
          rw [List.all_eq_false]
          exact ⟨es[j].1, List.mem_map.2 ⟨es[j], List.getElem_mem hlt, rfl⟩, by simp [h]⟩)
        have i1 : (j : Int) < (es.length : Int) := by omega
        clear hc
        generalize es[j] = x at *
        obtain ⟨d, ao, cap⟩ := x
        dsimp only at c0 c1 c2 c3 c4 c5 HLI htk HNO
        have HTK := Lib.hid htk; clear htk
        have HSM := Lib.hid (rsmall_any d ao cap B wr (HLI.out.kept HW.out (fun _ _ _ h => h)))
        cases hs : smallD d with
        | false =>
          rw [hs] at HSM
          have HE := Lib.hid (HNO.out hs); clear hs
          go_wp2_with fail
          refine HSM.out.mono ?_
          rintro e w1 ⟨rfl, k1⟩
          go_wp2
          go_ret
          exact ⟨by rw [HE.out]; rfl, HW.out.trans k1 (fun _ _ h => h)⟩
        | true =>
          rw [hs] at HSM
          have HE := Lib.hid (show ((dds es).take (j + 1)).all smallD = true by rw [HTK.out, List.all_append, HA.out]; simp [hs])
          clear hs
          go_wp2_with fail
          refine HSM.out.mono ?_
          rintro e w1 ⟨rfl, k1⟩
          have K1 := Lib.hid (HW.out.trans k1 (fun _ _ h => h)); clear k1
          go_wp2
          go_roundg (es.length - (j + 1))
          case measure => have := HK.out; omega
          case rel => exact ⟨j + 1, rfl, by omega, by go_num, HE.out, K1.out⟩
      · obtain rfl : j = es.length := by omega
        have hs := HA.out
        rw [← dds_len, List.take_length] at hs
        have HE := Lib.hid hs
        clear hs hlt
        go_wp2
        go_ret
        exact ⟨by rw [HE.out]; rfl, HW.out⟩
  · have hB : fewB es n = false := by simp [fewB, h]
    rw [hB]; clear hB
    have h1 : n < (es.length : Int) := by omega
    clear h
    go_enter Tryz.func20, Tryz.ntmps20
    go_wp2
    go_ret
    exact ⟨rfl, Kept.refl _ _⟩

theorem small_len8 {d : DD} (h : SmallD d) : Len8 d :=
  ⟨Nat.le_trans h.c (by omega), Nat.le_trans h.p (by omega), Nat.le_trans h.s (by omega), Nat.le_trans h.t (by omega), Nat.le_trans h.n (by omega), fun x hx => Nat.le_trans (h.v x hx) (by omega)⟩

structure FewD (es : List Ent) (n : Nat) : Prop where
  len : es.length ≤ n
  small : ∀ e ∈ es, SmallD e.1

theorem few_of {es : List Ent} {n : Nat} (h : fewB es (n : Int) = true) : FewD es n := by
  simp only [fewB, Bool.and_eq_true, decide_eq_true_eq, List.all_eq_true] at h
  exact ⟨by omega, fun e he => smallD_of (h.2 e.1 (List.mem_map.2 ⟨e, he, rfl⟩))⟩

end Go.Proofs.YtjnpmbdehalmpaaGreat

/-
  The reference of layer 9: Small, Right, Same.
-/
namespace Go.Proofs.YtjnpmbdehalmpaaGreat
open Go.RowKit Go.Mk Go.Maps

/-- An edit of bounded size. -/
structure Len9 (e : EE) : Prop where
  key : e.key.length ≤ 1000000
  old : ∀ x ∈ e.old.es, Len8 x.1
  new : ∀ x ∈ e.new.es, Len8 x.1
  no : e.old.es.length ≤ 1000000
  nn : e.new.es.length ≤ 1000000

def smallE (e : EE) : Bool := decide (e.key.length ≤ 700) && fewB e.old.es 3 && fewB e.new.es 3
def smallP (p : List EE) : Bool := decide (p.length ≤ 12) && p.all smallE

theorem small_len9 {p : List EE} (h : smallP p = true) : p.length ≤ 12 ∧ ∀ e ∈ p, Len9 e ∧ e.key.length ≤ 700 ∧ e.old.es.length ≤ 3 ∧ e.new.es.length ≤ 3 := by
  unfold smallP at h
  rw [Bool.and_eq_true, decide_eq_true_eq, List.all_eq_true] at h
  refine ⟨h.1, fun e he => ?_⟩
  have h1 := h.2 e he
  unfold smallE at h1
  rw [Bool.and_eq_true, Bool.and_eq_true, decide_eq_true_eq] at h1
  obtain ⟨⟨hk, ho⟩, hn⟩ := h1
  have fo := few_of (n := 3) ho
  have fn := few_of (n := 3) hn
  exact ⟨⟨by omega, fun x hx => small_len8 (fo.small x hx), fun x hx => small_len8 (fn.small x hx), by have := fo.len; omega, by have := fn.len; omega⟩, hk, fo.len, fn.len⟩

theorem take_all {α : Type} (f : α → Bool) (p : List α) (j : Nat) (h : j < p.length) : (p.take (j + 1)).all f = ((p.take j).all f && f p[j]) := by
  rw [List.take_add_one, List.getElem?_eq_getElem h, Option.toList_some, List.all_append]
  simp

/-- The cells that Right reads in a round. -/
abbrev ceR (b o : Nat) (e : EE) (pr : Option (Nat × List UInt8)) (w : World) : Prop :=
  w.cell? ⟨b, o, none⟩ = some (.string (bs e.key)) ∧ w.cell? ⟨b, o + 1, none⟩ = some (.slice e.old.ao e.old.es.length e.old.cap) ∧ w.cell? ⟨b, o + 2, none⟩ = some (.slice e.new.ao e.new.es.length e.new.cap) ∧
    (match pr with | none => True | some (o', k') => w.cell? ⟨b, o', none⟩ = some (.string (bs k')))

theorem rightAt_zero {p : List EE} (h : 0 < p.length) : rightAt (eds p) 0 = rightE (edE p[0]) := by
  rw [rightAt_lt (by rw [eds_len]; exact h), eds_get p 0 h]
  simp

theorem rightAt_pos {p : List EE} {i : Nat} (h : i + 1 < p.length) : rightAt (eds p) (i + 1) = (rightE (edE p[i + 1]) && decide (p[i].key < p[i + 1].key)) := by
  rw [rightAt_lt (by rw [eds_len]; exact h), eds_get p (i + 1) h]
  have e : ((eds p)[i]?).getD zeroE = edE p[i] := by rw [← List.getD_eq_getElem?_getD]; exact eds_getD p i (by omega)
  simp [e, edE]

theorem rightE_ed (key : List UInt8) (oao : Option Addr) (ocap : Nat) (oes : List Ent) (nao : Option Addr) (ncap : Nat) (nes : List Ent) :
    rightE (edE ⟨key, ⟨oao, ocap, oes⟩, ⟨nao, ncap, nes⟩⟩) = ((splitD key).2.2 && sideB (dds oes) key && sideB (dds nes) key && !sameA oes nes) := rfl

/-- The cells that Same reads in a round. -/
abbrev ceS (b o : Nat) (e : EE) (b2 o2 : Nat) (e2 : EE) (w : World) : Prop :=
  w.cell? ⟨b, o, none⟩ = some (.string (bs e.key)) ∧ w.cell? ⟨b, o + 1, none⟩ = some (.slice e.old.ao e.old.es.length e.old.cap) ∧ w.cell? ⟨b, o + 2, none⟩ = some (.slice e.new.ao e.new.es.length e.new.cap) ∧
  w.cell? ⟨b2, o2, none⟩ = some (.string (bs e2.key)) ∧ w.cell? ⟨b2, o2 + 1, none⟩ = some (.slice e2.old.ao e2.old.es.length e2.old.cap) ∧ w.cell? ⟨b2, o2 + 2, none⟩ = some (.slice e2.new.ao e2.new.es.length e2.new.cap)

def sameP (p q : List EE) : Bool := decide (eds p = eds q)

theorem sameP_take {p q : List EE} {j : Nat} (hp : j < p.length) (hq : j < q.length) (h : (eds p).take j = (eds q).take j) (he : edE p[j] = edE q[j]) : (eds p).take (j + 1) = (eds q).take (j + 1) := by
  rw [eds_take p j hp, eds_take q j hq, h, he]

theorem sameP_ne {p q : List EE} {j : Nat} (hp : j < p.length) (hq : j < q.length) (he : edE p[j] ≠ edE q[j]) : sameP p q = false := by
  refine decide_eq_false (fun h => he ?_)
  rw [← eds_get p j hp, ← eds_get q j hq]
  simp only [h]

end Go.Proofs.YtjnpmbdehalmpaaGreat
