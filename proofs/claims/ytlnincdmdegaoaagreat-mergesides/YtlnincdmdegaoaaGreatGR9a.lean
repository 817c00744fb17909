/-
  Lemmas towards the claim of this folder: contracts of the functions that the law reaches; joined texts.
-/
import Derived.Test.YtlnincdmdegaoaaGreatGOd
import Derived.Test.YtlnincdmdegaoaaGreatGEe
import Derived.Deep.RegionHeld
import Derived.Test.YtlnincdmdegaoaaGreatGR7
import Derived.Test.YtlnincdmdegaoaaGreatGNm
import Derived.Test.YtlnincdmdegaoaaGreatGNc
/-
  The reference of layers 7 and 9: SameAll, Get, side.
-/
namespace Go.Proofs.YtlnincdmdegaoaaGreat
open Go.RowKit Go.Mk Go.Maps

/-- Two definitions' cells in rows. -/
abbrev cellsBB (b1 o1 b2 o2 : Nat) (x y : Ent) (w' : World) : Prop :=
  w'.cell? ⟨b1, o1, none⟩ = some (.int .i64 x.1.k) ∧ w'.cell? ⟨b1, o1 + 1, none⟩ = some (.string (bs x.1.c)) ∧ w'.cell? ⟨b1, o1 + 2, none⟩ = some (.string (bs x.1.p)) ∧ w'.cell? ⟨b1, o1 + 3, none⟩ = some (.slice x.2.1 x.1.vs.length x.2.2) ∧ w'.cell? ⟨b1, o1 + 4, none⟩ = some (.string (bs x.1.s)) ∧ w'.cell? ⟨b1, o1 + 5, none⟩ = some (.string (bs x.1.t)) ∧
  w'.cell? ⟨b2, o2, none⟩ = some (.int .i64 y.1.k) ∧ w'.cell? ⟨b2, o2 + 1, none⟩ = some (.string (bs y.1.c)) ∧ w'.cell? ⟨b2, o2 + 2, none⟩ = some (.string (bs y.1.p)) ∧ w'.cell? ⟨b2, o2 + 3, none⟩ = some (.slice y.2.1 y.1.vs.length y.2.2) ∧ w'.cell? ⟨b2, o2 + 4, none⟩ = some (.string (bs y.1.s)) ∧ w'.cell? ⟨b2, o2 + 5, none⟩ = some (.string (bs y.1.t))

theorem cellsBB_of {b1 o1 b2 o2 : Nat} {x y : Ent} {w : World} (h : Bo w b1 o1 x.2.1 x.2.2 x.1) (g : Bo w b2 o2 y.2.1 y.2.2 y.1) : cellsBB b1 o1 b2 o2 x y w := ⟨h.c0, h.c1, h.c2, h.c3, h.c4, h.c5, g.c0, g.c1, g.c2, g.c3, g.c4, g.c5⟩

def sameA (a b : List Ent) : Bool := decide (dds a = dds b)

theorem same_take {a b : List Ent} {j : Nat} (ha : j < a.length) (hb : j < b.length) (h : (dds a).take j = (dds b).take j) (he : a[j].1 = b[j].1) : (dds a).take (j + 1) = (dds b).take (j + 1) := by
  rw [dds_take a j ha, dds_take b j hb, h, he]

theorem same_ne {a b : List Ent} {j : Nat} (ha : j < a.length) (hb : j < b.length) (he : a[j].1 ≠ b[j].1) : sameA a b = false := by
  refine decide_eq_false (fun h => he ?_)
  have e1 := dds_get a j ha
  have e2 := dds_get b j hb
  rw [← e1, ← e2]
  simp only [h]

set_option maxHeartbeats 1000000 in
set_option maxRecDepth 100000 in
theorem rsameall_any (la : Option Addr) (lc : Nat) (a : List Ent) (lb : Option Addr) (ld : Nat) (b : List Ent) (B : Nat) (w : World) (hA : Ds w B la a) (hB : Ds w B lb b) (ha : ∀ e ∈ a, e.1.vs.length ≤ 1000000) (hb : ∀ e ∈ b, e.1.vs.length ≤ 1000000) (hn : a.length ≤ 1000000) :
    Calls Tryz.prog 19 #[.slice la a.length lc, .slice lb b.length ld] w fun e w' => e = .returned (.bool (sameA a b)) ∧ Kept (fun _ => False) w w' := by
  have HA := Lib.hid hA; have HB := Lib.hid hB; have HLA := Lib.hid ha; have HLB := Lib.hid hb
  clear hA hB ha hb
  by_cases hl : a.length = b.length
  · have HL := Lib.hid hl
    have h1 : (b.length : Int) = (a.length : Int) := by omega
    clear hl
    go_enter Tryz.func19, Tryz.ntmps19
    go_wp2
    go_loopg [5] a.length (fun k c wr => ∃ j, k = a.length - j ∧ j ≤ a.length ∧ c = .int .i64 (j : Int) ∧ (dds a).take j = (dds b).take j ∧ Kept (fun _ => False) w wr)
    case atStart => exact ⟨0, rfl, Nat.zero_le _, rfl, rfl, Kept.refl _ _⟩
    case round =>
      obtain ⟨j, hk, hj, rfl, htk, hw⟩ := hrel
      have HK := Lib.hid hk; have HTK := Lib.hid htk; have HW := Lib.hid hw
      clear hk htk hw
      by_cases hlt : j < a.length
      · have hlt2 : j < b.length := by have := HL.out; omega
        obtain ⟨xa, xo, rfl, hxa, hca⟩ := HA.out.row (by intro h; rw [h] at hlt; simp at hlt)
        obtain ⟨ya, yo, rfl, hya, hcb⟩ := HB.out.row (by intro h; rw [h] at hlt2; simp at hlt2)
        have HBA := Lib.hid ((hca j hlt).kept HW.out (fun h => h))
        have HBB := Lib.hid ((hcb j hlt2).kept HW.out (fun h => h))
        have HNE := Lib.hid (fun h => same_ne (a := a) (b := b) hlt hlt2 h)
        have HTA := Lib.hid (fun h => same_take (a := a) (b := b) hlt hlt2 HTK.out h)
        have HSA := Lib.hid (fun (wx : World) (h : Kept (fun _ => False) wr wx) => rsame7_any a[j].1 b[j].1 a[j].2.1 b[j].2.1 a[j].2.2 b[j].2.2 B wx (((HA.out.lies _ (List.getElem_mem hlt)).1.kept HW.out (fun _ _ _ h => h)).kept h (fun _ _ _ h => h)) (((HB.out.lies _ (List.getElem_mem hlt2)).1.kept HW.out (fun _ _ _ h => h)).kept h (fun _ _ _ h => h)) (by have := HLA.out _ (List.getElem_mem hlt); omega) (by have := HLB.out _ (List.getElem_mem hlt2); omega))
        have i1 : (j : Int) < (a.length : Int) := by omega
        clear hca hcb
        generalize a[j] = x at *
        generalize b[j] = y at *
        obtain ⟨d, ao, cap⟩ := x
        obtain ⟨d', ao', cap'⟩ := y
        dsimp only at HBA HBB HNE HTA HSA
        have HDR := Lib.hid (Kept.drew (Kept.refl (fun _ => False) wr))
        go_upto_region 6 with fail
        have hS := cellsBB_of (x := (d, ao, cap)) (y := (d', ao', cap')) (HBA.out.kept HDR.out (fun h => h)) (HBB.out.kept HDR.out (fun h => h))
        go_region_held (cellsBB xa (xo + j * 6) ya (yo + j * 6) (d, ao, cap) (d', ao', cap')) (with_reducible assumption) (first
          | (go_at_call 29; refine (HSA.out _ HDR.out).mono ?_; rintro e w1 ⟨rfl, k1⟩; have K1 := Lib.hid ((HW.out.trans HDR.out (fun _ _ h => h)).trans k1 (fun _ _ h => h)); have hS1 := cellsBB_of (x := (d, ao, cap)) (y := (d', ao', cap')) ((HBA.out.kept HDR.out (fun h => h)).kept k1 (fun h => h)) ((HBB.out.kept HDR.out (fun h => h)).kept k1 (fun h => h)); clear k1))
        all_goals cases hs : sameB d d' with
          | true =>
            have HE := Lib.hid (HTA.out ((sameB_iff _ _).1 hs)); clear hs
            go_wp2
            go_roundg (a.length - (j + 1))
            case measure => have := HK.out; omega
            case rel => exact ⟨j + 1, rfl, by omega, by go_num, HE.out, K1.out⟩
          | false =>
            have HE := Lib.hid (HNE.out (fun h => by rw [h, sameB_refl] at hs; cases hs)); clear hs
            go_wp2
            go_ret
            exact ⟨by rw [HE.out]; rfl, K1.out⟩
      · obtain rfl : j = a.length := by omega
        have HE := Lib.hid (show sameA a b = true from by
          have h := HTK.out
          rw [← dds_len a, List.take_length, dds_len a, HL.out, ← dds_len b, List.take_length] at h
          exact decide_eq_true h)
        clear hlt
        go_wp2
        go_ret
        exact ⟨by rw [HE.out]; rfl, HW.out⟩
  · have HE := Lib.hid (show sameA a b = false from decide_eq_false (fun h => hl (by rw [← dds_len a, ← dds_len b, h])))
    have h1 : ¬ (a.length : Int) = (b.length : Int) := by omega
    clear hl
    go_enter Tryz.func19, Tryz.ntmps19
    go_wp2
    go_ret
    exact ⟨by rw [HE.out]; rfl, Kept.refl _ _⟩

theorem bo_one (w : World) (e : Ent) (t : TypeId) : Bo (w.alloc (.cells #[.int .i64 e.1.k, .string (bs e.1.c), .string (bs e.1.p), .slice e.2.1 e.1.vs.length e.2.2, .string (bs e.1.s), .string (bs e.1.t)] t)) w.heap.size 0 e.2.1 e.2.2 e.1 := by
  have h := fun j => World.cell?_alloc_new w (cellsE1 e).toArray t j
  exact ⟨h 0, h 1, h 2, h 3, h 4, h 5⟩

/-- One definition in a row of its own. -/
theorem sd_one (w : World) (e : Ent) (t : TypeId) (h : Lies w w.heap.size e.2.1 (strs e.1.vs) ∧ e.1.vs.length ≤ e.2.2) : SDs (w.alloc (.cells #[.int .i64 e.1.k, .string (bs e.1.c), .string (bs e.1.p), .slice e.2.1 e.1.vs.length e.2.2, .string (bs e.1.s), .string (bs e.1.t)] t)) (w.heap.size + 1) ⟨some ⟨w.heap.size, 0, none⟩, 1, [e]⟩ := by
  refine ⟨⟨fun _ => ⟨w.heap.size, 0, rfl, by omega, fun j hj => ?_⟩, fun x hx => ?_⟩, Nat.le_refl _⟩
  · simp only [List.length_singleton] at hj
    obtain rfl : j = 0 := by omega
    exact bo_one w e t
  · rw [List.mem_singleton] at hx
    subst hx
    exact ⟨(h.1.kept (S := fun _ => False) ((Kept.refl _ w).alloc _) (fun _ _ _ h => h)).mono (by omega), h.2⟩

/-- What is there under a key: a list of its own. -/
def SdQ (w : World) (es : List Ent) (e : Ending) (w' : World) : Prop := ∃ ao cap, e = .returned (.slice ao es.length cap) ∧ SDs w' w'.heap.size ⟨ao, cap, es⟩ ∧ (es ≠ [] → ∃ g, ao = some ⟨g, 0, none⟩ ∧ w.heap.size ≤ g) ∧ Kept (fun _ => False) w w'

set_option maxHeartbeats 1000000 in
set_option maxRecDepth 100000 in
theorem rget_any (la : Option Addr) (lc : Nat) (es : List Ent) (key : List UInt8) (B : Nat) (w : World) (hB : B ≤ w.heap.size) (hD : Ds w B la es) (hl : ∀ e ∈ es, Len8 e.1) (hn : es.length ≤ 1000000) (hr : Rise keyE es) :
    Calls Tryz.prog 18 #[.slice la es.length lc, .string (bs key)] w (SdQ w (getK keyE key es)) := by
  have HD := Lib.hid hD; have HB := Lib.hid hB
  have HF := Lib.hid (rfind_any la lc es key B w hD hl hn)
  have HC := Lib.hid (find_cases key es)
  have HR := Lib.hid hr
  clear hD hl hr hB
  rcases HC.out with ⟨i, hi, hki, hfi⟩ | ⟨hno, hfi⟩
  · have HG := Lib.hid (show getK keyE key es = [es[i]] by rw [← hki]; exact getK_at HR.out (List.getElem_mem hi))
    rw [HG.out]
    rw [hfi] at HF
    obtain ⟨xb, xo, rfl, hxb, hc⟩ := HD.out.row (by intro h; rw [h] at hi; simp at hi)
    have HBO := Lib.hid (hc i hi)
    have HLI := Lib.hid (HD.out.lies es[i] (List.getElem_mem hi))
    have i1 : (i : Int) < (es.length : Int) := by omega
    clear hc hfi hki HC HR HG
    generalize es[i] = x at *
    obtain ⟨d, ao, cap⟩ := x
    dsimp only at HBO HLI
    go_enter Tryz.func18, Tryz.ntmps18
    go_wp2_with fail
    refine HF.out.mono ?_
    rintro e w1 ⟨rfl, k1⟩
    have K1 := Lib.hid k1; clear k1
    have HLI1 := Lib.hid ((HLI.out.1.kept K1.out (fun _ _ _ h => h)).mono (Nat.le_trans HB.out K1.out.size))
    obtain ⟨c0, c1, c2, c3, c4, c5⟩ := HBO.out.kept K1.out (fun h => h)
    go_wp2
    go_ret
    exact ⟨_, _, rfl, (sd_one w1 (d, ao, cap) _ ⟨HLI1.out, HLI.out.2⟩).mono (by simp), fun _ => ⟨_, rfl, K1.out.size⟩, K1.out.alloc _⟩
  · have HG := Lib.hid (show getK keyE key es = [] from getK_no hno)
    rw [HG.out]
    rw [hfi] at HF
    clear hfi hno HC HR HG
    go_enter Tryz.func18, Tryz.ntmps18
    go_wp2_with fail
    refine HF.out.mono ?_
    rintro e w1 ⟨rfl, k1⟩
    have K1 := Lib.hid k1; clear k1
    go_wp2
    go_ret
    exact ⟨none, 0, rfl, SDs.nil _ _ _ _, fun h => (h rfl).elim, K1.out⟩

theorem map_getK {α β : Type} {ka : α → List UInt8} {kb : β → List UInt8} {f : α → β} (hk : ∀ a, kb (f a) = ka a) (k : List UInt8) (l : List α) : (getK ka k l).map f = getK kb k (l.map f) := by
  unfold getK
  rw [List.filter_map]
  congr 1
  apply List.filter_congr
  intro x _
  simp [hk]

theorem dds_getK (k : List UInt8) (es : List Ent) : dds (getK keyE k es) = getK keyD k (dds es) := map_getK (f := fun e : Ent => e.1) (ka := keyE) (kb := keyD) (fun _ => rfl) k es

theorem dds_put (d : Ent) (l : List Ent) : dds (putK keyE d l) = putK keyD d.1 (dds l) := map_putK (f := fun e : Ent => e.1) (ka := keyE) (kb := keyD) (fun _ => rfl) d l
theorem dds_drop (k : List UInt8) (l : List Ent) : dds (dropK keyE k l) = dropK keyD k (dds l) := map_dropK (f := fun e : Ent => e.1) (ka := keyE) (kb := keyD) (fun _ => rfl) k l
theorem dds_puts : ∀ (r l : List Ent), dds (r.foldl (fun o d => putK keyE d o) l) = (dds r).foldl (fun o d => putK keyD d o) (dds l)
  | [], _ => rfl
  | d :: r, l => by
    rw [List.foldl_cons, dds_puts r, dds_put]
    rfl

end Go.Proofs.YtlnincdmdegaoaaGreat

/-
  CONTRACT of the reference of layer 7: Split.
-/
namespace Go.Proofs.YtlnincdmdegaoaaGreat
open Go.RowKit Go.Mk

end Go.Proofs.YtlnincdmdegaoaaGreat
