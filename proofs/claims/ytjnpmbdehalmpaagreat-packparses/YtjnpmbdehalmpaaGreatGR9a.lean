/-
  Lemmas towards the claim of this folder: contracts of the functions that the law reaches; joined texts.
-/
import Derived.Test.YtjnpmbdehalmpaaGreatGKp
import Derived.Test.YtjnpmbdehalmpaaGreatGPe
import Derived.Deep.RegionHeld
import Derived.Test.YtjnpmbdehalmpaaGreatGR7
import Derived.Test.YtjnpmbdehalmpaaGreatGR8
import Derived.Test.YtjnpmbdehalmpaaGreatGNc
import Derived.Test.YtjnpmbdehalmpaaGreatGSr
import Derived.Laws.IdiomRangeMap
/-
  The reference of layers 7 and 9: SameAll, Get, side.
-/
namespace Go.Proofs.YtjnpmbdehalmpaaGreat
open Go.RowKit Go.Mk Go.Maps

/-- Two definitions' cells in rows. -/
abbrev cellsBB (b1 o1 b2 o2 : Nat) (x y : Ent) (w' : World) : Prop :=
  w'.cell? ⟨b1, o1, none⟩ = some (.int .i64 x.1.k) ∧ w'.cell? ⟨b1, o1 + 1, none⟩ = some (.string (bs x.1.c)) ∧ w'.cell? ⟨b1, o1 + 2, none⟩ = some (.string (bs x.1.p)) ∧ w'.cell? ⟨b1, o1 + 3, none⟩ = some (.slice x.2.1 x.1.vs.length x.2.2) ∧ w'.cell? ⟨b1, o1 + 4, none⟩ = some (.string (bs x.1.s)) ∧ w'.cell? ⟨b1, o1 + 5, none⟩ = some (.string (bs x.1.t)) ∧
  w'.cell? ⟨b2, o2, none⟩ = some (.int .i64 y.1.k) ∧ w'.cell? ⟨b2, o2 + 1, none⟩ = some (.string (bs y.1.c)) ∧ w'.cell? ⟨b2, o2 + 2, none⟩ = some (.string (bs y.1.p)) ∧ w'.cell? ⟨b2, o2 + 3, none⟩ = some (.slice y.2.1 y.1.vs.length y.2.2) ∧ w'.cell? ⟨b2, o2 + 4, none⟩ = some (.string (bs y.1.s)) ∧ w'.cell? ⟨b2, o2 + 5, none⟩ = some (.string (bs y.1.t))

theorem cellsBB_of {b1 o1 b2 o2 : Nat} {x y : Ent} {w : World} (h : Bo w b1 o1 x.2.1 x.2.2 x.1) (g : Bo w b2 o2 y.2.1 y.2.2 y.1) : cellsBB b1 o1 b2 o2 x y w := ⟨h.c0, h.c1, h.c2, h.c3, h.c4, h.c5, g.c0, g.c1, g.c2, g.c3, g.c4, g.c5⟩

def sameA (a b : List Ent) : Bool := decide (dds a = dds b)

theorem same_take {a b : List Ent} {j : Nat} (ha : j < a.length) (hb : j < b.length) (h : (dds a).take j = (dds b).take j) (he : a[j].1 = b[j].1) : (dds a).take (j + 1) = (dds b).take (j + 1) := by
  rw [dds_take a j ha, dds_take b j hb, h, he]

theorem same_ne {a b : List Ent} {j : Nat} (ha : j < a.length) (hb : j < b.length) (he : a[j].1 ≠ b[j].1) : sameA a b = false := by
  refine decide_eq_false (fun h => he ?_)
  have e1 := dds_get a j ha
  have e2 := dds_get b j hb
  rw [← e1, ← e2]
  simp only [h]

set_option maxHeartbeats 1000000 in
set_option maxRecDepth 100000 in
theorem rsameall_any (la : Option Addr) (lc : Nat) (a : List Ent) (lb : Option Addr) (ld : Nat) (b : List Ent) (B : Nat) (w : World) (hA : Ds w B la a) (hB : Ds w B lb b) (ha : ∀ e ∈ a, e.1.vs.length ≤ 1000000) (hb : ∀ e ∈ b, e.1.vs.length ≤ 1000000) (hn : a.length ≤ 1000000) :
    Calls Tryz.prog 37 #[.slice la a.length lc, .slice lb b.length ld] w fun e w' => e = .returned (.bool (sameA a b)) ∧ Kept (fun _ => False) w w' := by
  have HA := Lib.hid hA; have HB := Lib.hid hB; have HLA := Lib.hid ha; have HLB := Lib.hid hb
  clear hA hB ha hb
  by_cases hl : a.length = b.length
  · have HL := Lib.hid hl
    have h1 : (b.length : Int) = (a.length : Int) := by omega
    clear hl
    go_enter Tryz.func37, Tryz.ntmps37
    go_wp2
    go_loopg [5] a.length (fun k c wr => ∃ j, k = a.length - j ∧ j ≤ a.length ∧ c = .int .i64 (j : Int) ∧ (dds a).take j = (dds b).take j ∧ Kept (fun _ => False) w wr)
    case atStart => exact ⟨0, rfl, Nat.zero_le _, rfl, rfl, Kept.refl _ _⟩
    case round =>
      obtain ⟨j, hk, hj, rfl, htk, hw⟩ := hrel
      have HK := Lib.hid hk; have HTK := Lib.hid htk; have HW := Lib.hid hw
      clear hk htk hw
      by_cases hlt : j < a.length
      · have hlt2 : j < b.length := by have := HL.out; omega
        obtain ⟨xa, xo, rfl, hxa, hca⟩ := HA.out.row (by intro h; rw [h] at hlt; simp at hlt)
        obtain ⟨ya, yo, rfl, hya, hcb⟩ := HB.out.row (by intro h; rw [h] at hlt2; simp at hlt2)
        have HBA := Lib.hid ((hca j hlt).kept HW.out (fun h => h))
        have HBB := Lib.hid ((hcb j hlt2).kept HW.out (fun h => h))
        have HNE := Lib.hid (fun h => same_ne (a := a) (b := b) hlt hlt2 h)
        have HTA := Lib.hid (fun h => same_take (a := a) (b := b) hlt hlt2 HTK.out h)
        have HSA := Lib.hid (fun (wx : World) (h : Kept (fun _ => False) wr wx) => rsame7_any a[j].1 b[j].1 a[j].2.1 b[j].2.1 a[j].2.2 b[j].2.2 B wx (((HA.out.lies _ (List.getElem_mem hlt)).1.kept HW.out (fun _ _ _ h => h)).kept h (fun _ _ _ h => h)) (((HB.out.lies _ (List.getElem_mem hlt2)).1.kept HW.out (fun _ _ _ h => h)).kept h (fun _ _ _ h => h)) (by have := HLA.out _ (List.getElem_mem hlt); omega) (by have := HLB.out _ (List.getElem_mem hlt2); omega))
        have i1 : (j : Int) < (a.length : Int) := by omega
        clear hca hcb
        generalize a[j] = x at *
        generalize b[j] = y at *
        obtain ⟨d, ao, cap⟩ := x
        obtain ⟨d', ao', cap'⟩ := y
        dsimp only at HBA HBB HNE HTA HSA
        have HDR := Lib.hid (Kept.drew (Kept.refl (fun _ => False) wr))
        go_upto_region 6 with fail
        have hS := cellsBB_of (x := (d, ao, cap)) (y := (d', ao', cap')) (HBA.out.kept HDR.out (fun h => h)) (HBB.out.kept HDR.out (fun h => h))
        go_region_held (cellsBB xa (xo + j * 6) ya (yo + j * 6) (d, ao, cap) (d', ao', cap')) (with_reducible assumption) (first
          | (go_at_call 50; refine (HSA.out _ HDR.out).mono ?_; rintro e w1 ⟨rfl, k1⟩; have K1 := Lib.hid ((HW.out.trans HDR.out (fun _ _ h => h)).trans k1 (fun _ _ h => h)); have hS1 := cellsBB_of (x := (d, ao, cap)) (y := (d', ao', cap')) ((HBA.out.kept HDR.out (fun h => h)).kept k1 (fun h => h)) ((HBB.out.kept HDR.out (fun h => h)).kept k1 (fun h => h)); clear k1))
        all_goals cases hs : sameB d d' with
          | true =>
            have HE := Lib.hid (HTA.out ((sameB_iff _ _).1 hs)); clear hs
            go_wp2
            go_roundg (a.length - (j + 1))
            case measure => have := HK.out; omega
            case rel => exact ⟨j + 1, rfl, by omega, by go_num, HE.out, K1.out⟩
          | false =>
            have HE := Lib.hid (HNE.out (fun h => by rw [h, sameB_refl] at hs; cases hs)); clear hs
            go_wp2
            go_ret
            exact ⟨by rw [HE.out]; rfl, K1.out⟩
      · obtain rfl : j = a.length := by omega
        have HE := Lib.hid (show sameA a b = true from by
          have h := HTK.out
          rw [← dds_len a, List.take_length, dds_len a, HL.out, ← dds_len b, List.take_length] at h
          exact decide_eq_true h)
        clear hlt
        go_wp2
        go_ret
        exact ⟨by rw [HE.out]; rfl, HW.out⟩
  · have HE := Lib.hid (show sameA a b = false from decide_eq_false (fun h => hl (by rw [← dds_len a, ← dds_len b, h])))
    have h1 : ¬ (a.length : Int) = (b.length : Int) := by omega
    clear hl
    go_enter Tryz.func37, Tryz.ntmps37
    go_wp2
    go_ret
    exact ⟨by rw [HE.out]; rfl, Kept.refl _ _⟩

theorem bo_one (w : World) (e : Ent) (t : TypeId) : Bo (w.alloc (.cells #[.int .i64 e.1.k, .string (bs e.1.c), .string (bs e.1.p), .slice e.2.1 e.1.vs.length e.2.2, .string (bs e.1.s), .string (bs e.1.t)] t)) w.heap.size 0 e.2.1 e.2.2 e.1 := by
  have h := fun j => World.cell?_alloc_new w (cellsE1 e).toArray t j
  exact ⟨h 0, h 1, h 2, h 3, h 4, h 5⟩

/-- One definition in a row of its own. -/
theorem sd_one (w : World) (e : Ent) (t : TypeId) (h : Lies w w.heap.size e.2.1 (strs e.1.vs) ∧ e.1.vs.length ≤ e.2.2) : SDs (w.alloc (.cells #[.int .i64 e.1.k, .string (bs e.1.c), .string (bs e.1.p), .slice e.2.1 e.1.vs.length e.2.2, .string (bs e.1.s), .string (bs e.1.t)] t)) (w.heap.size + 1) ⟨some ⟨w.heap.size, 0, none⟩, 1, [e]⟩ := by
  refine ⟨⟨fun _ => ⟨w.heap.size, 0, rfl, by omega, fun j hj => ?_⟩, fun x hx => ?_⟩, Nat.le_refl _⟩
  · simp only [List.length_singleton] at hj
    obtain rfl : j = 0 := by omega
    exact bo_one w e t
  · rw [List.mem_singleton] at hx
    subst hx
    exact ⟨(h.1.kept (S := fun _ => False) ((Kept.refl _ w).alloc _) (fun _ _ _ h => h)).mono (by omega), h.2⟩

/-- What is there under a key: a list of its own. -/
def SdQ (w : World) (es : List Ent) (e : Ending) (w' : World) : Prop := ∃ ao cap, e = .returned (.slice ao es.length cap) ∧ SDs w' w'.heap.size ⟨ao, cap, es⟩ ∧ (es ≠ [] → ∃ g, ao = some ⟨g, 0, none⟩ ∧ w.heap.size ≤ g) ∧ Kept (fun _ => False) w w'

theorem map_getK {α β : Type} {ka : α → List UInt8} {kb : β → List UInt8} {f : α → β} (hk : ∀ a, kb (f a) = ka a) (k : List UInt8) (l : List α) : (getK ka k l).map f = getK kb k (l.map f) := by
  unfold getK
  rw [List.filter_map]
  congr 1
  apply List.filter_congr
  intro x _
  simp [hk]

theorem dds_getK (k : List UInt8) (es : List Ent) : dds (getK keyE k es) = getK keyD k (dds es) := map_getK (f := fun e : Ent => e.1) (ka := keyE) (kb := keyD) (fun _ => rfl) k es

theorem dds_put (d : Ent) (l : List Ent) : dds (putK keyE d l) = putK keyD d.1 (dds l) := map_putK (f := fun e : Ent => e.1) (ka := keyE) (kb := keyD) (fun _ => rfl) d l
theorem dds_drop (k : List UInt8) (l : List Ent) : dds (dropK keyE k l) = dropK keyD k (dds l) := map_dropK (f := fun e : Ent => e.1) (ka := keyE) (kb := keyD) (fun _ => rfl) k l
theorem dds_puts : ∀ (r l : List Ent), dds (r.foldl (fun o d => putK keyE d o) l) = (dds r).foldl (fun o d => putK keyD d o) (dds l)
  | [], _ => rfl
  | d :: r, l => by
    rw [List.foldl_cons, dds_puts r, dds_put]
    rfl

end Go.Proofs.YtjnpmbdehalmpaaGreat

/-
  CONTRACT of the reference of layer 7: Split.
-/
namespace Go.Proofs.YtjnpmbdehalmpaaGreat
open Go.RowKit Go.Mk

end Go.Proofs.YtjnpmbdehalmpaaGreat

/-
  snap.New: the walk.
-/
namespace Go.Proofs.YtjnpmbdehalmpaaGreat
open Go.RowKit Go.Mk Go.Maps

set_option maxHeartbeats 2000000 in
set_option maxRecDepth 100000 in
theorem snew_any (la : Option Addr) (lc : Nat) (es : List Ent) (B : Nat) (w : World) (hB : B ≤ w.heap.size) (hD : Ds w B la es) (hl : ∀ e ∈ es, Len8 e.1) (hn : es.length ≤ 1000000) :
    Calls Tryz.prog 19 #[.slice la es.length lc] w (NwPost w (newL (dds es))) := by
  have N0 := Lib.hid (nw_new w)
  have HD := Lib.hid hD; have HL := Lib.hid hl; have HB := Lib.hid hB
  clear hD hl hB
  have hmm := @run_makeMap Tryz.prog
  go_enter Tryz.func19, Tryz.ntmps19
  go_wp2
  go_loopg [15] es.length (fun k c wr => ∃ j m, k = es.length - j ∧ j ≤ es.length ∧ c = .int .i64 (j : Int) ∧ newL ((dds es).take j) = (0, dds m) ∧ m.length ≤ j ∧ Nw w m wr)
  case atStart => exact ⟨0, [], rfl, Nat.zero_le _, rfl, rfl, Nat.zero_le _, N0.out⟩
  case round =>
    obtain ⟨j, m, hk, hj, rfl, hnew, hml, hw⟩ := hrel
    have HK := Lib.hid hk; have HNEW := Lib.hid hnew; have HML := Lib.hid hml; have HW := Lib.hid hw
    clear hk hnew hml hw
    by_cases hlt : j < es.length
    · obtain ⟨xb, xo, rfl, hxb, hc⟩ := HD.out.row (by intro h; rw [h] at hlt; simp at hlt)
      have hmem := List.getElem_mem hlt
      have hstep := newL_step ((dds es).take j) es[j].1
      rw [← dds_take es j hlt, HNEW.out] at hstep
      obtain ⟨c0, c1, c2, c3, c4, c5⟩ := (hc j hlt).kept HW.out.k (fun h => h)
      have HLE := Lib.hid (HL.out es[j] hmem)
      have HLI := Lib.hid (HD.out.lies es[j] hmem)
      have i1 : (j : Int) < (es.length : Int) := by omega
      have HS := Lib.hid hstep
      clear hc hstep hmem
      generalize es[j] = x at *
      obtain ⟨d, ao, cap⟩ := x
      dsimp only at c0 c1 c2 c3 c4 c5 HLE HLI HS
      have KA := Lib.hid ((Kept.refl (fun _ => False) wr).alloc (.cells #[.int .i64 d.k, .string (bs d.c), .string (bs d.p), .slice ao d.vs.length cap, .string (bs d.s), .string (bs d.t)] 46))
      have BX := Lib.hid (bx_new wr ao cap d 46)
      have HKEY := Lib.hid (fun (wx : World) (h : Kept (fun _ => False) wr wx) => dkey_any d ao cap B wx ((HLI.out.1.kept HW.out.k (fun _ _ _ h => h)).kept h (fun _ _ _ h => h)) HLI.out.2 HLE.out.s HLE.out.c)
      have HCP := Lib.hid (fun (wx : World) (h : Kept (fun _ => False) wr wx) => copy_any d ao cap B wx ((HLI.out.1.kept HW.out.k (fun _ _ _ h => h)).kept h (fun _ _ _ h => h)) HLE.out)
      have HRG := Lib.hid (keyD_iff d)
      have hN : newS (0, dds m) d = if keyD d = [] then (31, []) else if hasK keyE (keyD d) m = true then (45, []) else if 500 ≤ m.length then (21, []) else (0, putK keyD d (dds m)) := by
        have e1 : hasK keyD (keyD d) (dds m) = hasK keyE (keyD d) m := map_hasK (f := fun e : Ent => e.1) (ka := keyE) (kb := keyD) (fun _ => rfl) _ _
        unfold newS
        rw [if_neg (by simp), e1, dds_len]
      have HN := Lib.hid (HS.out.trans hN)
      have HPK := Lib.hid (show ∀ ao cap, putK keyD d (dds m) = dds (putK keyE (d, ao, cap) m) from fun ao cap => (map_putK (f := fun e : Ent => e.1) (ka := keyE) (kb := keyD) (fun _ => rfl) (d, ao, cap) m).symm)
      clear hN HS
      have HKL := Lib.hid (key_len HLE.out)
      have HKE := Lib.hid (show ∀ ao cap, keyE (d, ao, cap) = keyD d from fun _ _ => rfl)
      generalize keyD d = key at *
      go_wp2_with fail
      refine (HKEY.out _ KA.out).mono ?_
      rintro e w1 ⟨rfl, k1⟩
      have K1 := Lib.hid (KA.out.trans k1 (fun _ _ h => h))
      have B1 := Lib.hid (BX.out.kept k1 (fun h => h))
      have W1 := Lib.hid (HW.out.keep K1.out)
      clear k1 c0 c1 c2 c3 c4 c5
      have z1 := bs_list key
      cases key with
      | nil =>
        have hs := HN.out
        rw [if_pos rfl] at hs
        have HE := Lib.hid (newL_stop (l := dds es) (j := j + 1) (by rw [hs]; simp))
        rw [hs] at HE
        clear hs
        go_wp2
        go_ret2
        rw [HE.out]
        exact nw_err (by decide) W1.out.k
      | cons q key =>
        generalize hkk : q :: key = kk at *
        have hs := HN.out
        rw [if_neg (by rw [← hkk]; simp)] at hs
        have hne : (kk == []) = false := by rw [← hkk]; rfl
        have HRT := Lib.hid (show rightD d = true by
          cases h : rightD d
          · have := HRG.out.2 h; rw [← hkk] at this; cases this
          · rfl)
        clear hkk
        have cm := W1.out.cell
        cases hh : hasK keyE kk m with
        | true =>
          rw [if_pos hh] at hs
          have HE := Lib.hid (newL_stop (l := dds es) (j := j + 1) (by rw [hs]; simp))
          rw [hs] at HE
          obtain ⟨x, hx, hxk⟩ := hasK_iff.1 hh
          have hlk := (W1.out.tb.look hx (by rw [hxk]; exact HKL.out)).1
          rw [hxk] at hlk
          unfold valE at hlk
          have KB := Lib.hid (W1.out.k.alloc (.cells #[.int .i64 x.1.k, .string (bs x.1.c), .string (bs x.1.p), .slice x.2.1 x.1.vs.length x.2.2, .string (bs x.1.s), .string (bs x.1.t)] 46))
          clear hs hh hx hxk
          go_wp2
          go_ret2
          rw [HE.out]
          exact nw_err (by decide) KB.out
        | false =>
          rw [if_neg (by simp [hh])] at hs
          have hlk := W1.out.tb.look_no hh HKL.out
          unfold valE at hlk
          have KB := Lib.hid ((Kept.refl (fun _ => False) w1).alloc (.cells #[.int .i64 zeroD.k, .string (bs zeroD.c), .string (bs zeroD.p), .slice none zeroD.vs.length 0, .string (bs zeroD.s), .string (bs zeroD.t)] 46))
          have W2 := Lib.hid (W1.out.keep KB.out)
          have HS2 := Lib.hid hs
          clear hs hh
          go_wp2_with fail
          refine (full_any W2.out.sn).mono ?_
          rintro e w2 ⟨rfl, hw2⟩
          have B2 := Lib.hid (B1.out.kept KB.out (fun h => h))
          have K2 := Lib.hid (K1.out.trans KB.out (fun _ _ h => h))
          rw [hw2] at W2 B2 K2
          clear hw2 hlk cm
          rw [dds_len]
          by_cases hf : 500 ≤ m.length
          · have hd : decide (500 ≤ m.length) = true := decide_eq_true hf
            rw [hd]
            have hs := HS2.out
            rw [if_pos hf] at hs
            have HE := Lib.hid (newL_stop (l := dds es) (j := j + 1) (by rw [hs]; simp))
            rw [hs] at HE
            clear hs hd hf
            go_wp2
            go_ret2
            rw [HE.out]
            exact nw_err (by decide) W2.out.k
          · have hd : decide (500 ≤ m.length) = false := decide_eq_false hf
            rw [hd]
            have hs := HS2.out
            rw [if_neg hf] at hs
            have HE := Lib.hid hs
            have hm5 : m.length ≤ 1000000 := by omega
            have HM5 := Lib.hid hm5
            clear hs hd hf HS2 hm5
            have WD := Lib.hid (W2.out.keep (Kept.drew (Kept.refl _ w2)))
            have BD := Lib.hid (B2.out.kept (S := fun _ => False) (Kept.drew (Kept.refl _ w2)) (fun h => h))
            have KD := Lib.hid (K2.out.trans (Kept.drew (Kept.refl (fun _ => False) w2)) (fun _ _ h => h))
            have hS : w2.drew.cell? ⟨w.heap.size + 1, 0, none⟩ = some (.map (some w.heap.size)) ∧ w2.drew.cell? ⟨wr.heap.size, 0, none⟩ = some (.int .i64 d.k) ∧ w2.drew.cell? ⟨wr.heap.size, 1, none⟩ = some (.string (bs d.c)) ∧ w2.drew.cell? ⟨wr.heap.size, 2, none⟩ = some (.string (bs d.p)) ∧ w2.drew.cell? ⟨wr.heap.size, 3, none⟩ = some (.slice ao d.vs.length cap) ∧ w2.drew.cell? ⟨wr.heap.size, 4, none⟩ = some (.string (bs d.s)) ∧ w2.drew.cell? ⟨wr.heap.size, 5, none⟩ = some (.string (bs d.t)) := ⟨WD.out.cell, BD.out.c0, BD.out.c1, BD.out.c2, BD.out.c3, BD.out.c4, BD.out.c5⟩
            go_upto_region 13 with fail
            go_region_held (fun w' => w'.cell? ⟨w.heap.size + 1, 0, none⟩ = some (.map (some w.heap.size)) ∧ w'.cell? ⟨wr.heap.size, 0, none⟩ = some (.int .i64 d.k) ∧ w'.cell? ⟨wr.heap.size, 1, none⟩ = some (.string (bs d.c)) ∧ w'.cell? ⟨wr.heap.size, 2, none⟩ = some (.string (bs d.p)) ∧ w'.cell? ⟨wr.heap.size, 3, none⟩ = some (.slice ao d.vs.length cap) ∧ w'.cell? ⟨wr.heap.size, 4, none⟩ = some (.string (bs d.s)) ∧ w'.cell? ⟨wr.heap.size, 5, none⟩ = some (.string (bs d.t))) (with_reducible assumption) (first
              | (go_at_call 58; refine (HCP.out _ KD.out).mono ?_; rintro e w3 ⟨ao3, cap3, rfl, ho3, k3⟩; have W3 := Lib.hid (WD.out.keep k3); have B3 := Lib.hid (BD.out.kept k3 (fun h => h)); have hS3 := (show w3.cell? ⟨w.heap.size + 1, 0, none⟩ = some (.map (some w.heap.size)) ∧ w3.cell? ⟨wr.heap.size, 0, none⟩ = some (.int .i64 d.k) ∧ w3.cell? ⟨wr.heap.size, 1, none⟩ = some (.string (bs d.c)) ∧ w3.cell? ⟨wr.heap.size, 2, none⟩ = some (.string (bs d.p)) ∧ w3.cell? ⟨wr.heap.size, 3, none⟩ = some (.slice ao d.vs.length cap) ∧ w3.cell? ⟨wr.heap.size, 4, none⟩ = some (.string (bs d.s)) ∧ w3.cell? ⟨wr.heap.size, 5, none⟩ = some (.string (bs d.t)) from ⟨W3.out.cell, B3.out.c0, B3.out.c1, B3.out.c2, B3.out.c3, B3.out.c4, B3.out.c5⟩);
                 obtain ⟨w4, hrun, hw4, k4⟩ := W3.out.put (d, ao3, cap3) HRT.out ⟨owns_lies ho3, owns_cap ho3⟩ HLE.out HM5.out; rw [HKE.out] at hrun; have W4 := Lib.hid hw4; have B4 := Lib.hid (B3.out.kept k4 (by have := HW.out.sz; omega)); have hS4 := (show w4.cell? ⟨w.heap.size + 1, 0, none⟩ = some (.map (some w.heap.size)) ∧ w4.cell? ⟨wr.heap.size, 0, none⟩ = some (.int .i64 d.k) ∧ w4.cell? ⟨wr.heap.size, 1, none⟩ = some (.string (bs d.c)) ∧ w4.cell? ⟨wr.heap.size, 2, none⟩ = some (.string (bs d.p)) ∧ w4.cell? ⟨wr.heap.size, 3, none⟩ = some (.slice ao d.vs.length cap) ∧ w4.cell? ⟨wr.heap.size, 4, none⟩ = some (.string (bs d.s)) ∧ w4.cell? ⟨wr.heap.size, 5, none⟩ = some (.string (bs d.t)) from ⟨W4.out.cell, B4.out.c0, B4.out.c1, B4.out.c2, B4.out.c3, B4.out.c4, B4.out.c5⟩); clear ho3 k3 hw4 k4))
            all_goals go_wp2
            all_goals go_roundg (es.length - (j + 1))
            case measure => have := HK.out; omega
            case rel => exact ⟨j + 1, _, rfl, by omega, by go_num, by rw [HE.out, HPK.out ao3 cap3], Nat.le_trans (putK_le HW.out.tb.rise) (by have := HML.out; omega), W4.out⟩
    · obtain rfl : j = es.length := by omega
      have hs := HNEW.out
      rw [← dds_len, List.take_length] at hs
      have HE := Lib.hid hs
      clear hs hlt
      go_wp2
      go_ret2
      rw [HE.out]
      exact ⟨.pointer (some ⟨w.heap.size + 1, 0, none⟩), rfl, fun _ => ⟨_, rfl⟩, fun h => (h rfl).elim, HW.out.sn, HW.out.k⟩

end Go.Proofs.YtjnpmbdehalmpaaGreat

/-
  maps.Copy of definitions into an empty map; Drop.
-/
namespace Go.Proofs.YtjnpmbdehalmpaaGreat
open Go.RowKit Go.Mk Go.Maps

theorem agree_all {Dout D0 : DataW Value} {left : Lit → Bool} (hA : Agree Dout D0 left) (hl : ∀ k, left k = false) (c1 : Canon Dout) (c2 : Canon D0) : Dout = D0 := agree_end hA hl c1 c2

end Go.Proofs.YtjnpmbdehalmpaaGreat
