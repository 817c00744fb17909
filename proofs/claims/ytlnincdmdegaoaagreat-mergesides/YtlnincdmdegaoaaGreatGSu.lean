/-
  Lemmas towards the claim of this folder: contracts of the functions that the law reaches; joined texts.
-/
import Derived.Test.YtlnincdmdegaoaaGreatGDh
import Derived.Laws.IdiomRangeMap
import Derived.Deep.CutBlock
import Derived.Deep.DeepCutAuto
/-
  snap.New: the walk.
-/
namespace Go.Proofs.YtlnincdmdegaoaaGreat
open Go.RowKit Go.Mk Go.Maps

set_option maxHeartbeats 2000000 in
set_option maxRecDepth 100000 in
theorem snew_any (la : Option Addr) (lc : Nat) (es : List Ent) (B : Nat) (w : World) (hB : B ≤ w.heap.size) (hD : Ds w B la es) (hl : ∀ e ∈ es, Len8 e.1) (hn : es.length ≤ 1000000) :
    Calls Tryz.prog 23 #[.slice la es.length lc] w (NwPost w (newL (dds es))) := by
  have N0 := Lib.hid (nw_new w)
  have HD := Lib.hid hD; have HL := Lib.hid hl; have HB := Lib.hid hB
  clear hD hl hB
  have hmm := @run_makeMap Tryz.prog
  go_enter Tryz.func23, Tryz.ntmps23
  go_wp2
  go_loopg [15] es.length (fun k c wr => ∃ j m, k = es.length - j ∧ j ≤ es.length ∧ c = .int .i64 (j : Int) ∧ newL ((dds es).take j) = (0, dds m) ∧ m.length ≤ j ∧ Nw w m wr)
  case atStart => exact ⟨0, [], rfl, Nat.zero_le _, rfl, rfl, Nat.zero_le _, N0.out⟩
  case round =>
    obtain ⟨j, m, hk, hj, rfl, hnew, hml, hw⟩ := hrel
    have HK := Lib.hid hk; have HNEW := Lib.hid hnew; have HML := Lib.hid hml; have HW := Lib.hid hw
    clear hk hnew hml hw
    by_cases hlt : j < es.length
    · obtain ⟨xb, xo, rfl, hxb, hc⟩ := HD.out.row (by intro h; rw [h] at hlt; simp at hlt)
      have hmem := List.getElem_mem hlt
      have hstep := newL_step ((dds es).take j) es[j].1
      rw [← dds_take es j hlt, HNEW.out] at hstep
      obtain ⟨c0, c1, c2, c3, c4, c5⟩ := (hc j hlt).kept HW.out.k (fun h => h)
      have HLE := Lib.hid (HL.out es[j] hmem)
      have HLI := Lib.hid (HD.out.lies es[j] hmem)
      have i1 : (j : Int) < (es.length : Int) := by omega
      have HS := Lib.hid hstep
      clear hc hstep hmem
      generalize es[j] = x at *
      obtain ⟨d, ao, cap⟩ := x
      dsimp only at c0 c1 c2 c3 c4 c5 HLE HLI HS
      have KA := Lib.hid ((Kept.refl (fun _ => False) wr).alloc (.cells #[.int .i64 d.k, .string (bs d.c), .string (bs d.p), .slice ao d.vs.length cap, .string (bs d.s), .string (bs d.t)] 43))
      have BX := Lib.hid (bx_new wr ao cap d 43)
      have HKEY := Lib.hid (fun (wx : World) (h : Kept (fun _ => False) wr wx) => dkey_any d ao cap B wx ((HLI.out.1.kept HW.out.k (fun _ _ _ h => h)).kept h (fun _ _ _ h => h)) HLI.out.2 HLE.out.s HLE.out.c)
      have HCP := Lib.hid (fun (wx : World) (h : Kept (fun _ => False) wr wx) => copy_any d ao cap B wx ((HLI.out.1.kept HW.out.k (fun _ _ _ h => h)).kept h (fun _ _ _ h => h)) HLE.out)
      have HRG := Lib.hid (keyD_iff d)
      have hN : newS (0, dds m) d = if keyD d = [] then (31, []) else if hasK keyE (keyD d) m = true then (45, []) else if 500 ≤ m.length then (21, []) else (0, putK keyD d (dds m)) := by
        have e1 : hasK keyD (keyD d) (dds m) = hasK keyE (keyD d) m := map_hasK (f := fun e : Ent => e.1) (ka := keyE) (kb := keyD) (fun _ => rfl) _ _
        unfold newS
        rw [if_neg (by simp), e1, dds_len]
      have HN := Lib.hid (HS.out.trans hN)
      have HPK := Lib.hid (show ∀ ao cap, putK keyD d (dds m) = dds (putK keyE (d, ao, cap) m) from fun ao cap => (map_putK (f := fun e : Ent => e.1) (ka := keyE) (kb := keyD) (fun _ => rfl) (d, ao, cap) m).symm)
      clear hN HS
      have HKL := Lib.hid (key_len HLE.out)
      have HKE := Lib.hid (show ∀ ao cap, keyE (d, ao, cap) = keyD d from fun _ _ => rfl)
      generalize keyD d = key at *
      go_wp2_with fail
      refine (HKEY.out _ KA.out).mono ?_
      rintro e w1 ⟨rfl, k1⟩
      have K1 := Lib.hid (KA.out.trans k1 (fun _ _ h => h))
      have B1 := Lib.hid (BX.out.kept k1 (fun h => h))
      have W1 := Lib.hid (HW.out.keep K1.out)
      clear k1 c0 c1 c2 c3 c4 c5
      have z1 := bs_list key
      cases key with
      | nil =>
        have hs := HN.out
        rw [if_pos rfl] at hs
        have HE := Lib.hid (newL_stop (l := dds es) (j := j + 1) (by rw [hs]; simp))
        rw [hs] at HE
        clear hs
        go_wp2
        go_ret2
        rw [HE.out]
        exact nw_err (by decide) W1.out.k
      | cons q key =>
        generalize hkk : q :: key = kk at *
        have hs := HN.out
        rw [if_neg (by rw [← hkk]; simp)] at hs
        have hne : (kk == []) = false := by rw [← hkk]; rfl
        have HRT := Lib.hid (show rightD d = true by
          cases h : rightD d
          · have := HRG.out.2 h; rw [← hkk] at this; cases this
          · rfl)
        clear hkk
        have cm := W1.out.cell
        cases hh : hasK keyE kk m with
        | true =>
          rw [if_pos hh] at hs
          have HE := Lib.hid (newL_stop (l := dds es) (j := j + 1) (by rw [hs]; simp))
          rw [hs] at HE
          obtain ⟨x, hx, hxk⟩ := hasK_iff.1 hh
          have hlk := (W1.out.tb.look hx (by rw [hxk]; exact HKL.out)).1
          rw [hxk] at hlk
          unfold valE at hlk
          have KB := Lib.hid (W1.out.k.alloc (.cells #[.int .i64 x.1.k, .string (bs x.1.c), .string (bs x.1.p), .slice x.2.1 x.1.vs.length x.2.2, .string (bs x.1.s), .string (bs x.1.t)] 43))
          clear hs hh hx hxk
          go_wp2
          go_ret2
          rw [HE.out]
          exact nw_err (by decide) KB.out
        | false =>
          rw [if_neg (by simp [hh])] at hs
          have hlk := W1.out.tb.look_no hh HKL.out
          unfold valE at hlk
          have KB := Lib.hid ((Kept.refl (fun _ => False) w1).alloc (.cells #[.int .i64 zeroD.k, .string (bs zeroD.c), .string (bs zeroD.p), .slice none zeroD.vs.length 0, .string (bs zeroD.s), .string (bs zeroD.t)] 43))
          have W2 := Lib.hid (W1.out.keep KB.out)
          have HS2 := Lib.hid hs
          clear hs hh
          go_wp2_with fail
          refine (full_any W2.out.sn).mono ?_
          rintro e w2 ⟨rfl, hw2⟩
          have B2 := Lib.hid (B1.out.kept KB.out (fun h => h))
          have K2 := Lib.hid (K1.out.trans KB.out (fun _ _ h => h))
          rw [hw2] at W2 B2 K2
          clear hw2 hlk cm
          rw [dds_len]
          by_cases hf : 500 ≤ m.length
          · have hd : decide (500 ≤ m.length) = true := decide_eq_true hf
            rw [hd]
            have hs := HS2.out
            rw [if_pos hf] at hs
            have HE := Lib.hid (newL_stop (l := dds es) (j := j + 1) (by rw [hs]; simp))
            rw [hs] at HE
            clear hs hd hf
            go_wp2
            go_ret2
            rw [HE.out]
            exact nw_err (by decide) W2.out.k
          · have hd : decide (500 ≤ m.length) = false := decide_eq_false hf
            rw [hd]
            have hs := HS2.out
            rw [if_neg hf] at hs
            have HE := Lib.hid hs
            have hm5 : m.length ≤ 1000000 := by omega
            have HM5 := Lib.hid hm5
            clear hs hd hf HS2 hm5
            have WD := Lib.hid (W2.out.keep (Kept.drew (Kept.refl _ w2)))
            have BD := Lib.hid (B2.out.kept (S := fun _ => False) (Kept.drew (Kept.refl _ w2)) (fun h => h))
            have KD := Lib.hid (K2.out.trans (Kept.drew (Kept.refl (fun _ => False) w2)) (fun _ _ h => h))
            have hS : w2.drew.cell? ⟨w.heap.size + 1, 0, none⟩ = some (.map (some w.heap.size)) ∧ w2.drew.cell? ⟨wr.heap.size, 0, none⟩ = some (.int .i64 d.k) ∧ w2.drew.cell? ⟨wr.heap.size, 1, none⟩ = some (.string (bs d.c)) ∧ w2.drew.cell? ⟨wr.heap.size, 2, none⟩ = some (.string (bs d.p)) ∧ w2.drew.cell? ⟨wr.heap.size, 3, none⟩ = some (.slice ao d.vs.length cap) ∧ w2.drew.cell? ⟨wr.heap.size, 4, none⟩ = some (.string (bs d.s)) ∧ w2.drew.cell? ⟨wr.heap.size, 5, none⟩ = some (.string (bs d.t)) := ⟨WD.out.cell, BD.out.c0, BD.out.c1, BD.out.c2, BD.out.c3, BD.out.c4, BD.out.c5⟩
            go_upto_region 13 with fail
            go_region_held (fun w' => w'.cell? ⟨w.heap.size + 1, 0, none⟩ = some (.map (some w.heap.size)) ∧ w'.cell? ⟨wr.heap.size, 0, none⟩ = some (.int .i64 d.k) ∧ w'.cell? ⟨wr.heap.size, 1, none⟩ = some (.string (bs d.c)) ∧ w'.cell? ⟨wr.heap.size, 2, none⟩ = some (.string (bs d.p)) ∧ w'.cell? ⟨wr.heap.size, 3, none⟩ = some (.slice ao d.vs.length cap) ∧ w'.cell? ⟨wr.heap.size, 4, none⟩ = some (.string (bs d.s)) ∧ w'.cell? ⟨wr.heap.size, 5, none⟩ = some (.string (bs d.t))) (with_reducible assumption) (first
              | (go_at_call 38; refine (HCP.out _ KD.out).mono ?_; rintro e w3 ⟨ao3, cap3, rfl, ho3, k3⟩; have W3 := Lib.hid (WD.out.keep k3); have B3 := Lib.hid (BD.out.kept k3 (fun h => h)); have hS3 := (show w3.cell? ⟨w.heap.size + 1, 0, none⟩ = some (.map (some w.heap.size)) ∧ w3.cell? ⟨wr.heap.size, 0, none⟩ = some (.int .i64 d.k) ∧ w3.cell? ⟨wr.heap.size, 1, none⟩ = some (.string (bs d.c)) ∧ w3.cell? ⟨wr.heap.size, 2, none⟩ = some (.string (bs d.p)) ∧ w3.cell? ⟨wr.heap.size, 3, none⟩ = some (.slice ao d.vs.length cap) ∧ w3.cell? ⟨wr.heap.size, 4, none⟩ = some (.string (bs d.s)) ∧ w3.cell? ⟨wr.heap.size, 5, none⟩ = some (.string (bs d.t)) from ⟨W3.out.cell, B3.out.c0, B3.out.c1, B3.out.c2, B3.out.c3, B3.out.c4, B3.out.c5⟩);
                 obtain ⟨w4, hrun, hw4, k4⟩ := W3.out.put (d, ao3, cap3) HRT.out ⟨owns_lies ho3, owns_cap ho3⟩ HLE.out HM5.out; rw [HKE.out] at hrun; have W4 := Lib.hid hw4; have B4 := Lib.hid (B3.out.kept k4 (by have := HW.out.sz; omega)); have hS4 := (show w4.cell? ⟨w.heap.size + 1, 0, none⟩ = some (.map (some w.heap.size)) ∧ w4.cell? ⟨wr.heap.size, 0, none⟩ = some (.int .i64 d.k) ∧ w4.cell? ⟨wr.heap.size, 1, none⟩ = some (.string (bs d.c)) ∧ w4.cell? ⟨wr.heap.size, 2, none⟩ = some (.string (bs d.p)) ∧ w4.cell? ⟨wr.heap.size, 3, none⟩ = some (.slice ao d.vs.length cap) ∧ w4.cell? ⟨wr.heap.size, 4, none⟩ = some (.string (bs d.s)) ∧ w4.cell? ⟨wr.heap.size, 5, none⟩ = some (.string (bs d.t)) from ⟨W4.out.cell, B4.out.c0, B4.out.c1, B4.out.c2, B4.out.c3, B4.out.c4, B4.out.c5⟩); clear ho3 k3 hw4 k4))
            all_goals go_wp2
            all_goals go_roundg (es.length - (j + 1))
            case measure => have := HK.out; omega
            case rel => exact ⟨j + 1, _, rfl, by omega, by go_num, by rw [HE.out, HPK.out ao3 cap3], Nat.le_trans (putK_le HW.out.tb.rise) (by have := HML.out; omega), W4.out⟩
    · obtain rfl : j = es.length := by omega
      have hs := HNEW.out
      rw [← dds_len, List.take_length] at hs
      have HE := Lib.hid hs
      clear hs hlt
      go_wp2
      go_ret2
      rw [HE.out]
      exact ⟨.pointer (some ⟨w.heap.size + 1, 0, none⟩), rfl, fun _ => ⟨_, rfl⟩, fun h => (h rfl).elim, HW.out.sn, HW.out.k⟩

end Go.Proofs.YtlnincdmdegaoaaGreat

/-
  maps.Copy of definitions into an empty map; Drop.
-/
namespace Go.Proofs.YtlnincdmdegaoaaGreat
open Go.RowKit Go.Mk Go.Maps

theorem agree_all {Dout D0 : DataW Value} {left : Lit → Bool} (hA : Agree Dout D0 left) (hl : ∀ k, left k = false) (c1 : Canon Dout) (c2 : Canon D0) : Dout = D0 := agree_end hA hl c1 c2

end Go.Proofs.YtlnincdmdegaoaaGreat

/-
  CONTRACTS of package snap: Drop, Put.
-/
namespace Go.Proofs.YtlnincdmdegaoaaGreat
open Go.RowKit Go.Mk Go.Maps

/-- One entry less. -/
theorem Nw.drop {w : World} {m : List Ent} {wx : World} (h : Nw w m wx) (k : List UInt8) (hk : k.length ≤ maxLen) (ty : TypeId) :
    ∃ wy, (Builtin.delete_ #[57, 9] ty #[.map (some w.heap.size), .string (bs k)]).run Tryz.prog wx = .ok (.tuple #[]) wy ∧ Nw w (dropK keyE k m) wy ∧ Kept (fun k => k = w.heap.size) wx wy := by
  obtain ⟨wy, h1, h2, h3⟩ := h.tb.drop k hk h.tb.rows ty
  exact ⟨wy, h1, ⟨h2, (h3.cell (p := ⟨w.heap.size + 1, 0, none⟩) (World.block_lt_of_cell? _ _ h.cell) (by simp)).trans h.cell, h.k.trans h3 (fun i hi e => by omega), Nat.le_trans h.sz h3.size⟩, h3⟩

/-- Without some keys. -/
def dropsE (ks : List (List UInt8)) (m : List Ent) : List Ent := ks.foldl (fun m k => dropK keyE k m) m
def dropsD (ks : List (List UInt8)) (l : List DD) : List DD := ks.foldl (fun l k => dropK keyD k l) l

theorem dropsE_dds : ∀ (ks : List (List UInt8)) (m : List Ent), dds (dropsE ks m) = dropsD ks (dds m)
  | [], _ => rfl
  | k :: ks, m => by
    have := dropsE_dds ks (dropK keyE k m)
    unfold dropsE dropsD at *
    rw [List.foldl_cons, List.foldl_cons, this]
    congr 1
    exact map_dropK (f := fun e : Ent => e.1) (ka := keyE) (kb := keyD) (fun _ => rfl) k m

theorem dropsE_take (ks : List (List UInt8)) (m : List Ent) (j : Nat) (h : j < ks.length) : dropsE (ks.take (j + 1)) m = dropK keyE ks[j] (dropsE (ks.take j) m) := by
  unfold dropsE
  rw [List.take_add_one, List.getElem?_eq_getElem h, Option.toList_some, List.foldl_append]
  rfl

/-- A list of texts, and what a call on them keeps. -/
def DpPost (w : World) (m : List Ent) (e : Ending) (w' : World) : Prop := e = .returned (.pointer (some ⟨w.heap.size + 1, 0, none⟩)) ∧ Nw w m w'

/-- A new snapshot. -/
def PtPost (w : World) (l : List DD) (e : Ending) (w' : World) : Prop := ∃ s, e = .returned (.pointer (some ⟨s, 0, none⟩)) ∧ Sn w' (.pointer (some ⟨s, 0, none⟩)) l ∧ Kept (fun _ => False) w w'

end Go.Proofs.YtlnincdmdegaoaaGreat

/-
  The laws of layer 7: awake.
-/
namespace Go.Proofs.YtlnincdmdegaoaaGreat
open Go.RowKit Go.Mk

theorem keeps_below7 {w w' : World} (h : Kept (fun _ => False) w w') : Below w.heap.size w w' := h.below (Nat.le_refl _) (fun _ h => h.elim)

end Go.Proofs.YtlnincdmdegaoaaGreat
