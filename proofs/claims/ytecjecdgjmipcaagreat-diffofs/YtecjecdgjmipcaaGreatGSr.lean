/-
  Lemmas towards the claim of this folder: contracts of the functions that the law reaches; joined texts.
-/
import Derived.Test.YtecjecdgjmipcaaGreatSq
import Derived.Test.YtecjecdgjmipcaaGreatGDg
import Derived.Deep.CutBlock
import Derived.Deep.DeepCutAuto
/-
  CONTRACTS of package snap: New.
-/
namespace Go.Proofs.YtecjecdgjmipcaaGreat
open Go.RowKit Go.Mk Go.Maps

/-- A definition's cells somewhere in a block. -/
structure Bo (w : World) (b o : Nat) (ao : Option Addr) (cap : Nat) (d : DD) : Prop where
  c0 : w.cell? ⟨b, o, none⟩ = some (.int .i64 d.k)
  c1 : w.cell? ⟨b, o + 1, none⟩ = some (.string (bs d.c))
  c2 : w.cell? ⟨b, o + 2, none⟩ = some (.string (bs d.p))
  c3 : w.cell? ⟨b, o + 3, none⟩ = some (.slice ao d.vs.length cap)
  c4 : w.cell? ⟨b, o + 4, none⟩ = some (.string (bs d.s))
  c5 : w.cell? ⟨b, o + 5, none⟩ = some (.string (bs d.t))

theorem Bo.kept {S : Nat → Prop} {w w' : World} {b o : Nat} {ao : Option Addr} {cap : Nat} {d : DD} (h : Bo w b o ao cap d) (hk : Kept S w w') (hb : ¬ S b) : Bo w' b o ao cap d := by
  have hlt : b < w.heap.size := World.block_lt_of_cell? _ _ h.c0
  exact ⟨(hk.cell (p := ⟨b, o, none⟩) hlt hb).trans h.c0, (hk.cell (p := ⟨b, o + 1, none⟩) hlt hb).trans h.c1, (hk.cell (p := ⟨b, o + 2, none⟩) hlt hb).trans h.c2, (hk.cell (p := ⟨b, o + 3, none⟩) hlt hb).trans h.c3, (hk.cell (p := ⟨b, o + 4, none⟩) hlt hb).trans h.c4, (hk.cell (p := ⟨b, o + 5, none⟩) hlt hb).trans h.c5⟩

/-- Definitions in a row behind an address. -/
structure Ds (w : World) (B : Nat) (la : Option Addr) (es : List Ent) : Prop where
  row : es ≠ [] → ∃ b off, la = some ⟨b, off, none⟩ ∧ b < B ∧ ∀ j (h : j < es.length), Bo w b (off + j * 6) es[j].2.1 es[j].2.2 es[j].1
  lies : ∀ e ∈ es, Lies w B e.2.1 (strs e.1.vs) ∧ e.1.vs.length ≤ e.2.2

theorem Ds.kept {S : Nat → Prop} {w w' : World} {B : Nat} {la : Option Addr} {es : List Ent} (h : Ds w B la es) (hk : Kept S w w') (hS : ∀ k, k < B → ¬ S k) : Ds w' B la es := by
  refine ⟨fun hn => ?_, fun e he => ⟨(h.lies e he).1.kept hk (fun hn a ha => ?_), (h.lies e he).2⟩⟩
  · obtain ⟨b, off, e, hb, hc⟩ := h.row hn
    exact ⟨b, off, e, hb, fun j hj => (hc j hj).kept hk (hS b hb)⟩
  · obtain ⟨b, off, e1, hb, _⟩ := (h.lies e he).1 hn
    rw [e1] at ha
    cases ha
    exact hS b hb

theorem Ds.keep {w w' : World} {B : Nat} {la : Option Addr} {es : List Ent} (h : Ds w B la es) (hk : Kept (fun _ => False) w w') : Ds w' B la es := h.kept hk (fun _ _ h => h)

theorem Ds.mono {w : World} {B B' : Nat} {la : Option Addr} {es : List Ent} (h : Ds w B la es) (hB : B ≤ B') : Ds w B' la es := by
  refine ⟨fun hn => ?_, fun e he => ⟨(h.lies e he).1.mono hB, (h.lies e he).2⟩⟩
  obtain ⟨b, off, e, hb, hc⟩ := h.row hn
  exact ⟨b, off, e, Nat.lt_of_lt_of_le hb hB, hc⟩

def dds (es : List Ent) : List DD := es.map (·.1)
theorem dds_len (es : List Ent) : (dds es).length = es.length := by simp [dds]
theorem dds_get (es : List Ent) (j : Nat) (h : j < es.length) : (dds es)[j]'(by rw [dds_len]; exact h) = es[j].1 := by simp [dds]
theorem dds_take (es : List Ent) (j : Nat) (h : j < es.length) : (dds es).take (j + 1) = (dds es).take j ++ [es[j].1] := by
  rw [List.take_add_one, List.getElem?_eq_getElem (by rw [dds_len]; exact h), dds_get es j h]; rfl

/-- What New answers. -/
def NwPost (w : World) (r : Int × List DD) (e : Ending) (w' : World) : Prop :=
  ∃ v, e = .returned (.tuple #[v, .int .i64 r.1]) ∧ (r.1 = 0 → ∃ s, v = .pointer (some ⟨s, 0, none⟩)) ∧ (r.1 ≠ 0 → v = .pointer none) ∧ Sn w' v r.2 ∧ Kept (fun _ => False) w w'

theorem nw_err {w w' : World} {r : Int} (hr : r ≠ 0) (hk : Kept (fun _ => False) w w') : NwPost w (r, []) (.returned (.tuple #[.pointer none, .int .i64 r])) w' :=
  ⟨.pointer none, rfl, fun h => (hr h).elim, fun _ => rfl, sn_nil _, hk⟩

/-- New under way. -/
structure Nw (w : World) (m : List Ent) (wx : World) : Prop where
  tb : Tb wx w.heap.size m
  cell : wx.cell? ⟨w.heap.size + 1, 0, none⟩ = some (.map (some w.heap.size))
  k : Kept (fun _ => False) w wx
  sz : w.heap.size + 2 ≤ wx.heap.size

theorem Nw.keep {w : World} {m : List Ent} {wx wy : World} (h : Nw w m wx) (hk : Kept (fun _ => False) wx wy) : Nw w m wy :=
  ⟨h.tb.keep hk, (hk.cell (p := ⟨w.heap.size + 1, 0, none⟩) (World.block_lt_of_cell? _ _ h.cell) (fun h => h)).trans h.cell, h.k.trans hk (fun _ _ h => h), Nat.le_trans h.sz hk.size⟩

theorem Nw.sn {w : World} {m : List Ent} {wx : World} (h : Nw w m wx) : Sn wx (.pointer (some ⟨w.heap.size + 1, 0, none⟩)) (dds m) :=
  ⟨_, m, .inr ⟨_, rfl, h.cell⟩, .inr ⟨_, rfl, h.tb⟩, rfl⟩

theorem nw_new (w : World) : Nw w [] ((w.alloc (.map #[] 0)).alloc (.cells #[.map (some w.heap.size)] 65)) := by
  have h1 := (tb_new w).keep ((Kept.refl (fun _ => False) _).alloc (.cells #[.map (some w.heap.size)] 65))
  have h2 := World.cell?_alloc_new (w.alloc (.map #[] 0)) #[.map (some w.heap.size)] 65 0
  rw [World.size_alloc] at h2
  exact ⟨h1, h2, ((Kept.refl _ w).alloc _).alloc _, by simp⟩

theorem key_len {d : DD} (h : Len8 d) : (keyD d).length ≤ maxLen := by
  have := h.c; have := h.s
  unfold keyD maxLen
  split
  · split
    · simp; omega
    · omega
  · simp

/-- One more entry. -/
theorem Nw.put {w : World} {m : List Ent} {wx : World} (h : Nw w m wx) (e : Ent) (hr : rightD e.1 = true) (hL : Lies wx wx.heap.size e.2.1 (strs e.1.vs) ∧ e.1.vs.length ≤ e.2.2) (hl : Len8 e.1) (hm : m.length ≤ 1000000) :
    ∃ wy, (Instr.mapUpdate 63 (.map (some w.heap.size)) (.string (bs (keyE e))) (valE e)).run Tryz.prog wx = .ok () wy ∧ Nw w (putK keyE e m) wy ∧ Kept (fun k => k = w.heap.size) wx wy := by
  obtain ⟨wy, h1, h2, h3⟩ := h.tb.put e hr hL (key_len hl) hm (fun x hx hn => by
    rcases (mem_putK h.tb.rise x).1 hx with rfl | ⟨hx, _⟩
    · exact lies_row h.tb hL.1 (by unfold strs; simpa using hn)
    · exact h.tb.rows x hx hn)
  exact ⟨wy, h1, ⟨h2, (h3.cell (p := ⟨w.heap.size + 1, 0, none⟩) (World.block_lt_of_cell? _ _ h.cell) (by simp)).trans h.cell, h.k.trans h3 (fun i hi e => by omega), Nat.le_trans h.sz h3.size⟩, h3⟩

theorem newL_step (l : List DD) (d : DD) : newL (l ++ [d]) = newS (newL l) d := by simp [newL, List.foldl_append]
theorem newL_stop {l : List DD} {j : Nat} (h : (newL (l.take j)).1 ≠ 0) : newL l = newL (l.take j) := by
  have : newL l = (l.drop j).foldl newS (newL (l.take j)) := by
    unfold newL
    rw [← List.foldl_append, List.take_append_drop]
  rw [this, newS_err h]

end Go.Proofs.YtecjecdgjmipcaaGreat

/-
  snap.New: the walk.
-/
namespace Go.Proofs.YtecjecdgjmipcaaGreat
open Go.RowKit Go.Mk Go.Maps

set_option maxHeartbeats 2000000 in
set_option maxRecDepth 100000 in
theorem snew_any (la : Option Addr) (lc : Nat) (es : List Ent) (B : Nat) (w : World) (hB : B ≤ w.heap.size) (hD : Ds w B la es) (hl : ∀ e ∈ es, Len8 e.1) (hn : es.length ≤ 1000000) :
    Calls Tryz.prog 9 #[.slice la es.length lc] w (NwPost w (newL (dds es))) := by
  have N0 := Lib.hid (nw_new w)
  have HD := Lib.hid hD; have HL := Lib.hid hl; have HB := Lib.hid hB
  clear hD hl hB
  have hmm := @run_makeMap Tryz.prog
  go_enter Tryz.func9, Tryz.ntmps9
  go_wp2
  go_loopg [15] es.length (fun k c wr => ∃ j m, k = es.length - j ∧ j ≤ es.length ∧ c = .int .i64 (j : Int) ∧ newL ((dds es).take j) = (0, dds m) ∧ m.length ≤ j ∧ Nw w m wr)
  case atStart => exact ⟨0, [], rfl, Nat.zero_le _, rfl, rfl, Nat.zero_le _, N0.out⟩
  case round =>
    obtain ⟨j, m, hk, hj, rfl, hnew, hml, hw⟩ := hrel
    have HK := Lib.hid hk; have HNEW := Lib.hid hnew; have HML := Lib.hid hml; have HW := Lib.hid hw
    clear hk hnew hml hw
    by_cases hlt : j < es.length
    · obtain ⟨xb, xo, rfl, hxb, hc⟩ := HD.out.row (by intro h; rw [h] at hlt; simp at hlt)
      have hmem := List.getElem_mem hlt
      have hstep := newL_step ((dds es).take j) es[j].1
      rw [← dds_take es j hlt, HNEW.out] at hstep
      obtain ⟨c0, c1, c2, c3, c4, c5⟩ := (hc j hlt).kept HW.out.k (fun h => h)
      have HLE := Lib.hid (HL.out es[j] hmem)
      have HLI := Lib.hid (HD.out.lies es[j] hmem)
      have i1 : (j : Int) < (es.length : Int) := by omega
      have HS := Lib.hid hstep
      clear hc hstep hmem
      generalize es[j] = x at *
      obtain ⟨d, ao, cap⟩ := x
      dsimp only at c0 c1 c2 c3 c4 c5 HLE HLI HS
      have KA := Lib.hid ((Kept.refl (fun _ => False) wr).alloc (.cells #[.int .i64 d.k, .string (bs d.c), .string (bs d.p), .slice ao d.vs.length cap, .string (bs d.s), .string (bs d.t)] 49))
      have BX := Lib.hid (bx_new wr ao cap d 49)
      have HKEY := Lib.hid (fun (wx : World) (h : Kept (fun _ => False) wr wx) => dkey_any d ao cap B wx ((HLI.out.1.kept HW.out.k (fun _ _ _ h => h)).kept h (fun _ _ _ h => h)) HLI.out.2 HLE.out.s HLE.out.c)
      have HCP := Lib.hid (fun (wx : World) (h : Kept (fun _ => False) wr wx) => copy_any d ao cap B wx ((HLI.out.1.kept HW.out.k (fun _ _ _ h => h)).kept h (fun _ _ _ h => h)) HLE.out)
      have HRG := Lib.hid (keyD_iff d)
      have hN : newS (0, dds m) d = if keyD d = [] then (31, []) else if hasK keyE (keyD d) m = true then (45, []) else if 500 ≤ m.length then (21, []) else (0, putK keyD d (dds m)) := by
        have e1 : hasK keyD (keyD d) (dds m) = hasK keyE (keyD d) m := map_hasK (f := fun e : Ent => e.1) (ka := keyE) (kb := keyD) (fun _ => rfl) _ _
        unfold newS
        rw [if_neg (by simp), e1, dds_len]
      have HN := Lib.hid (HS.out.trans hN)
      have HPK := Lib.hid (show ∀ ao cap, putK keyD d (dds m) = dds (putK keyE (d, ao, cap) m) from fun ao cap => (map_putK (f := fun e : Ent => e.1) (ka := keyE) (kb := keyD) (fun _ => rfl) (d, ao, cap) m).symm)
      clear hN HS
      have HKL := Lib.hid (key_len HLE.out)
      have HKE := Lib.hid (show ∀ ao cap, keyE (d, ao, cap) = keyD d from fun _ _ => rfl)
      generalize keyD d = key at *
      go_wp2_with fail
      refine (HKEY.out _ KA.out).mono ?_
      rintro e w1 ⟨rfl, k1⟩
      have K1 := Lib.hid (KA.out.trans k1 (fun _ _ h => h))
      have B1 := Lib.hid (BX.out.kept k1 (fun h => h))
      have W1 := Lib.hid (HW.out.keep K1.out)
      clear k1 c0 c1 c2 c3 c4 c5
      have z1 := bs_list key
      cases key with
      | nil =>
        have hs := HN.out
        rw [if_pos rfl] at hs
        have HE := Lib.hid (newL_stop (l := dds es) (j := j + 1) (by rw [hs]; simp))
        rw [hs] at HE
        clear hs
        go_wp2
        go_ret2
        rw [HE.out]
        exact nw_err (by decide) W1.out.k
      | cons q key =>
        generalize hkk : q :: key = kk at *
        have hs := HN.out
        rw [if_neg (by rw [← hkk]; simp)] at hs
        have hne : (kk == []) = false := by rw [← hkk]; rfl
        have HRT := Lib.hid (show rightD d = true by
          cases h : rightD d
          · have := HRG.out.2 h; rw [← hkk] at this; cases this
          · rfl)
        clear hkk
        have cm := W1.out.cell
        cases hh : hasK keyE kk m with
        | true =>
          rw [if_pos hh] at hs
          have HE := Lib.hid (newL_stop (l := dds es) (j := j + 1) (by rw [hs]; simp))
          rw [hs] at HE
          obtain ⟨x, hx, hxk⟩ := hasK_iff.1 hh
          have hlk := (W1.out.tb.look hx (by rw [hxk]; exact HKL.out)).1
          rw [hxk] at hlk
          unfold valE at hlk
          have KB := Lib.hid (W1.out.k.alloc (.cells #[.int .i64 x.1.k, .string (bs x.1.c), .string (bs x.1.p), .slice x.2.1 x.1.vs.length x.2.2, .string (bs x.1.s), .string (bs x.1.t)] 49))
          clear hs hh hx hxk
          go_wp2
          go_ret2
          rw [HE.out]
          exact nw_err (by decide) KB.out
        | false =>
          rw [if_neg (by simp [hh])] at hs
          have hlk := W1.out.tb.look_no hh HKL.out
          unfold valE at hlk
          have KB := Lib.hid ((Kept.refl (fun _ => False) w1).alloc (.cells #[.int .i64 zeroD.k, .string (bs zeroD.c), .string (bs zeroD.p), .slice none zeroD.vs.length 0, .string (bs zeroD.s), .string (bs zeroD.t)] 49))
          have W2 := Lib.hid (W1.out.keep KB.out)
          have HS2 := Lib.hid hs
          clear hs hh
          go_wp2_with fail
          refine (full_any W2.out.sn).mono ?_
          rintro e w2 ⟨rfl, hw2⟩
          have B2 := Lib.hid (B1.out.kept KB.out (fun h => h))
          have K2 := Lib.hid (K1.out.trans KB.out (fun _ _ h => h))
          rw [hw2] at W2 B2 K2
          clear hw2 hlk cm
          rw [dds_len]
          by_cases hf : 500 ≤ m.length
          · have hd : decide (500 ≤ m.length) = true := decide_eq_true hf
            rw [hd]
            have hs := HS2.out
            rw [if_pos hf] at hs
            have HE := Lib.hid (newL_stop (l := dds es) (j := j + 1) (by rw [hs]; simp))
            rw [hs] at HE
            clear hs hd hf
            go_wp2
            go_ret2
            rw [HE.out]
            exact nw_err (by decide) W2.out.k
          · have hd : decide (500 ≤ m.length) = false := decide_eq_false hf
            rw [hd]
            have hs := HS2.out
            rw [if_neg hf] at hs
            have HE := Lib.hid hs
            have hm5 : m.length ≤ 1000000 := by omega
            have HM5 := Lib.hid hm5
            clear hs hd hf HS2 hm5
            have WD := Lib.hid (W2.out.keep (Kept.drew (Kept.refl _ w2)))
            have BD := Lib.hid (B2.out.kept (S := fun _ => False) (Kept.drew (Kept.refl _ w2)) (fun h => h))
            have KD := Lib.hid (K2.out.trans (Kept.drew (Kept.refl (fun _ => False) w2)) (fun _ _ h => h))
            have hS : w2.drew.cell? ⟨w.heap.size + 1, 0, none⟩ = some (.map (some w.heap.size)) ∧ w2.drew.cell? ⟨wr.heap.size, 0, none⟩ = some (.int .i64 d.k) ∧ w2.drew.cell? ⟨wr.heap.size, 1, none⟩ = some (.string (bs d.c)) ∧ w2.drew.cell? ⟨wr.heap.size, 2, none⟩ = some (.string (bs d.p)) ∧ w2.drew.cell? ⟨wr.heap.size, 3, none⟩ = some (.slice ao d.vs.length cap) ∧ w2.drew.cell? ⟨wr.heap.size, 4, none⟩ = some (.string (bs d.s)) ∧ w2.drew.cell? ⟨wr.heap.size, 5, none⟩ = some (.string (bs d.t)) := ⟨WD.out.cell, BD.out.c0, BD.out.c1, BD.out.c2, BD.out.c3, BD.out.c4, BD.out.c5⟩
            go_upto_region 13 with fail
            go_region_held (fun w' => w'.cell? ⟨w.heap.size + 1, 0, none⟩ = some (.map (some w.heap.size)) ∧ w'.cell? ⟨wr.heap.size, 0, none⟩ = some (.int .i64 d.k) ∧ w'.cell? ⟨wr.heap.size, 1, none⟩ = some (.string (bs d.c)) ∧ w'.cell? ⟨wr.heap.size, 2, none⟩ = some (.string (bs d.p)) ∧ w'.cell? ⟨wr.heap.size, 3, none⟩ = some (.slice ao d.vs.length cap) ∧ w'.cell? ⟨wr.heap.size, 4, none⟩ = some (.string (bs d.s)) ∧ w'.cell? ⟨wr.heap.size, 5, none⟩ = some (.string (bs d.t))) (with_reducible assumption) (first
              | (go_at_call 37; refine (HCP.out _ KD.out).mono ?_; rintro e w3 ⟨ao3, cap3, rfl, ho3, k3⟩; have W3 := Lib.hid (WD.out.keep k3); have B3 := Lib.hid (BD.out.kept k3 (fun h => h)); have hS3 := (show w3.cell? ⟨w.heap.size + 1, 0, none⟩ = some (.map (some w.heap.size)) ∧ w3.cell? ⟨wr.heap.size, 0, none⟩ = some (.int .i64 d.k) ∧ w3.cell? ⟨wr.heap.size, 1, none⟩ = some (.string (bs d.c)) ∧ w3.cell? ⟨wr.heap.size, 2, none⟩ = some (.string (bs d.p)) ∧ w3.cell? ⟨wr.heap.size, 3, none⟩ = some (.slice ao d.vs.length cap) ∧ w3.cell? ⟨wr.heap.size, 4, none⟩ = some (.string (bs d.s)) ∧ w3.cell? ⟨wr.heap.size, 5, none⟩ = some (.string (bs d.t)) from ⟨W3.out.cell, B3.out.c0, B3.out.c1, B3.out.c2, B3.out.c3, B3.out.c4, B3.out.c5⟩);
                 obtain ⟨w4, hrun, hw4, k4⟩ := W3.out.put (d, ao3, cap3) HRT.out ⟨owns_lies ho3, owns_cap ho3⟩ HLE.out HM5.out; rw [HKE.out] at hrun; have W4 := Lib.hid hw4; have B4 := Lib.hid (B3.out.kept k4 (by have := HW.out.sz; omega)); have hS4 := (show w4.cell? ⟨w.heap.size + 1, 0, none⟩ = some (.map (some w.heap.size)) ∧ w4.cell? ⟨wr.heap.size, 0, none⟩ = some (.int .i64 d.k) ∧ w4.cell? ⟨wr.heap.size, 1, none⟩ = some (.string (bs d.c)) ∧ w4.cell? ⟨wr.heap.size, 2, none⟩ = some (.string (bs d.p)) ∧ w4.cell? ⟨wr.heap.size, 3, none⟩ = some (.slice ao d.vs.length cap) ∧ w4.cell? ⟨wr.heap.size, 4, none⟩ = some (.string (bs d.s)) ∧ w4.cell? ⟨wr.heap.size, 5, none⟩ = some (.string (bs d.t)) from ⟨W4.out.cell, B4.out.c0, B4.out.c1, B4.out.c2, B4.out.c3, B4.out.c4, B4.out.c5⟩); clear ho3 k3 hw4 k4))
            all_goals go_wp2
            all_goals go_roundg (es.length - (j + 1))
            case measure => have := HK.out; omega
            case rel => exact ⟨j + 1, _, rfl, by omega, by go_num, by rw [HE.out, HPK.out ao3 cap3], Nat.le_trans (putK_le HW.out.tb.rise) (by have := HML.out; omega), W4.out⟩
    · obtain rfl : j = es.length := by omega
      have hs := HNEW.out
      rw [← dds_len, List.take_length] at hs
      have HE := Lib.hid hs
      clear hs hlt
      go_wp2
      go_ret2
      rw [HE.out]
      exact ⟨.pointer (some ⟨w.heap.size + 1, 0, none⟩), rfl, fun _ => ⟨_, rfl⟩, fun h => (h rfl).elim, HW.out.sn, HW.out.k⟩

end Go.Proofs.YtecjecdgjmipcaaGreat
