/-
  Lemmas towards the claim of this folder: contracts of the functions that the law reaches; joined texts.
-/
import Derived.Test.YtjnpmbdehalmpaaGreatGSr
import Derived.Test.YtjnpmbdehalmpaaGreatGPt
import Derived.Test.YtjnpmbdehalmpaaGreatGRs
import Derived.Test.YtjnpmbdehalmpaaGreatGDg
import Derived.Test.YtjnpmbdehalmpaaGreatGL7
import Derived.Test.YtjnpmbdehalmpaaGreatGSw
import Derived.Test.YtjnpmbdehalmpaaGreatGNc
import Derived.Shelf.Strings.Cut
import Derived.Shelf.Vars
/-
  snap.Parse: the walk.
-/
namespace Go.Proofs.YtjnpmbdehalmpaaGreat
open Go.RowKit Go.Mk Go.Maps

/-- Parse under way: the reader at b, the table at t, the snapshot at t + 1. -/
structure Pg (w : World) (D : Nat → Prop) (b t : Nat) (s : RS) (m : List Ent) (wx : World) : Prop where
  rd : ∃ a c, Rd wx D b a c s
  tb : Tb wx t m
  cell : wx.cell? ⟨t + 1, 0, none⟩ = some (.map (some t))
  k : Kept (fun _ => False) w wx
  b1 : w.heap.size ≤ b
  b2 : b < t
  sz : t + 2 ≤ wx.heap.size
  rows : ∀ e ∈ m, e.1.vs ≠ [] → ∀ a, e.2.1 = some a → t + 2 ≤ a.block
  hD : ∀ k, D k → k < b

theorem Pg.keep {w : World} {D : Nat → Prop} {b t : Nat} {s : RS} {m : List Ent} {wx wy : World} (h : Pg w D b t s m wx) (hk : Kept (fun _ => False) wx wy) : Pg w D b t s m wy := by
  obtain ⟨a, c, hr⟩ := h.rd
  exact ⟨⟨a, c, hr.kept hk (fun h => h) (fun _ _ _ h => h)⟩, h.tb.keep hk, (hk.cell (p := ⟨t + 1, 0, none⟩) (World.block_lt_of_cell? _ _ h.cell) (fun h => h)).trans h.cell, h.k.trans hk (fun _ _ h => h), h.b1, h.b2, Nat.le_trans h.sz hk.size, h.rows, h.hD⟩

/-- The reader has gone on. -/
theorem Pg.read {w : World} {D : Nat → Prop} {b t : Nat} {s s' : RS} {m : List Ent} {wx wy : World} (h : Pg w D b t s m wx) (hr : ∃ a c, Rd wy D b a c s') (hk : Kept (fun k => k = b) wx wy) : Pg w D b t s' m wy := by
  have h1 := h.b1; have h2 := h.b2
  refine ⟨hr, h.tb.kept hk (by omega) (fun e he hn a ha => ?_), (hk.cell (p := ⟨t + 1, 0, none⟩) (World.block_lt_of_cell? _ _ h.cell) (by simp; omega)).trans h.cell, h.k.trans hk (fun i hi e => by omega), h1, h2, Nat.le_trans h.sz hk.size, h.rows, h.hD⟩
  have := h.rows e he hn a ha
  omega

/-- A definition is laid down. -/
theorem Pg.put {w : World} {D : Nat → Prop} {b t : Nat} {s : RS} {m : List Ent} {wx : World} (h : Pg w D b t s m wx) (e : Ent) (hr : rightD e.1 = true) (hL : Lies wx wx.heap.size e.2.1 (strs e.1.vs) ∧ e.1.vs.length ≤ e.2.2) (hb : e.1.vs ≠ [] → ∀ a, e.2.1 = some a → t + 2 ≤ a.block) (hl : Len8 e.1) (hm : m.length ≤ 1000000) (hlast : lastK (dds m) < keyE e) :
    ∃ wy, (Instr.mapUpdate 85 (.map (some t)) (.string (bs (keyE e))) (valE e)).run Tryz.prog wx = .ok () wy ∧ Pg w D b t s (m ++ [e]) wy ∧ Kept (fun k => k = t) wx wy := by
  have e0 := putK_last (x := e) (m := m) (rise_last h.tb.rise hlast)
  have hrow : ∀ x ∈ m ++ [e], x.1.vs ≠ [] → ∀ a, x.2.1 = some a → t + 2 ≤ a.block := fun x hx hn a ha => by
    rcases List.mem_append.1 hx with hx | hx
    · exact h.rows x hx hn a ha
    · rw [List.mem_singleton] at hx
      subst hx
      exact hb hn a ha
  obtain ⟨wy, h1, h2, h3⟩ := h.tb.put e hr hL (key_len hl) hm (fun x hx hn a ha => by
    rw [e0] at hx
    have := hrow x hx hn a ha
    omega)
  rw [e0] at h2
  obtain ⟨a, c, hrd⟩ := h.rd
  have hb1 := h.b1; have hb2 := h.b2
  exact ⟨wy, h1, ⟨⟨a, c, hrd.kept h3 (by omega) (fun k _ hk e => by have := h.hD k hk; omega)⟩, h2, (h3.cell (p := ⟨t + 1, 0, none⟩) (World.block_lt_of_cell? _ _ h.cell) (by simp)).trans h.cell, h.k.trans h3 (fun i hi e => by omega), hb1, hb2, Nat.le_trans h.sz h3.size, hrow, h.hD⟩, h3⟩

theorem Pg.sn {w : World} {D : Nat → Prop} {b t : Nat} {s : RS} {m : List Ent} {wx : World} (h : Pg w D b t s m wx) : Sn wx (.pointer (some ⟨t + 1, 0, none⟩)) (dds m) :=
  ⟨_, m, .inr ⟨_, rfl, h.cell⟩, .inr ⟨_, rfl, h.tb⟩, rfl⟩

theorem pg_new {w wx : World} {D : Nat → Prop} {b : Nat} {s : RS} (hr : ∃ a c, Rd wx D b a c s) (hk : Kept (fun _ => False) w wx) (hb : w.heap.size ≤ b) (hb2 : b < wx.heap.size) (hD : ∀ k, D k → k < b) : Pg w D b wx.heap.size s [] ((wx.alloc (.map #[] 0)).alloc (.cells #[.map (some wx.heap.size)] 87)) := by
  have N := nw_new wx
  obtain ⟨a, c, hrd⟩ := hr
  exact ⟨⟨a, c, hrd.kept N.k (fun h => h) (fun _ _ _ h => h)⟩, N.tb, N.cell, hk.trans N.k (fun _ _ h => h), hb, hb2, N.sz, by simp, hD⟩

theorem len8_right {d : DD} (h : rightD d = true) : Len8 d := small_len8 (right_small h)

theorem parseL_eq (l : List UInt8) : parseL l = if (RS.num ⟨l, 0⟩).1.err ≠ 0 then ((RS.num ⟨l, 0⟩).1.err, []) else if 500 < (RS.num ⟨l, 0⟩).2 then (21, []) else finP (parseN (RS.num ⟨l, 0⟩).2.toNat (RS.num ⟨l, 0⟩).1 []) := rfl

set_option maxHeartbeats 2000000 in
set_option maxRecDepth 100000 in
theorem sparse_any (la : Option Addr) (lc : Nat) (l : List UInt8) (B : Nat) (w : World) (hL : Lies w B la (l.map bv)) (hl : l.length ≤ 1099511627776) :
    Calls Tryz.prog 79 #[.slice la l.length lc] w (NwPost w (parseL l)) := by
  have HOP := Lib.hid (open_any la lc l B w hL hl)
  have HLL := Lib.hid hl
  clear hL hl
  have hmm := @run_makeMap Tryz.prog
  have HPL := Lib.hid (parseL_eq l)
  have HNC := Lib.hid (RS.num_cases ⟨l, 0⟩)
  have HNL := Lib.hid (num_len ⟨l, 0⟩)
  generalize hPL : parseL l = PL at *
  clear hPL
  go_enter Tryz.func79, Tryz.ntmps79
  go_wp2_with fail
  refine HOP.out.mono ?_
  rintro e w1 ⟨b, a1, c1, rfl, hb1, hb2, hrd, bel⟩
  have K1 := Lib.hid (kept_of_belowsize bel); have HRN := Lib.hid (rnum_any' _ b a1 c1 ⟨l, 0⟩ w1 hrd); have HB1 := Lib.hid hb1; have HB2 := Lib.hid hb2
  clear hb1 hb2 hrd bel
  generalize RS.num ⟨l, 0⟩ = q at *
  obtain ⟨s1, n⟩ := q
  dsimp only at *
  go_wp2_with fail
  refine HRN.out.mono ?_
  intro e w2 hp
  obtain ⟨rfl, ⟨a2, c2, rd2⟩, k2⟩ := hp
  have K2 := Lib.hid (K1.out.trans k2 (fun i hi e => by have := HB1.out; omega))
  have RD2 := Lib.hid (show ∃ a c, Rd w2 (fun k => w.heap.size ≤ k ∧ k < b) b a c s1 from ⟨a2, c2, rd2⟩)
  have HB22 := Lib.hid (show b < w2.heap.size from Nat.lt_of_lt_of_le HB2.out k2.size)
  clear rd2 k2
  have hn : 0 ≤ n ∧ n ≤ 2147483647 ∧ (s1.err ≠ 0 → n = 0) := by
    rcases HNC.out with ⟨h1, h2⟩ | ⟨_, _, k, hk, h2⟩
    · have := (Prod.mk.inj h2).2; exact ⟨by omega, by omega, fun _ => this⟩
    · have h3 := (Prod.mk.inj h2).2; have h4 := (Prod.mk.inj h2).1; exact ⟨by omega, by omega, fun h => (h (by rw [h4])).elim⟩
  obtain ⟨hn0, hn1, hn2⟩ := hn
  by_cases h5 : 500 < n
  · have he : s1.err = 0 := by
      by_cases h : s1.err = 0
      · exact h
      · have := hn2 h; omega
    have HE := Lib.hid (HPL.out.trans (by rw [if_neg (by simp [he]), if_pos h5]))
    clear he hn0 hn1 hn2
    go_wp2
    go_ret2
    rw [HE.out]
    exact nw_err (by decide) K2.out
  · obtain ⟨N, rfl⟩ : ∃ N : Nat, n = N := ⟨n.toNat, by omega⟩
    have hE : PL = finP (parseN N s1 []) := by
      rw [HPL.out]
      by_cases he : s1.err = 0
      · rw [if_neg (by simp [he]), if_neg h5]; rfl
      · have h0 : N = 0 := by have := hn2 he; omega
        subst h0
        rw [if_pos he]
        have : s1.endE = s1.err := by unfold RS.endE; rw [if_neg (fun h => he h.1)]
        unfold finP parseN
        dsimp only
        rw [if_neg (by simp), this, if_pos he]
    have HE := Lib.hid hE
    clear HPL HNC
    have PG0 := Lib.hid (pg_new RD2.out K2.out HB1.out HB22.out (fun k hk => hk.2))
    have hN5 : N ≤ 500 := by omega
    have HN2 := Lib.hid hn2
    clear hn0 hn1 hn2 hE h5
    obtain ⟨R, hR⟩ : ∃ R, R = parseN N s1 [] := ⟨_, rfl⟩
    rw [← hR] at HE
    have HR := Lib.hid hR
    clear hR
    generalize (fun k => w.heap.size ≤ k ∧ k < b) = D at *
    go_wp2
    go_loopg [7, 22] N (fun k v c wr => ∃ j s m, k = N - j ∧ j ≤ N ∧ c = .int .i64 (j : Int) ∧ v = .string (bs (lastK (dds m))) ∧ R = parseN (N - j) s (dds m) ∧ m.length ≤ j ∧ s.rest.length ≤ l.length ∧ Pg w D b w2.heap.size s m wr)
    case atStart => exact ⟨0, s1, [], rfl, Nat.zero_le _, rfl, rfl, HR.out, Nat.zero_le _, HNL.out, PG0.out⟩
    case round =>
      clear PG0 HR HRN HOP
      obtain ⟨j, s, m, hk, hj, rfl, rfl, hR, hm, hsl, hw⟩ := hrel
      have HK := Lib.hid hk; have HR := Lib.hid hR; have HM := Lib.hid hm; have HSL := Lib.hid hsl; have HW := Lib.hid hw
      clear hk hR hm hsl hw
      by_cases hlt : j < N
      · have hR := HR.out
        rw [show N - j = (N - (j + 1)) + 1 by omega, parseN] at hR
        obtain ⟨a0, c0, hrd⟩ := HW.out.rd
        have HDR := Lib.hid (dread_any D b a0 c0 s wr (fun k hk => by have := HW.out.hD k hk; have := HW.out.b2; have := HW.out.sz; omega) hrd (by have := HSL.out; have := HLL.out; omega))
        have HJO := Lib.hid (judge_ok (r := fieldsR s))
        have HFL := Lib.hid (fields_len s)
        have HR2 := Lib.hid hR
        have i1 : (j : Int) < (N : Int) := by omega
        clear hrd hR
        rcases hjr : judgeR (fieldsR s) with ⟨d, er⟩
        rw [hjr] at HDR HJO HR2
        generalize (fieldsR s) = fs at *
        obtain ⟨s', d0⟩ := fs
        dsimp only at HDR HJO HR2 HFL
        clear hjr
        have HL7 := bs_list (lastK (dds m))
        have HZ := Lib.hid HL7
        go_wp2_with fail
        refine HDR.out.mono ?_
        rintro e w3 ⟨ao, cap, rfl, ho, hr3, k3⟩
        have P3 := Lib.hid (HW.out.read hr3 k3)
        have HO := Lib.hid ho
        have HZ3 := Lib.hid k3.size
        clear ho hr3 k3
        have KA := Lib.hid ((Kept.refl (fun _ => False) w3).alloc (.cells #[.int .i64 d.k, .string (bs d.c), .string (bs d.p), .slice ao d.vs.length cap, .string (bs d.s), .string (bs d.t)] 46))
        have BX := Lib.hid (bx_new w3 ao cap d 46)
        have P4 := Lib.hid (P3.out.keep KA.out)
        by_cases he : er = 0
        · subst he
          obtain ⟨_, hrt0, hd0⟩ := HJO.out rfl
          have HRT := Lib.hid (show rightD d = true by rw [hd0]; exact hrt0)
          clear hrt0 hd0 HJO
          have HL8 := Lib.hid (len8_right HRT.out)
          have hLI := owns_lies HO.out
          have HLI := Lib.hid (show Lies w3 w3.heap.size ao (strs d.vs) ∧ d.vs.length ≤ cap from ⟨hLI, owns_cap HO.out⟩)
          have HBB := Lib.hid (show d.vs ≠ [] → ∀ a, ao = some a → w2.heap.size + 2 ≤ a.block from fun hv a ha => by
            rcases HO.out.2 with ⟨_, h2⟩ | ⟨g, c, cur, hv2, _, _, _⟩
            · exact (hv (List.eq_nil_of_length_eq_zero h2)).elim
            · cases hv2
              cases ha
              have h1 := (owns_lt HO.out g rfl).1
              have h2 := HW.out.sz
              show w2.heap.size + 2 ≤ g
              omega)
          have HKEY := Lib.hid (dkey_any d ao cap w3.heap.size _ (HLI.out.1.kept KA.out (fun _ _ _ h => h)) HLI.out.2 HL8.out.s HL8.out.c)
          have HKE := Lib.hid (show keyE (d, ao, cap) = keyD d from rfl)
          have HSN := Lib.hid (lastK_snoc (dds m) d)
          obtain ⟨c0, c1, c2, c3, c4, c5⟩ := BX.out
          clear hLI
          generalize keyD d = key at *
          go_wp2_with fail
          refine HKEY.out.mono ?_
          rintro e w5 ⟨rfl, k5⟩
          have P5 := Lib.hid (P4.out.keep k5)
          have B5 := Lib.hid (BX.out.kept k5 (fun h => h))
          have K35 := Lib.hid (KA.out.trans k5 (fun _ _ h => h))
          clear k5 c0 c1 c2 c3 c4 c5
          have z5 := bs_list key
          have hleq : ∀ t (a b : ByteArray), binOp .leq t (.string a) (.string b) = pure (.bool (Op.bytesLess a.toList b.toList || a.toList == b.toList)) := fun t a b => by simp [binOp, Op.stringOp]
          by_cases hlk : lastK (dds m) < key
          · have q1 : (Op.bytesLess key (lastK (dds m)) || key == lastK (dds m)) = false := by rw [bytesLess_lt, decide_eq_false (lt_asy hlk)]; simpa using fun h => lt_ne hlk h.symm
            have hr3 := HR2.out
            rw [if_neg (by simp), if_pos hlk] at hr3
            have HR3 := Lib.hid hr3
            obtain ⟨w6, hrun, hp6, k6⟩ := (P5.out.keep (Kept.drew (Kept.refl _ w5))).put (d, ao, cap) HRT.out ⟨((HLI.out.1.kept K35.out (fun _ _ _ h => h)).mono K35.out.size), HLI.out.2⟩ HBB.out HL8.out (by have := HM.out; omega) (by rw [HKE.out]; exact hlk)
            rw [HKE.out] at hrun
            unfold valE at hrun
            have P6 := Lib.hid hp6
            clear hp6 k6 hr3 hlk
            have PD := Lib.hid (P5.out.keep (Kept.drew (Kept.refl _ w5)))
            have BD := Lib.hid (B5.out.kept (S := fun _ => False) (Kept.drew (Kept.refl _ w5)) (fun h => h))
            have cm := PD.out.cell
            obtain ⟨c0, c1, c2, c3, c4, c5⟩ := BD.out
            generalize hlm : lastK (dds m) = lm at *
            clear hlm
            go_upto_region 15 with fail
            go_region
            all_goals go_wp2
            all_goals go_roundg (N - (j + 1))
            case measure => have := HK.out; omega
            case rel => exact ⟨j + 1, s', m ++ [(d, ao, cap)], rfl, by omega, by go_num, by rw [show dds (m ++ [(d, ao, cap)]) = dds m ++ [d] by simp [dds], HSN.out], by rw [show dds (m ++ [(d, ao, cap)]) = dds m ++ [d] by simp [dds]]; exact HR3.out, by have := HM.out; simp; omega, Nat.le_trans HFL.out HSL.out, P6.out⟩
          · have q1 : (Op.bytesLess key (lastK (dds m)) || key == lastK (dds m)) = true := by
              rcases lt_tri key (lastK (dds m)) with h | h | h
              · rw [bytesLess_lt, decide_eq_true h]; rfl
              · simp [h]
              · exact (hlk h).elim
            have hr3 := HR2.out
            rw [if_neg (by simp), if_neg hlk] at hr3
            have HF := Lib.hid (show finP R = (32, []) by rw [hr3]; rfl)
            clear hr3 hlk
            generalize hlm : lastK (dds m) = lm at *
            clear hlm
            go_wp2
            go_ret2
            rw [HE.out, HF.out]
            exact nw_err (by decide) P5.out.k
        · have he1 : (er != 0) = true := by simp [he]
          have hr3 := HR2.out
          rw [if_pos he] at hr3
          have HF := Lib.hid (show finP R = (er, []) by rw [hr3]; unfold finP; rw [if_pos he])
          have HEE := Lib.hid he
          clear hr3 he
          go_wp2
          go_ret2
          rw [HE.out, HF.out]
          exact nw_err HEE.out P4.out.k
      · obtain rfl : j = N := by omega
        have hR := HR.out
        rw [Nat.sub_self, parseN] at hR
        obtain ⟨a0, c0, hrd⟩ := HW.out.rd
        have HEN := Lib.hid hrd.ends
        have HF := Lib.hid (show finP R = if s.endE ≠ 0 then (s.endE, []) else (0, dds m) by rw [hR]; rfl)
        clear hrd hR hlt
        generalize s.endE = ee at *
        go_wp2_with fail
        refine HEN.out.mono ?_
        rintro e w3 ⟨rfl, rfl⟩
        by_cases he : ee = 0
        · subst he
          have HF2 := Lib.hid (HF.out.trans (if_neg (by simp)))
          clear HF
          go_wp2
          go_ret2
          rw [HE.out, HF2.out]
          exact ⟨.pointer (some ⟨w2.heap.size + 1, 0, none⟩), rfl, fun _ => ⟨_, rfl⟩, fun h => (h rfl).elim, HW.out.sn, HW.out.k⟩
        · have he1 : (ee != 0) = true := by simp [he]
          have HF2 := Lib.hid (HF.out.trans (if_pos he))
          have HEE := Lib.hid he
          clear HF he
          go_wp2
          go_ret2
          rw [HE.out, HF2.out]
          exact nw_err HEE.out HW.out.k

end Go.Proofs.YtjnpmbdehalmpaaGreat

/-
  CONTRACTS of strings.Cut at a text that is not too great (the library's own, at this program) and of strings.Compare.
-/
namespace Go.Proofs.YtjnpmbdehalmpaaGreat
open Go.RowKit Go.Mk

/-- The variable MaxLen of internal/bytealg holds some int. -/
def MaxAt (w : World) : Prop := ∃ m, w.cell? ⟨0, 0, none⟩ = some (.int .i64 m)

theorem MaxAt.kept {w w' : World} (h : MaxAt w) (hk : Kept (fun _ => False) w w') : MaxAt w' :=
  let ⟨m, hm⟩ := h; ⟨m, (hk.cell (World.block_lt_of_cell? _ _ hm) (fun h => h)).trans hm⟩

theorem MaxAt.shaped {w : World} (h : w.ShapedOpen Tryz.prog) : MaxAt w :=
  Go.Proofs.cell_of_shapedOpen_int (zero := #[.int .i64 0]) (t := 3) h (of_decide_eq_true (by kernel_rfl)) (by kernel_rfl) rfl (by kernel_rfl) (by kernel_rfl) Tryz.underlying3

end Go.Proofs.YtjnpmbdehalmpaaGreat
