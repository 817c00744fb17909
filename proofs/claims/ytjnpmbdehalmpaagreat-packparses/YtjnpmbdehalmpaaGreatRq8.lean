/-
  The reference of layer 8: Parse.
-/
import Derived.Test.YtjnpmbdehalmpaaGreatGKp
import Derived.Test.YtjnpmbdehalmpaaGreatGSr
import Derived.Test.YtjnpmbdehalmpaaGreatGPt
import Derived.Test.YtjnpmbdehalmpaaGreatRv
import Derived.Test.YtjnpmbdehalmpaaGreatGL7
import Derived.Test.YtjnpmbdehalmpaaGreatGSw
import Derived.Deep.RegionHeld
import Derived.Deep.CutBlock
import Derived.Deep.DeepCutAuto
namespace Go.Proofs.YtjnpmbdehalmpaaGreat
open Go.RowKit Go.Mk Go.Maps

theorem lastK_at : ∀ (m : List Ent) (i : Nat) (h : m.length = i + 1), lastK (dds m) = keyD (m[i]'(by omega)).1
  | [], _, h => by simp at h
  | [_], 0, _ => rfl
  | [_], i + 1, h => by simp at h
  | _ :: _ :: _, 0, h => by simp at h
  | _ :: y :: r, i + 1, h => lastK_at (y :: r) i (by simpa using h)

/-- The reference's Parse under way. -/
structure Rg (w : World) (b : Nat) (s : RS) (m : List Ent) (v : Value) (wx : World) : Prop where
  rd : Mr wx b s
  own : wx.ownsRow (b + 1) 46 6 v m.length (cellsE m)
  lies : ∀ e ∈ m, Lies wx wx.heap.size e.2.1 (strs e.1.vs) ∧ e.1.vs.length ≤ e.2.2
  rows : ∀ e ∈ m, e.1.vs ≠ [] → ∀ a, e.2.1 = some a → b + 1 ≤ a.block ∧ v.ownBlock ≠ some a.block
  right : ∀ e ∈ m, rightD e.1 = true
  rise : Rise keyE m
  k : Kept (fun _ => False) w wx
  b1 : w.heap.size ≤ b

theorem Rg.kept {S : Nat → Prop} {w : World} {b : Nat} {s s' : RS} {m : List Ent} {v : Value} {wx wy : World} (h : Rg w b s m v wx) (hr : Mr wy b s') (hk : Kept S wx wy) (hS : ∀ k, S k → k = b) : Rg w b s' m v wy := by
  have hb1 := h.b1
  refine ⟨hr, owns_kept h.own hk (fun k hk2 e => by have := (owns_lt h.own k hk2).1; have := hS k e; omega), fun e he => ⟨((h.lies e he).1.kept hk (fun hn a ha e2 => ?_)).mono hk.size, (h.lies e he).2⟩, h.rows, h.right, h.rise, h.k.trans hk (fun i hi e => by have := hS i e; omega), hb1⟩
  have := (h.rows e he (fun e0 => hn (by rw [e0]; rfl)) a ha).1
  have := hS _ e2
  omega

theorem Rg.keep {w : World} {b : Nat} {s : RS} {m : List Ent} {v : Value} {wx wy : World} (h : Rg w b s m v wx) (hk : Kept (fun _ => False) wx wy) : Rg w b s m v wy := h.kept (h.rd.kept hk (fun h => h)) hk (fun _ h => h.elim)

/-- Behind an append of one definition. -/
theorem Rg.app {w : World} {b : Nat} {s : RS} {m : List Ent} {v v' : Value} {wx wy : World} {o : Obj} (h : Rg w b s m v wx) (y : Ent) (ho : wy.ownsRow 0 46 6 v' (m.length + 1) (cellsE m ++ cellsE1 y)) (hg : (wx.alloc o).grownBy wy v.ownBlock) (hb : v'.ownBlock = v.ownBlock ∨ v'.ownBlock = some (wx.heap.size + 1))
    (hL : Lies wx wx.heap.size y.2.1 (strs y.1.vs) ∧ y.1.vs.length ≤ y.2.2) (hR : y.1.vs ≠ [] → ∀ a, y.2.1 = some a → b + 1 ≤ a.block ∧ v.ownBlock ≠ some a.block) (hr : rightD y.1 = true) (hlast : lastK (dds m) < keyE y) : Rg w b s (m ++ [y]) v' wy := by
  have hb1 := h.b1
  have hlo := owns_lt h.own
  have hrl := h.rd.lt
  have k4 : Kept (fun k => v.ownBlock = some k) wx wy := Kept.grown ((Kept.refl _ wx).alloc _) hg (fun k hk _ => hk)
  have hrow : ∀ k, v'.ownBlock = some k → b + 1 ≤ k := fun k hk => by
    rcases hb with hb | hb
    · rw [hb] at hk; exact (hlo k hk).1
    · rw [hb] at hk; cases hk; omega
  have hall : ∀ e ∈ m ++ [y], (Lies wx wx.heap.size e.2.1 (strs e.1.vs) ∧ e.1.vs.length ≤ e.2.2) ∧ (e.1.vs ≠ [] → ∀ a, e.2.1 = some a → b + 1 ≤ a.block ∧ v.ownBlock ≠ some a.block) ∧ rightD e.1 = true := fun e he => by
    rcases List.mem_append.1 he with he | he
    · exact ⟨h.lies e he, h.rows e he, h.right e he⟩
    · rw [List.mem_singleton] at he
      subst he
      exact ⟨hL, hR, hr⟩
  refine ⟨h.rd.kept k4 (fun e => by have := (hlo b e).1; omega), ?_, fun e he => ⟨((hall e he).1.1.kept k4 (fun hn a ha e2 => ?_)).mono k4.size, (hall e he).1.2⟩, fun e he hn a ha => ⟨((hall e he).2.1 hn a ha).1, fun e2 => ?_⟩, fun e he => (hall e he).2.2, ?_, h.k.trans k4 (fun i hi e => by have := (hlo i e).1; omega), hb1⟩
  · have := owns_base (base' := b + 1) ho hrow
    rw [← cellsE_snoc] at this
    simpa using this
  · exact ((hall e he).2.1 (fun e0 => hn (by rw [e0]; rfl)) a ha).2 e2
  · rcases hb with hb | hb
    · rw [hb] at e2; exact ((hall e he).2.1 hn a ha).2 e2
    · rw [hb] at e2
      obtain ⟨b', off, e3, hlt, _⟩ := (hall e he).1.1 (by unfold strs; simpa using hn)
      rw [e3] at ha
      cases ha
      have h9 : wx.heap.size + 1 = b' := Option.some.inj e2
      omega
  · rw [← putK_last (rise_last h.rise hlast)]
    exact rise_putK h.rise

theorem Rg.rl {w : World} {b : Nat} {s : RS} {m : List Ent} {oa : Option Addr} {oc : Nat} {wx : World} (h : Rg w b s m (.slice oa m.length oc) wx) : Rl wx oa m :=
  ⟨owns_ds h.own h.lies, fun e he => small_len8 (right_small (h.right e he)), h.rise⟩

/-- What Parse answers: a list in new memory. -/
def RnF (w : World) (r : Int × List DD) (e : Ending) (w' : World) : Prop :=
  ∃ oa oc es, e = .returned (.tuple #[.slice oa es.length oc, .int .i64 r.1]) ∧ dds es = r.2 ∧ es.length ≤ 500 ∧ Rl w' oa es ∧ es.length ≤ oc ∧ (es ≠ [] → ∀ a, oa = some a → w.heap.size ≤ a.block) ∧ (∀ e ∈ es, strs e.1.vs ≠ [] → ∀ a, e.2.1 = some a → w.heap.size ≤ a.block) ∧ Kept (fun _ => False) w w'

theorem rnf_err {w w' : World} {r : Int} (hk : Kept (fun _ => False) w w') : RnF w (r, []) (.returned (.tuple #[.slice none 0 0, .int .i64 r])) w' :=
  ⟨none, 0, [], rfl, rfl, Nat.zero_le _, Rl.nil _ _, Nat.le_refl _, fun h => (h rfl).elim, fun _ he => absurd he List.not_mem_nil, hk⟩

theorem RnF.post {w : World} {r : Int × List DD} {e : Ending} {w' : World} (h : RnF w r e w') : RnPost w r e w' := by
  obtain ⟨oa, oc, es, h1, h2, h3, h4, _, _, _, h5⟩ := h
  exact ⟨oa, oc, es, h1, h2, h3, h4, h5⟩

theorem Rg.new {w : World} {b : Nat} {s : RS} {m : List Ent} {oa : Option Addr} {oc : Nat} {wx : World} (h : Rg w b s m (.slice oa m.length oc) wx) :
    m.length ≤ oc ∧ (m ≠ [] → ∀ a, oa = some a → w.heap.size ≤ a.block) ∧ (∀ e ∈ m, strs e.1.vs ≠ [] → ∀ a, e.2.1 = some a → w.heap.size ≤ a.block) := by
  have hb1 := h.b1
  refine ⟨owns_cap h.own, fun hn a ha => ?_, fun e he hn a ha => ?_⟩
  · rcases h.own.2 with ⟨_, h2⟩ | ⟨g, c, cur, hv, hb, _⟩
    · exact (hn (List.eq_nil_of_length_eq_zero h2)).elim
    · cases hv
      cases ha
      dsimp only
      omega
  · have := (h.rows e he (fun e0 => hn (by rw [e0]; rfl)) a ha).1
    omega

theorem rg_new {w wx : World} {b : Nat} {s : RS} (hr : Mr wx b s) (hk : Kept (fun _ => False) w wx) (hb : w.heap.size ≤ b) : Rg w b s [] (.slice none 0 0) wx :=
  ⟨hr, World.ownsRow_nil _ _ _ _, by simp, by simp, by simp, List.Pairwise.nil, hk, hb⟩

abbrev cells12 (b1 o1 b2 : Nat) (x : Ent) (y : Ent) (w' : World) : Prop :=
  w'.cell? ⟨b1, o1, none⟩ = some (.int .i64 x.1.k) ∧ w'.cell? ⟨b1, o1 + 1, none⟩ = some (.string (bs x.1.c)) ∧ w'.cell? ⟨b1, o1 + 2, none⟩ = some (.string (bs x.1.p)) ∧ w'.cell? ⟨b1, o1 + 3, none⟩ = some (.slice x.2.1 x.1.vs.length x.2.2) ∧ w'.cell? ⟨b1, o1 + 4, none⟩ = some (.string (bs x.1.s)) ∧ w'.cell? ⟨b1, o1 + 5, none⟩ = some (.string (bs x.1.t)) ∧
  w'.cell? ⟨b2, 0, none⟩ = some (.int .i64 y.1.k) ∧ w'.cell? ⟨b2, 1, none⟩ = some (.string (bs y.1.c)) ∧ w'.cell? ⟨b2, 2, none⟩ = some (.string (bs y.1.p)) ∧ w'.cell? ⟨b2, 3, none⟩ = some (.slice y.2.1 y.1.vs.length y.2.2) ∧ w'.cell? ⟨b2, 4, none⟩ = some (.string (bs y.1.s)) ∧ w'.cell? ⟨b2, 5, none⟩ = some (.string (bs y.1.t))

theorem cells12_of {b1 o1 b2 : Nat} {x y : Ent} {w : World} (h : Bo w b1 o1 x.2.1 x.2.2 x.1) (g : Bx w b2 y.2.1 y.2.2 y.1) : cells12 b1 o1 b2 x y w := ⟨h.c0, h.c1, h.c2, h.c3, h.c4, h.c5, g.c0, g.c1, g.c2, g.c3, g.c4, g.c5⟩

theorem mr_new8 (w : World) (l : List UInt8) (t : TypeId) : Mr (w.alloc (.cells #[.string (bs l), .int .i64 0] t)) w.heap.size ⟨l, 0⟩ :=
  ⟨World.cell?_alloc_new w _ t 0, World.cell?_alloc_new w _ t 1, by simp, by simp⟩

theorem parseL_eq' (l : List UInt8) : parseL l = if (RS.num ⟨l, 0⟩).1.err ≠ 0 then ((RS.num ⟨l, 0⟩).1.err, []) else if 500 < (RS.num ⟨l, 0⟩).2 then (21, []) else finP (parseN (RS.num ⟨l, 0⟩).2.toNat (RS.num ⟨l, 0⟩).1 []) := rfl

set_option maxHeartbeats 4000000 in
set_option maxRecDepth 100000 in
theorem rparseF_any (l : List UInt8) (w : World) (hl : l.length ≤ 1099511627776) :
    Calls Tryz.prog 55 #[.string (bs l)] w (RnF w (parseL l)) := by
  obtain ⟨i0, hi, hz0, hz1, hz2⟩ := info_parts Tryz.infoDef
  have HLL := Lib.hid hl
  clear hl
  have MR := Lib.hid (mr_new8 w l 80)
  have KA := Lib.hid ((Kept.refl (fun _ => False) w).alloc (.cells #[.string (bs l), .int .i64 0] 80))
  have HRN := Lib.hid (mnum_any _ ⟨l, 0⟩ _ MR.out HLL.out)
  have HPL := Lib.hid (parseL_eq' l)
  have HNC := Lib.hid (RS.num_cases ⟨l, 0⟩)
  have HNL := Lib.hid (num_len ⟨l, 0⟩)
  generalize hPL : parseL l = PL at *
  clear hPL
  generalize RS.num ⟨l, 0⟩ = q at *
  obtain ⟨s1, n⟩ := q
  dsimp only at HRN HPL HNC HNL
  go_enter Tryz.func55, Tryz.ntmps55
  go_wp2_with fail
  refine HRN.out.mono ?_
  rintro e w2 ⟨rfl, rd2, k2⟩
  have K2 := Lib.hid (KA.out.trans k2 (fun i hi e => by omega))
  have RD2 := Lib.hid rd2
  clear rd2 k2
  have hn : 0 ≤ n ∧ n ≤ 2147483647 := by
    rcases HNC.out with ⟨h1, h2⟩ | ⟨_, _, k, hk, h2⟩
    · have := (Prod.mk.inj h2).2; exact ⟨by omega, by omega⟩
    · have h3 := (Prod.mk.inj h2).2; exact ⟨by omega, by omega⟩
  obtain ⟨hn0, hn1⟩ := hn
  have c1 := RD2.out.c1
  by_cases he : s1.err = 0
  · have he1 : (s1.err != 0) = false := by simp [he]
    have HEZ := Lib.hid he
    by_cases h5 : 500 < n
    · have HE := Lib.hid (HPL.out.trans (by rw [if_neg (by simp [he]), if_pos h5]))
      clear he hn0 hn1
      go_wp2
      go_ret2
      rw [HE.out]
      exact rnf_err K2.out
    · obtain ⟨N, rfl⟩ : ∃ N : Nat, n = N := ⟨n.toNat, by omega⟩
      have HE := Lib.hid (show PL = finP (parseN N s1 []) by rw [HPL.out, if_neg (by simp [he]), if_neg h5]; rfl)
      clear HPL HNC
      have hN5 : N ≤ 500 := by omega
      have PG0 := Lib.hid (rg_new RD2.out K2.out (Nat.le_refl _))
      clear hn0 hn1 he
      obtain ⟨R, hR⟩ : ∃ R, R = parseN N s1 [] := ⟨_, rfl⟩
      rw [← hR] at HE
      have HR := Lib.hid hR
      clear hR
      go_wp2
      go_loopg [6, 7] N (fun k v c wr => ∃ j s m, k = N - j ∧ j ≤ N ∧ c = .int .i64 (j : Int) ∧ R = parseN (N - j) s (dds m) ∧ m.length = j ∧ s.err = 0 ∧ s.rest.length ≤ l.length ∧ Rg w w.heap.size s m v wr)
      case atStart => exact ⟨0, s1, [], rfl, Nat.zero_le _, rfl, HR.out, rfl, HEZ.out, HNL.out, PG0.out⟩
      case round =>
        clear PG0 HR HRN c1 he1
        obtain ⟨j, s, m, hk, hj, rfl, hR, hm, hse, hsl, hw⟩ := hrel
        have HK := Lib.hid hk; have HR := Lib.hid hR; have HM := Lib.hid hm; have HSL := Lib.hid hsl; have HW := Lib.hid hw; have HSE := Lib.hid hse
        clear hk hR hm hsl hw hse
        obtain ⟨oa, oc, rfl⟩ := owns_slice HW.out.own
        by_cases hlt : j < N
        · have hR := HR.out
          rw [show N - j = (N - (j + 1)) + 1 by omega, parseN] at hR
          have HDR := Lib.hid (rread_any w.heap.size s wr HW.out.rd (by have := HSL.out; have := HLL.out; omega))
          have HJO := Lib.hid (judge_ok (r := fieldsR s))
          have HFL := Lib.hid (fields_len s)
          have HR2 := Lib.hid hR
          have i1 : (j : Int) < (N : Int) := by omega
          clear hR
          rcases hjr : judgeR (fieldsR s) with ⟨d, er⟩
          rw [hjr] at HDR HJO HR2
          generalize (fieldsR s) = fs at *
          obtain ⟨s', d0⟩ := fs
          dsimp only at HDR HJO HR2 HFL
          clear hjr
          go_wp2_with fail
          refine HDR.out.mono ?_
          rintro e w3 ⟨ao, cap, rfl, ho, hr3, k3⟩
          have P3 := Lib.hid (HW.out.kept hr3 k3 (fun _ h => h))
          have HO := Lib.hid ho
          clear ho hr3 k3
          have KB := Lib.hid ((Kept.refl (fun _ => False) w3).alloc (.cells #[.int .i64 d.k, .string (bs d.c), .string (bs d.p), .slice ao d.vs.length cap, .string (bs d.s), .string (bs d.t)] 46))
          have BX := Lib.hid (bx_new w3 ao cap d 46)
          have P4 := Lib.hid (P3.out.keep KB.out)
          by_cases he : er = 0
          · subst he
            obtain ⟨hse', hrt0, hd0⟩ := HJO.out rfl
            have HSE' := Lib.hid (show s'.err = 0 from hse')
            have HRT := Lib.hid (show rightD d = true by rw [hd0]; exact hrt0)
            clear hrt0 hd0 HJO hse'
            have HL8 := Lib.hid (small_len8 (right_small HRT.out))
            have HLI := Lib.hid (show Lies w3 w3.heap.size ao (strs d.vs) ∧ d.vs.length ≤ cap from ⟨owns_lies HO.out, owns_cap HO.out⟩)
            have HBB := Lib.hid (show d.vs ≠ [] → ∀ a, ao = some a → w.heap.size + 1 ≤ a.block ∧ (Value.slice oa m.length oc).ownBlock ≠ some a.block from fun hv a ha => by
              rcases HO.out.2 with ⟨_, h2⟩ | ⟨g, c, cur, hv2, _, _, _⟩
              · exact (hv (List.eq_nil_of_length_eq_zero h2)).elim
              · cases hv2
                cases ha
                have h1 := (owns_lt HO.out g rfl).1
                have h2 := HW.out.rd.lt
                refine ⟨?_, fun e => ?_⟩
                · show w.heap.size + 1 ≤ g
                  omega
                · have := (owns_lt HW.out.own g e).2
                  omega)
            have HKEY := Lib.hid (fun (wx : World) (h : Kept (fun _ => False) w3 wx) => rkey_any d ao cap w3.heap.size wx (HLI.out.1.kept h (fun _ _ _ h => h)) HLI.out.2 HL8.out.n HL8.out.s HL8.out.c)
            have HKE := Lib.hid (show keyE (d, ao, cap) = keyD d from rfl)
            have HKN := Lib.hid (keyD_right HRT.out)
            have hleq : ∀ t (a b : ByteArray), binOp .leq t (.string a) (.string b) = pure (.bool (Op.bytesLess a.toList b.toList || a.toList == b.toList)) := fun t a b => by simp [binOp, Op.stringOp]
            generalize keyD d = key at *
            have z5 := bs_list key
            go_upto_region 14 with fail
            go_cut [51] (fun v wx => v = .bool (Op.bytesLess key (lastK (dds m)) || key == lastK (dds m)) ∧ Rg w w.heap.size s' m (.slice oa m.length oc) wx ∧ Bx wx w3.heap.size ao cap d ∧ Kept (fun _ => False) w3 wx)
            case first =>
              have PD := Lib.hid (P4.out.keep (Kept.drew (Kept.refl _ _)))
              have BD := Lib.hid (BX.out.kept (S := fun _ => False) (Kept.drew (Kept.refl _ _)) (fun h => h))
              have KD := Lib.hid (KB.out.trans (Kept.drew (Kept.refl (fun _ => False) _)) (fun _ _ h => h))
              by_cases hj0 : j = 0
              · obtain rfl : m = [] := List.eq_nil_of_length_eq_zero (by rw [HM.out]; exact hj0)
                have HQ := Lib.hid (show (Op.bytesLess key (lastK (dds [])) || key == lastK (dds [])) = false by
                  have h1 : (key == []) = false := by simpa using HKN.out
                  have h2 : Op.bytesLess key [] = false := by rw [bytesLess_lt]; simp
                  show (Op.bytesLess key [] || key == []) = false
                  rw [h1, h2]; rfl)
                subst hj0
                have i2 : ((0 : Nat) : Int) = 0 := rfl
                go_region
                all_goals go_wp2_with fail
                all_goals go_meet
                all_goals exact ⟨by rw [HQ.out], PD.out, BD.out, KD.out⟩
              · obtain ⟨i, hji⟩ : ∃ i, j = i + 1 := ⟨j - 1, by omega⟩
                have hmi : m.length = i + 1 := by rw [HM.out]; exact hji
                have him : i < m.length := by omega
                have hla : lastK (dds m) = keyD (m[i]'him).1 := lastK_at m i hmi
                obtain ⟨xb, xo, rfl, hxb, hcc⟩ := PD.out.rl.ds.row (by intro h; rw [h] at hmi; simp at hmi)
                have HBO := Lib.hid (hcc i him)
                have HRE := Lib.hid (PD.out.right m[i] (List.getElem_mem him))
                have HLE := Lib.hid (PD.out.lies m[i] (List.getElem_mem him))
                have i2 : 0 < j := by omega
                have i3 : (i : Int) < (m.length : Int) := by omega
                have i4 : IntKind.i64.wrap ((j : Int) - 1) = (i : Int) := by rw [IntKind.wrap_i64]; omega
                have i5 : wrap64 ((j : Int) - 1) = (i : Int) := by unfold wrap64; omega
                clear hcc hj0 hmi hji
                have HLA := Lib.hid hla
                clear hla
                generalize m[i] = y at *
                obtain ⟨d2, ao2, cap2⟩ := y
                dsimp only at HBO HRE HLE HLA
                have HL82 := Lib.hid (small_len8 (right_small HRE.out))
                have HKEY2 := Lib.hid (fun (wx : World) (h : Kept (fun _ => False) _ wx) => rkey_any d2 ao2 cap2 _ wx (HLE.out.1.kept h (fun _ _ _ h => h)) HLE.out.2 HL82.out.n HL82.out.s HL82.out.c)
                have hS := cells12_of (x := (d2, ao2, cap2)) (y := (d, ao, cap)) HBO.out BD.out
                generalize keyD d2 = key2 at *
                have z6 := bs_list key2
                go_region_held (cells12 xb (xo + i * 6) w3.heap.size (d2, ao2, cap2) (d, ao, cap)) (with_reducible assumption) (first
                  | (go_at_call_of 23 (Value.slice ao d.vs.length cap); refine (HKEY.out _ KD.out).mono ?_; rintro e w5 ⟨rfl, k5⟩; have P5 := Lib.hid (PD.out.keep k5); have B5 := Lib.hid (BD.out.kept k5 (fun h => h)); have K5 := Lib.hid (KD.out.trans k5 (fun _ _ h => h)); have KK5 := Lib.hid k5; have hS5 := cells12_of (x := (d2, ao2, cap2)) (y := (d, ao, cap)) (HBO.out.kept k5 (fun h => h)) B5.out; clear k5)
                  | (go_at_call_of 23 (Value.slice ao2 d2.vs.length cap2); refine (HKEY2.out _ KK5.out).mono ?_; rintro e w6 ⟨rfl, k6⟩; have P6 := Lib.hid (P5.out.keep k6); have B6 := Lib.hid (B5.out.kept k6 (fun h => h)); have K6 := Lib.hid (K5.out.trans k6 (fun _ _ h => h)); have hS6 := cells12_of (x := (d2, ao2, cap2)) (y := (d, ao, cap)) ((HBO.out.kept KK5.out (fun h => h)).kept k6 (fun h => h)) B6.out; clear k6))
                all_goals go_wp2_with fail
                all_goals go_meet
                all_goals exact ⟨by rw [HLA.out], P6.out, B6.out, K6.out⟩
            case rest =>
              obtain ⟨rfl, p7, b7, k7⟩ := hcut
              have P7 := Lib.hid p7; have B7 := Lib.hid b7; have K7 := Lib.hid k7
              clear p7 b7 k7
              by_cases hlk : lastK (dds m) < key
              · have q1 : (Op.bytesLess key (lastK (dds m)) || key == lastK (dds m)) = false := by rw [bytesLess_lt, decide_eq_false (lt_asy hlk)]; simpa using fun h => lt_ne hlk h.symm
                rw [q1]
                have hr3 := HR2.out
                rw [if_neg (by simp), if_pos hlk] at hr3
                have HR3 := Lib.hid hr3
                have HLK := Lib.hid (show lastK (dds m) < keyE (d, ao, cap) by rw [HKE.out]; exact hlk)
                clear hr3 hlk q1
                obtain ⟨c0, c1, c2, c3, c4, c5⟩ := B7.out
                have hla : m.length ≤ 500 := by have := HM.out; omega
                go_wp2_with (at_builtin; refine wpList_app _ rfl (.tmp 52) (.tmp 54) 23 23 rfl 46 i0 (.agg #[.int .i64 0, .string ⟨#[]⟩, .string ⟨#[]⟩, .slice none 0 0, .string ⟨#[]⟩, .string ⟨#[]⟩]) 6 96 Tryz.underlying23 hi hz0 hz1 hz2 rfl _ _ _ rfl ((owns_base (base' := 0) P7.out.own (fun _ _ => Nat.zero_le _)).alloc _) (.slice (some ⟨wc.heap.size, 0, none⟩) 1 1) 1 (cellsE1 (d, ao, cap)) rfl (src_def wc (d, ao, cap) _) ?b1 ?b2 ?next)
                case b1 => unfold maxLen; omega
                case b2 => omega
                case next =>
                  intro v' w8 ho8 hg8 hb8 _
                  have P8 := Lib.hid (P7.out.app (d, ao, cap) ho8 hg8 hb8 ⟨(HLI.out.1.kept K7.out (fun _ _ _ h => h)).mono K7.out.size, HLI.out.2⟩ HBB.out HRT.out HLK.out)
                  clear ho8 hg8 hb8 c0 c1 c2 c3 c4 c5
                  go_wp2
                  go_roundg (N - (j + 1))
                  case measure => have := HK.out; omega
                  case rel => exact ⟨j + 1, s', m ++ [(d, ao, cap)], rfl, by omega, by go_num, by rw [show dds (m ++ [(d, ao, cap)]) = dds m ++ [d] by simp [dds]]; exact HR3.out, by have := HM.out; simp; omega, HSE'.out, Nat.le_trans HFL.out HSL.out, P8.out⟩
              · have q1 : (Op.bytesLess key (lastK (dds m)) || key == lastK (dds m)) = true := by
                  rcases lt_tri key (lastK (dds m)) with h | h | h
                  · rw [bytesLess_lt, decide_eq_true h]; rfl
                  · simp [h]
                  · exact (hlk h).elim
                rw [q1]
                have hr3 := HR2.out
                rw [if_neg (by simp), if_neg hlk] at hr3
                have HF := Lib.hid (show finP R = (32, []) by rw [hr3]; rfl)
                clear hr3 hlk q1
                go_wp2
                go_ret2
                rw [HE.out, HF.out]
                exact rnf_err P7.out.k
          · have he1 : (er != 0) = true := by simp [he]
            have hr3 := HR2.out
            rw [if_pos he] at hr3
            have HF := Lib.hid (show finP R = (er, []) by rw [hr3]; unfold finP; rw [if_pos he])
            clear hr3 he
            go_wp2
            go_ret2
            rw [HE.out, HF.out]
            exact rnf_err P4.out.k
        · obtain rfl : j = N := by omega
          have hR := HR.out
          rw [Nat.sub_self, parseN] at hR
          have c0 := HW.out.rd.c0
          have hse := HSE.out
          have hzs : (bs s.rest).size = s.rest.length := rfl
          by_cases hr : s.rest = []
          · have HF := Lib.hid (show finP R = (0, dds m) by rw [hR]; unfold finP; simp [RS.endE, hse, hr])
            rw [hr] at c0 hzs
            clear hR hlt hse hr
            go_wp2
            go_ret2
            rw [HE.out, HF.out]
            exact ⟨oa, oc, m, rfl, rfl, by have := HM.out; omega, HW.out.rl, HW.out.new.1, HW.out.new.2.1, HW.out.new.2.2, HW.out.k⟩
          · have HF := Lib.hid (show finP R = (11, []) by rw [hR]; unfold finP; simp [RS.endE, hse, hr])
            have hp : 0 < (s.rest.length : Int) := by have := List.length_pos_iff.2 hr; omega
            clear hR hlt hse hr
            go_wp2
            go_ret2
            rw [HE.out, HF.out]
            exact rnf_err HW.out.k
  · have he1 : (s1.err != 0) = true := by simp [he]
    have HE := Lib.hid (HPL.out.trans (if_pos he))
    have c1' : w2.drew.cell? ⟨w.heap.size, 1, none⟩ = some (.int .i64 s1.err) := c1
    clear he hn0 hn1
    go_upto_region 4 with fail
    go_region
    all_goals go_wp2
    all_goals go_ret2
    all_goals rw [HE.out]
    all_goals exact rnf_err (K2.out.trans (Kept.drew (Kept.refl (fun _ => False) w2)) (fun _ _ h => h))

theorem rparse_any (l : List UInt8) (w : World) (hl : l.length ≤ 1099511627776) :
    Calls Tryz.prog 55 #[.string (bs l)] w (RnPost w (parseL l)) := (rparseF_any l w hl).mono (fun _ _ h => h.post)

end Go.Proofs.YtjnpmbdehalmpaaGreat
