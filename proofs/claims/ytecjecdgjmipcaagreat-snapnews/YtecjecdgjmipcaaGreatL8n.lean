/-
  SnapNews: the walk.
-/
import Derived.Test.YtecjecdgjmipcaaGreatL8x
import Derived.Test.YtecjecdgjmipcaaGreatTg8
import Derived.Test.YtecjecdgjmipcaaGreatGRv
import Derived.Deep.RegionHeld
import Derived.Deep.CutBlock
import Derived.Deep.DeepCutAuto
namespace Go.Proofs.YtecjecdgjmipcaaGreat
open Go.RowKit Go.Mk Go.Maps

/-- The snapshot and the reference's list. -/
structure N8 (w : World) (v : Value) (oa : Option Addr) (fs : List Ent) (wx : World) : Prop where
  sn : Sn wx v (dds fs)
  rl : Rl wx oa fs
  k : Kept (fun _ => False) w wx

theorem N8.keep {w : World} {v : Value} {oa : Option Addr} {fs : List Ent} {wx wy : World} (h : N8 w v oa fs wx) (hk : Kept (fun _ => False) wx wy) : N8 w v oa fs wy :=
  ⟨h.sn.keep hk, h.rl.keep hk, h.k.trans hk (fun _ _ h => h)⟩

/-- .. and the other snapshot. -/
structure M8 (w : World) (v u : Value) (oa : Option Addr) (fs : List Ent) (wx : World) : Prop where
  a : N8 w v oa fs wx
  b : Sn wx u (dds fs)

theorem M8.keep {w : World} {v u : Value} {oa : Option Addr} {fs : List Ent} {wx wy : World} (h : M8 w v u oa fs wx) (hk : Kept (fun _ => False) wx wy) : M8 w v u oa fs wy := ⟨h.a.keep hk, h.b.keep hk⟩

theorem M8.same {w : World} {v u : Value} {oa : Option Addr} {fs : List Ent} {wx : World} (h : M8 w v u oa fs wx) : Calls Tryz.prog 19 #[v, u] wx fun e w' => e = .returned (.bool true) ∧ Kept (fun _ => False) wx w' := by
  have := ssame_any h.a.sn h.b
  rwa [show sameL (dds fs) (dds fs) = true from decide_eq_true rfl] at this

theorem M8.same' {w : World} {v u : Value} {oa : Option Addr} {fs : List Ent} {wx : World} (h : M8 w v u oa fs wx) : Calls Tryz.prog 19 #[u, v] wx fun e w' => e = .returned (.bool true) ∧ Kept (fun _ => False) wx w' := by
  have := ssame_any h.b h.a.sn
  rwa [show sameL (dds fs) (dds fs) = true from decide_eq_true rfl] at this

/-- .. and a definition in a box, and the same one in the list. -/
structure F8 (w : World) (v u : Value) (oa : Option Addr) (fs : List Ent) (b xb o : Nat) (ao ao2 : Option Addr) (cap cap2 : Nat) (d : DD) (wx : World) : Prop where
  m : M8 w v u oa fs wx
  bx : Bx wx b ao cap d
  bo : Bo wx xb o ao2 cap2 d
  la : Lies wx wx.heap.size ao (strs d.vs)
  lb : Lies wx wx.heap.size ao2 (strs d.vs)

theorem F8.keep {w : World} {v u : Value} {oa : Option Addr} {fs : List Ent} {b xb o : Nat} {ao ao2 : Option Addr} {cap cap2 : Nat} {d : DD} {wx wy : World} (h : F8 w v u oa fs b xb o ao ao2 cap cap2 d wx) (hk : Kept (fun _ => False) wx wy) : F8 w v u oa fs b xb o ao ao2 cap cap2 d wy :=
  ⟨h.m.keep hk, h.bx.kept hk (fun h => h), h.bo.kept hk (fun h => h), (h.la.kept hk (fun _ _ _ h => h)).mono hk.size, (h.lb.kept hk (fun _ _ _ h => h)).mono hk.size⟩

theorem F8.cells {w : World} {v u : Value} {oa : Option Addr} {fs : List Ent} {b xb o : Nat} {ao ao2 : Option Addr} {cap cap2 : Nat} {d : DD} {wx : World} (h : F8 w v u oa fs b xb o ao ao2 cap cap2 d wx) : cells12 xb o b (d, ao2, cap2) (d, ao, cap) wx :=
  cells12_of (x := (d, ao2, cap2)) (y := (d, ao, cap)) h.bo h.bx

theorem F8.same {w : World} {v u : Value} {oa : Option Addr} {fs : List Ent} {b xb o : Nat} {ao ao2 : Option Addr} {cap cap2 : Nat} {d : DD} {wx : World} (h : F8 w v u oa fs b xb o ao ao2 cap cap2 d wx) (hv : d.vs.length ≤ 1000000) :
    Calls Tryz.prog 29 #[.agg #[.int .i64 d.k, .string (bs d.c), .string (bs d.p), .slice ao d.vs.length cap, .string (bs d.s), .string (bs d.t)], .agg #[.int .i64 d.k, .string (bs d.c), .string (bs d.p), .slice ao2 d.vs.length cap2, .string (bs d.s), .string (bs d.t)]] wx fun e w' => e = .returned (.bool true) ∧ Kept (fun _ => False) wx w' := by
  have := rsame7_any d d ao ao2 cap cap2 _ wx h.la h.lb (by omega) (by omega)
  rwa [sameB_refl] at this

def bigN (es : List Ent) (n : Nat) : Bool := !fewB es 20 || decide (700 < n)

set_option maxHeartbeats 4000000 in
set_option maxRecDepth 100000 in
theorem news8_any (la : Option Addr) (lc : Nat) (es : List Ent) (key : List UInt8) (turn : Int) (w : World) (hD : Ds w w.heap.size la es) :
    Calls Tryz.prog 5 #[.slice la es.length lc, .string (bs key), .int .i64 turn] w fun e w' => e = .returned (.bool true) ∧ Below w.heap.size w w' := by
  obtain ⟨i0, hi, hz0, hz1, hz2⟩ := info_parts Tryz.infoDef
  have HAW := Lib.hid (fun w => awake8_any w)
  have HFEW := Lib.hid (fun (wx : World) (h : Kept (fun _ => False) w wx) => few_any la lc es 20 w.heap.size wx (hD.keep h) (by decide))
  have HD := Lib.hid hD
  clear hD
  have zk : (bs key).size = key.length := bs_size key
  go_enter Tryz.func5, Tryz.ntmps5
  go_upto_region 1 with fail
  go_cut [29] (fun v wx => v = .bool (bigN es key.length) ∧ Kept (fun _ => False) w wx)
  case first =>
    go_wp2_with fail
    refine (HAW.out _).mono ?_
    rintro e w1 ⟨rfl, k1⟩
    have K1 := Lib.hid k1; clear k1
    go_wp2_with fail
    refine (HFEW.out _ K1.out).mono ?_
    rintro e w2 ⟨rfl, k2⟩
    have K2 := Lib.hid (K1.out.trans k2 (fun _ _ h => h)); clear k2
    cases hf : fewB es 20 with
    | false =>
      have HB := Lib.hid (show bigN es key.length = true by simp [bigN, hf]); clear hf
      go_wp2_with fail
      go_meet
      case rel => exact ⟨by rw [HB.out], K2.out⟩
    | true =>
      by_cases hn : 700 < key.length
      · have HB := Lib.hid (show bigN es key.length = true by simp [bigN, hn]); clear hf
        have i1 : (700 : Int) < (key.length : Int) := by omega
        clear hn
        go_wp2_with fail
        go_meet
        case rel => exact ⟨by rw [HB.out], K2.out⟩
      · have HB := Lib.hid (show bigN es key.length = false by simp [bigN, hn, hf]); clear hf
        have i1 : ¬ (700 : Int) < (key.length : Int) := by omega
        clear hn
        go_wp2_with fail
        go_meet
        case rel => exact ⟨by rw [HB.out, decide_eq_false (by omega)], K2.out⟩
  case rest =>
    obtain ⟨rfl, k3⟩ := hcut
    have K3 := Lib.hid k3; clear k3
    cases hbig : bigN es key.length with
    | true =>
      clear hbig
      go_wp2_with fail
      refine (HAW.out _).mono ?_
      rintro e w4 ⟨rfl, k4⟩
      have K4 := Lib.hid (K3.out.trans k4 (fun _ _ h => h)); clear k4
      go_wp2
      go_ret
      exact ⟨rfl, keeps_below7 K4.out⟩
    | false =>
      have hall : fewB es 20 = true ∧ key.length ≤ 700 := by
        simp [bigN] at hbig
        exact ⟨hbig.1, by omega⟩
      obtain ⟨hfew, hkl⟩ := hall
      have HF := Lib.hid (few_of (n := 20) hfew)
      have HKL := Lib.hid hkl
      clear hbig hfew hkl
      have HL := Lib.hid (show ∀ e ∈ es, Len8 e.1 from fun e he => small_len8 (HF.out.small e he))
      have HSN := Lib.hid (fun (wx : World) (h : Kept (fun _ => False) w wx) => snew_any la lc es w.heap.size wx h.size (HD.out.keep h) HL.out (by have := HF.out.len; omega))
      have HRN := Lib.hid (fun (wx : World) (h : Kept (fun _ => False) w wx) => rnew_any la lc es w.heap.size wx h.size (HD.out.keep h) HL.out (by have := HF.out.len; omega))
      have HNL := Lib.hid (show (newL (dds es)).2.length ≤ 20 by
        by_cases h : (newL (dds es)).1 = 0
        · rw [(newL_made h).len, dds_len]; exact HF.out.len
        · rw [newL_none h]; exact Nat.zero_le _)
      have HRS := Lib.hid (fun (wx : World) (h : 1 ≤ es.length) => rest_is turn es.length wx h (by have := HF.out.len; omega))
      have HRL := Lib.hid (fun (h : 1 ≤ es.length) => restN_lt turn es.length h (by have := HF.out.len; omega))
      generalize restN turn es.length = rr at *
      have HSR := Lib.hid (fun (wx : World) (ao : Option Addr) (cap : Nat) (h : Ds wx wx.heap.size ao (rot es rr)) => snew_any ao cap (rot es rr) wx.heap.size wx (Nat.le_refl _) h (fun e he => HL.out e ((rot_perm es rr).mem_iff.2 he)) (by rw [rot_len]; have := HF.out.len; omega))
      have HPM := Lib.hid (show (newL (dds es)).1 = 0 → newL (dds (rot es rr)) = (0, (newL (dds es)).2) from fun h =>
        have hh := newL_perm (l := dds es) (m := dds (rot es rr)) ((rot_perm es rr).map _) h (by rw [dds_len]; have := HF.out.len; omega)
        Prod.ext hh.1 hh.2)
      have HTG := Lib.hid (show ∀ j (h : j < es.length), ∃ hq : (j + rr) % es.length < es.length, (rot es rr).take (j + 1) = (rot es rr).take j ++ [es[(j + rr) % es.length]] from fun j h => by
        have hg := rot_get es rr j (HRL.out (by omega)) h
        refine ⟨Nat.mod_lt _ (by omega), ?_⟩
        rw [List.take_add_one, List.getElem?_eq_getElem (by rw [rot_len]; exact h), Option.toList_some, hg])
      have HTA := Lib.hid (show (rot es rr).take es.length = rot es rr from List.take_of_length_le (by rw [rot_len]; exact Nat.le_refl _))
      have HTM := Lib.hid (show ∀ e ∈ rot es rr, e ∈ es from fun e he => (rot_perm es rr).mem_iff.2 he)
      generalize rot es rr = tl at *
      generalize newL (dds tl) = q at *
      generalize newL (dds es) = r at *
      obtain ⟨er, l0⟩ := r
      dsimp only at *
      go_wp2_with fail
      refine (HSN.out _ K3.out).mono ?_
      rintro e w5 ⟨v5, rfl, hv5, hn5, s5, k5⟩
      have S5 := Lib.hid s5; have K5 := Lib.hid (K3.out.trans k5 (fun _ _ h => h)); have HV5 := Lib.hid hv5; have HN5 := Lib.hid hn5
      clear s5 k5 hv5 hn5
      go_wp2_with fail
      refine (HRN.out _ K5.out).mono ?_
      rintro e w6 ⟨oa, oc, fs, rfl, hd6, hl6, r6, k6⟩
      have O6 := Lib.hid (show N8 w v5 oa fs w6 from ⟨by rw [hd6]; exact S5.out.keep k6, r6, K5.out.trans k6 (fun _ _ h => h)⟩)
      have HFL := Lib.hid (show fs.length ≤ 20 by rw [← dds_len, hd6]; exact HNL.out)
      have HD6 := Lib.hid hd6
      clear r6 k6 hd6 hl6 S5
      dsimp only at *
      by_cases he : er = 0
      · obtain ⟨p1, rfl⟩ := HV5.out he
        subst he
        have HQ := Lib.hid (HPM.out rfl)
        clear HV5 HN5 HPM
        rw [HQ.out, ← HD6.out] at HSR
        clear HQ HD6
        go_wp2
        go_loopg [11, 12] es.length (fun k v c wr => ∃ j acc, k = es.length - j ∧ j ≤ es.length ∧ c = .int .i64 (j : Int) ∧ acc = tl.take j ∧ acc.length ≤ j ∧ wr.ownsRow w6.heap.size 49 6 v acc.length (cellsE acc) ∧ Kept (fun _ => False) w6 wr)
        case atStart => exact ⟨0, [], rfl, Nat.zero_le _, rfl, rfl, Nat.le_refl _, World.ownsRow_nil _ _ _ _, Kept.refl _ _⟩
        case round =>
          obtain ⟨j, acc, hk, hj, rfl, hacc, hal, hown, hw⟩ := hrel
          have HK := Lib.hid hk; have HAC := Lib.hid hacc; have HAL := Lib.hid hal; have HO := Lib.hid hown; have HW := Lib.hid hw
          clear hk hacc hal hown hw
          by_cases hlt : j < es.length
          · obtain ⟨hq, htk⟩ := HTG.out j hlt
            have i2 : ((j : Int) + (rr : Int)).tmod (es.length : Int) = (((j + rr) % es.length : Nat) : Int) := by
              rw [Int.tmod_eq_emod_of_nonneg (by omega), Int.natCast_emod, Int.natCast_add]
            have i3 : wrap64 ((j : Int) + (rr : Int)) = (j : Int) + (rr : Int) := by have h1 := HRL.out (by omega); have h2 := HF.out.len; unfold wrap64; omega
            obtain ⟨xb, xo, rfl, hxb, hc⟩ := HD.out.row (by intro h; rw [h] at hlt; simp at hlt)
            have HB := Lib.hid (hc _ hq)
            obtain ⟨c0, c1, c2, c3, c4, c5⟩ := ((hc _ hq).kept O6.out.k (fun h => h)).kept HW.out (fun h => h)
            have HT := Lib.hid htk
            have i1 : (j : Int) < (es.length : Int) := by omega
            have i4 : ((((j + rr) % es.length : Nat)) : Int) < (es.length : Int) := by omega
            clear hc htk
            generalize hqq : es[(j + rr) % es.length] = x at *
            generalize (j + rr) % es.length = q1 at *
            clear hqq
            obtain ⟨d, ao, cap⟩ := x
            dsimp only at c0 c1 c2 c3 c4 c5 HB
            have hes : 1 ≤ es.length := by omega
            go_wp2_with fail
            refine (HRS.out _ hes).mono ?_
            rintro e w7 ⟨rfl, rfl⟩
            have hz1' := HW.out.size
            have HLO := Lib.hid (owns_lt HO.out)
            have hla := HAL.out
            have hl20 := HF.out.len
            have HO3 := Lib.hid (owns_base (base' := 0) HO.out (fun _ _ => Nat.zero_le _))
            go_wp2_with (at_builtin; refine wpList_app _ rfl (.tmp 59) (.tmp 72) 22 22 rfl 49 i0 (.agg #[.int .i64 0, .string ⟨#[]⟩, .string ⟨#[]⟩, .slice none 0 0, .string ⟨#[]⟩, .string ⟨#[]⟩]) 6 96 Tryz.underlying22 hi hz0 hz1 hz2 rfl _ _ _ rfl (HO3.out.alloc _) (.slice (some ⟨wr.heap.size, 0, none⟩) 1 1) 1 (cellsE1 (d, ao, cap)) rfl (src_def wr (d, ao, cap) _) ?b1 ?b2 ?next)
            case b1 => unfold maxLen; omega
            case b2 => omega
            case next =>
              intro v' w4 ho4 hg4 hb4 _
              have hrow : ∀ k, v'.ownBlock = some k → w6.heap.size ≤ k := fun k hk => by
                rcases hb4 with hb4 | hb4
                · rw [hb4] at hk; exact (HLO.out k hk).1
                · rw [hb4] at hk; cases hk; omega
              have k4 : Kept (fun k => w6.heap.size ≤ k) wr w4 := Kept.grown ((Kept.refl _ wr).alloc _) hg4 (fun k hk _ => (HLO.out k hk).1)
              have K4 := Lib.hid (HW.out.trans k4 (fun i hi h => absurd h (by omega)))
              have ho5 := owns_base (base' := w6.heap.size) ho4 hrow
              rw [← cellsE_snoc, show acc.length + 1 = (acc ++ [(d, ao, cap)]).length by simp] at ho5
              have HO5 := Lib.hid ho5
              clear ho4 hg4 hb4 hrow k4 ho5
              go_wp2
              go_roundg (es.length - (j + 1))
              case measure => have := HK.out; omega
              case rel => exact ⟨j + 1, acc ++ [(d, ao, cap)], rfl, by omega, by go_num, by rw [HT.out, HAC.out], by simp; exact HAL.out, HO5.out, K4.out⟩
          · obtain rfl : j = es.length := by omega
            obtain rfl : acc = tl := HAC.out.trans HTA.out
            obtain ⟨aoT, capT, rfl⟩ := owns_slice HO.out
            have HDT := Lib.hid (show Ds wr wr.heap.size aoT acc from owns_ds HO.out (fun e he => by
              have h1 := HD.out.lies e (HTM.out e he)
              exact ⟨((h1.1.kept O6.out.k (fun _ _ _ h => h)).kept HW.out (fun _ _ _ h => h)).mono (Nat.le_trans O6.out.k.size HW.out.size), h1.2⟩))
            have O7 := Lib.hid (O6.out.keep HW.out)
            clear hlt
            go_wp2_with fail
            refine (HSR.out _ _ _ HDT.out).mono ?_
            rintro e w8 ⟨v8, rfl, hv8, _, s8, k8⟩
            obtain ⟨p8, rfl⟩ := hv8 rfl
            have O8 := Lib.hid (show M8 w (.pointer (some ⟨p1, 0, none⟩)) (.pointer (some ⟨p8, 0, none⟩)) oa fs w8 from ⟨O7.out.keep k8, s8⟩)
            clear hv8 s8 k8
            have HWR := Lib.hid (fun (wx : World) (h : Sn wx (.pointer (some ⟨p1, 0, none⟩)) (dds fs)) => swrite_any (.pointer (some ⟨p1, 0, none⟩)) (dds fs) wx h (by rw [dds_len]; have := HFL.out; omega))
            have HRW := Lib.hid (fun (wx : World) (h : Rl wx oa fs) => rwrite_any oa oc fs wx h (fun e he => O8.out.a.sn.right e.1 (List.mem_map_of_mem he)) (by have := HFL.out; omega))
            have HFD := Lib.hid (fun (wx : World) (h : Rl wx oa fs) => rfind_any oa oc fs key wx.heap.size wx h.ds h.len (by have := HFL.out; omega))
            have HFC := Lib.hid (find_cases key fs)
            have HIS := Lib.hid (fun (wx : World) (h : M8 w (.pointer (some ⟨p1, 0, none⟩)) (.pointer (some ⟨p8, 0, none⟩)) oa fs wx) => is_rl (oc := oc) h.a.sn h.a.rl (by have := HFL.out; omega))
            generalize octS (dds fs) = os at *
            have HCO := Lib.hid (fun (wx : World) (z : Nat) (ao8 : Option Addr) (cap8 : Nat) (ho : wx.ownsRow z 5 1 (.slice ao8 os.length cap8) os.length (os.map bv)) => run_string_of (P := Tryz.prog) wx 55 9 5 Tryz.underlying55 Tryz.underlying5 Tryz.underlying9 cap8 _ rfl (owns_lies ho))
            have zo := bs_list os
            rcases HFC.out with ⟨i, hil, hik, hfi⟩ | ⟨hno, hfi⟩
            · rw [hfi] at HFD
              have hmem := List.getElem_mem hil
              have HRT := Lib.hid (O8.out.a.sn.right fs[i].1 (List.mem_map_of_mem hmem))
              have HGT := Lib.hid (show Calls Tryz.prog 27 #[.pointer (some ⟨p1, 0, none⟩), .string (bs key)] w8 (GtPost w8 fs[i].1 true) by
                have := sget_has O8.out.a.sn (d := fs[i].1) (List.mem_map_of_mem hmem) (by rw [show keyD fs[i].1 = key from hik]; have := HKL.out; unfold maxLen; omega)
                rw [show keyD fs[i].1 = key from hik] at this
                exact this)
              have hk0 : key ≠ [] := by rw [← hik]; exact keyD_right HRT.out
              obtain ⟨xb, xo, rfl, hxb, hcc⟩ := O8.out.a.rl.ds.row (by intro h; rw [h] at hil; simp at hil)
              have HBO := Lib.hid (hcc i hil)
              have HLE := Lib.hid (O8.out.a.rl.ds.lies fs[i] hmem)
              have HVL := Lib.hid ((O8.out.a.rl.len fs[i] hmem).n)
              have i3 : (i : Int) < (fs.length : Int) := by omega
              clear hcc hmem hik hfi HFC
              generalize fs[i] = y at *
              obtain ⟨d, ao2, cap2⟩ := y
              dsimp only at HBO HRT HGT HLE HVL
              go_wp2_with fail
              refine HGT.out.mono ?_
              rintro e w9 ⟨ao9, cap9, rfl, hl9, k9⟩
              have kb : Kept (fun _ => False) w9 (w9.alloc (.cells #[.int .i64 d.k, .string (bs d.c), .string (bs d.p), .slice ao9 d.vs.length cap9, .string (bs d.s), .string (bs d.t)] 49)) := (Kept.refl (fun _ => False) w9).alloc _
              have kc := k9.trans kb (fun _ _ h => h)
              have O9 := Lib.hid (show F8 w (.pointer (some ⟨p1, 0, none⟩)) (.pointer (some ⟨p8, 0, none⟩)) (some ⟨xb, xo, none⟩) fs w9.heap.size xb (xo + i * 6) ao9 ao2 cap9 cap2 d (w9.alloc (.cells #[.int .i64 d.k, .string (bs d.c), .string (bs d.p), .slice ao9 d.vs.length cap9, .string (bs d.s), .string (bs d.t)] 49)) from
                ⟨O8.out.keep kc, bx_new w9 ao9 cap9 d _, HBO.out.kept kc (fun h => h), (hl9.kept kb (fun _ _ _ h => h)).mono kb.size, (HLE.out.1.kept kc (fun _ _ _ h => h)).mono kc.size⟩)
              clear kb kc hl9 k9
              unfold valE
              go_wp2_with fail
              refine (HFD.out _ O9.out.m.a.rl).mono ?_
              rintro e w10 ⟨rfl, k10⟩
              have O10 := Lib.hid (O9.out.keep (k10.trans (Kept.drew (Kept.refl (fun _ => False) _)) (fun _ _ h => h))); clear k10
              have zk2 := bs_list key
              have hk1 : (key == []) = false := by simpa using hk0
              go_upto_region 19 with fail
              have hS := O10.out.cells
              go_region_held (cells12 xb (xo + i * 6) w9.heap.size (d, ao2, cap2) (d, ao9, cap9)) (with_reducible assumption) (first
                | (go_at_call 20; refine (HIS.out _ O10.out.m).mono ?_; rintro e w11 ⟨rfl, k11⟩; have O11 := Lib.hid (O10.out.keep k11); have hS11 := O11.out.cells; clear k11)
                | (go_at_call 19; refine (O12.out.m.same').mono ?_; rintro e w13 ⟨rfl, k13⟩; have O13 := Lib.hid (O12.out.keep k13); have hS13 := O13.out.cells; clear k13)
                | (go_at_call 19; refine (O11.out.m.same).mono ?_; rintro e w12 ⟨rfl, k12⟩; have O12 := Lib.hid (O11.out.keep k12); have hS12 := O12.out.cells; clear k12)
                | (go_at_call 29; refine (O13.out.same HVL.out).mono ?_; rintro e w14 ⟨rfl, k14⟩; have O14 := Lib.hid (O13.out.keep k14); have hS14 := O14.out.cells; clear k14)
                | (go_at_call 30; refine (HWR.out _ O14.out.m.a.sn).mono ?_; rintro e w15 ⟨ao15, cap15, rfl, ho15, k15⟩; have O15 := Lib.hid (O14.out.keep k15); have hS15 := O15.out.cells; have hca15 := HCO.out _ _ _ _ ho15; have HO15 := Lib.hid ho15; clear ho15 k15)
                | (go_at_call 31; refine (HRW.out _ O15.out.m.a.rl).mono ?_; rintro e w16 ⟨rfl, k16⟩; have O16 := Lib.hid (O15.out.keep k16); have hS16 := O16.out.cells; have hca16 := HCO.out _ _ _ _ (owns_kept HO15.out k16 (fun _ _ h => h)); clear k16))
              all_goals go_wp2
              all_goals go_ret
              all_goals exact ⟨rfl, keeps_below7 O16.out.m.a.k⟩
            · rw [hfi] at HFD
              have HGT := Lib.hid (sget_no O8.out.a.sn (key := key) (fun d hd => by obtain ⟨e, he, rfl⟩ := List.mem_map.1 hd; exact hno e he) (by have := HKL.out; unfold maxLen; omega))
              clear hno hfi HFC
              go_wp2_with fail
              refine HGT.out.mono ?_
              rintro e w9 ⟨ao9, cap9, rfl, hl9, k9⟩
              have O9 := Lib.hid (O8.out.keep (k9.trans ((Kept.refl (fun _ => False) w9).alloc (.cells #[.int .i64 zeroD.k, .string (bs zeroD.c), .string (bs zeroD.p), .slice ao9 zeroD.vs.length cap9, .string (bs zeroD.s), .string (bs zeroD.t)] 49)) (fun _ _ h => h)))
              clear hl9 k9
              unfold valE
              generalize zeroD = d at *
              go_wp2_with fail
              refine (HFD.out _ O9.out.a.rl).mono ?_
              rintro e w10 ⟨rfl, k10⟩
              have O10 := Lib.hid (O9.out.keep k10); clear k10
              have zk2 := bs_list key
              go_upto_if 89 with fail
              go_cut [17] (fun v wx => v = .int .i64 (-1) ∧ M8 w (.pointer (some ⟨p1, 0, none⟩)) (.pointer (some ⟨p8, 0, none⟩)) oa fs wx)
              case first =>
                go_wp2_with fail
                all_goals go_meet
                all_goals exact ⟨rfl, O10.out⟩
              case rest =>
                obtain ⟨rfl, o11⟩ := hcut
                have O11 := Lib.hid (o11.keep (Kept.drew (Kept.refl (fun _ => False) _))); clear o11 zk2
                go_upto_region 19 with fail
                refine wp_region_any (by kernel_rfl) ?_
                change wpAny _ _ _ _ _ _ _ (World.drew _)
                refine wpAny_take (i := 0) (oi := { dst := some 90, op := _, type := _, pos := _, after := _, guard := none }) (v := .pointer (some ⟨p1, 0, none⟩)) rfl (by kernel_rfl) (by kernel_rfl) (by kernel_rfl) (fun _ _ _ h => h) (Or.inl ⟨by rfl, by intro w; go_simp⟩) ?_; simp only [Act.put, List.setIfInBounds_toArray, List.set_cons_zero, List.set_cons_succ]
                refine wpAny_take (i := 1) (oi := { dst := some 91, op := _, type := _, pos := _, after := _, guard := none }) (v := .slice oa fs.length oc) rfl (by kernel_rfl) (by kernel_rfl) (by kernel_rfl) (fun _ _ _ h => h) (Or.inl ⟨by rfl, by intro w; go_simp⟩) ?_; simp only [Act.put, List.setIfInBounds_toArray, List.set_cons_zero, List.set_cons_succ]
                refine wpAny_ready (rs := [2]) (by kernel_rfl) (by simp) ?_; refine (AllReady.cons rfl (fun K hK => ?_) AllReady.nil); go_simp
                go_wp2_with (go_at_call 20; refine (HIS.out _ O11.out).mono ?_; rintro e w12 ⟨rfl, k12⟩; have O12 := Lib.hid (O11.out.keep k12); clear k12)
                try simp only [Act.put, List.setIfInBounds_toArray, List.set_cons_zero, List.set_cons_succ]
                refine wpAny_take (i := 3) (oi := { dst := some 93, op := _, type := _, pos := _, after := _, guard := none }) (v := .bool true) rfl (by kernel_rfl) (by kernel_rfl) (by kernel_rfl) (fun _ _ _ h => h) (Or.inl ⟨by rfl, by intro w; go_simp⟩) ?_; simp only [Act.put, List.setIfInBounds_toArray, List.set_cons_zero, List.set_cons_succ]
                refine wpAny_take (i := 4) (oi := { dst := some 94, op := _, type := _, pos := _, after := _, guard := some (3, true) }) (v := .int .i64 0) rfl (by kernel_rfl) (by kernel_rfl) (by kernel_rfl) (fun _ _ _ h => h) (Or.inl ⟨by rfl, by intro w; go_simp⟩) ?_; simp only [Act.put, List.setIfInBounds_toArray, List.set_cons_zero, List.set_cons_succ]
                refine wpAny_take (i := 5) (oi := { dst := some 95, op := _, type := _, pos := _, after := _, guard := some (3, true) }) (v := .bool true) rfl (by kernel_rfl) (by kernel_rfl) (by kernel_rfl) (fun _ _ _ h => h) (Or.inl ⟨by rfl, by intro w; go_simp⟩) ?_; simp only [Act.put, List.setIfInBounds_toArray, List.set_cons_zero, List.set_cons_succ]
                refine wpAny_take (i := 6) (oi := { dst := some 96, op := _, type := _, pos := _, after := _, guard := none }) (v := .bool true) rfl (by kernel_rfl) (by kernel_rfl) (by kernel_rfl) (fun _ _ _ h => h) (Or.inl ⟨by rfl, by intro w; go_simp⟩) ?_; simp only [Act.put, List.setIfInBounds_toArray, List.set_cons_zero, List.set_cons_succ]
                refine wpAny_take (i := 7) (oi := { dst := some 97, op := _, type := _, pos := _, after := _, guard := none }) (v := .bool true) rfl (by kernel_rfl) (by kernel_rfl) (by kernel_rfl) (fun _ _ _ h => h) (Or.inl ⟨by rfl, by intro w; go_simp⟩) ?_; simp only [Act.put, List.setIfInBounds_toArray, List.set_cons_zero, List.set_cons_succ]
                refine wpAny_take (i := 8) (oi := { dst := some 98, op := _, type := _, pos := _, after := _, guard := some (7, true) }) (v := .pointer (some ⟨p1, 0, none⟩)) rfl (by kernel_rfl) (by kernel_rfl) (by kernel_rfl) (fun _ _ _ h => h) (Or.inl ⟨by rfl, by intro w; go_simp⟩) ?_; simp only [Act.put, List.setIfInBounds_toArray, List.set_cons_zero, List.set_cons_succ]
                refine wpAny_take (i := 9) (oi := { dst := some 99, op := _, type := _, pos := _, after := _, guard := some (7, true) }) (v := .pointer (some ⟨p8, 0, none⟩)) rfl (by kernel_rfl) (by kernel_rfl) (by kernel_rfl) (fun _ _ _ h => h) (Or.inl ⟨by rfl, by intro w; go_simp⟩) ?_; simp only [Act.put, List.setIfInBounds_toArray, List.set_cons_zero, List.set_cons_succ]
                refine wpAny_ready (rs := [10]) (by kernel_rfl) (by simp) ?_; refine (AllReady.cons rfl (fun K hK => ?_) AllReady.nil); go_simp
                go_wp2_with (go_at_call 19; refine (O12.out.same).mono ?_; rintro e w13 ⟨rfl, k13⟩; have O13 := Lib.hid (O12.out.keep k13); clear k13)
                try simp only [Act.put, List.setIfInBounds_toArray, List.set_cons_zero, List.set_cons_succ]
                refine wpAny_take (i := 11) (oi := { dst := some 101, op := _, type := _, pos := _, after := _, guard := none }) (v := .bool true) rfl (by kernel_rfl) (by kernel_rfl) (by kernel_rfl) (fun _ _ _ h => h) (Or.inl ⟨by rfl, by intro w; go_simp⟩) ?_; simp only [Act.put, List.setIfInBounds_toArray, List.set_cons_zero, List.set_cons_succ]
                refine wpAny_take (i := 12) (oi := { dst := some 102, op := _, type := _, pos := _, after := _, guard := none }) (v := .bool true) rfl (by kernel_rfl) (by kernel_rfl) (by kernel_rfl) (fun _ _ _ h => h) (Or.inl ⟨by rfl, by intro w; go_simp⟩) ?_; simp only [Act.put, List.setIfInBounds_toArray, List.set_cons_zero, List.set_cons_succ]
                refine wpAny_take (i := 13) (oi := { dst := some 103, op := _, type := _, pos := _, after := _, guard := some (12, true) }) (v := .pointer (some ⟨p8, 0, none⟩)) rfl (by kernel_rfl) (by kernel_rfl) (by kernel_rfl) (fun _ _ _ h => h) (Or.inl ⟨by rfl, by intro w; go_simp⟩) ?_; simp only [Act.put, List.setIfInBounds_toArray, List.set_cons_zero, List.set_cons_succ]
                refine wpAny_take (i := 14) (oi := { dst := some 104, op := _, type := _, pos := _, after := _, guard := some (12, true) }) (v := .pointer (some ⟨p1, 0, none⟩)) rfl (by kernel_rfl) (by kernel_rfl) (by kernel_rfl) (fun _ _ _ h => h) (Or.inl ⟨by rfl, by intro w; go_simp⟩) ?_; simp only [Act.put, List.setIfInBounds_toArray, List.set_cons_zero, List.set_cons_succ]
                refine wpAny_ready (rs := [15]) (by kernel_rfl) (by simp) ?_; refine (AllReady.cons rfl (fun K hK => ?_) AllReady.nil); go_simp
                go_wp2_with (go_at_call 19; refine (O13.out.same').mono ?_; rintro e w14 ⟨rfl, k14⟩; have O14 := Lib.hid (O13.out.keep k14); clear k14)
                try simp only [Act.put, List.setIfInBounds_toArray, List.set_cons_zero, List.set_cons_succ]
                refine wpAny_take (i := 16) (oi := { dst := some 106, op := _, type := _, pos := _, after := _, guard := none }) (v := .bool true) rfl (by kernel_rfl) (by kernel_rfl) (by kernel_rfl) (fun _ _ _ h => h) (Or.inl ⟨by rfl, by intro w; go_simp⟩) ?_; simp only [Act.put, List.setIfInBounds_toArray, List.set_cons_zero, List.set_cons_succ]
                refine wpAny_take (i := 17) (oi := { dst := some 107, op := _, type := _, pos := _, after := _, guard := none }) (v := .bool true) rfl (by kernel_rfl) (by kernel_rfl) (by kernel_rfl) (fun _ _ _ h => h) (Or.inl ⟨by rfl, by intro w; go_simp⟩) ?_; simp only [Act.put, List.setIfInBounds_toArray, List.set_cons_zero, List.set_cons_succ]
                refine wpAny_take (i := 18) (oi := { dst := some 108, op := _, type := _, pos := _, after := _, guard := some (17, true) }) (v := .bool false) rfl (by kernel_rfl) (by kernel_rfl) (by kernel_rfl) (fun _ _ _ h => h) (Or.inl ⟨by rfl, by intro w; go_simp⟩) ?_; simp only [Act.put, List.setIfInBounds_toArray, List.set_cons_zero, List.set_cons_succ]
                refine wpAny_take (i := 19) (oi := { dst := some 109, op := _, type := _, pos := _, after := _, guard := some (17, true) }) (v := .int .i64 (-1)) rfl (by kernel_rfl) (by kernel_rfl) (by kernel_rfl) (fun _ _ _ h => h) (Or.inl ⟨by rfl, by intro w; go_simp⟩) ?_; simp only [Act.put, List.setIfInBounds_toArray, List.set_cons_zero, List.set_cons_succ]
                refine wpAny_take (i := 20) (oi := { dst := some 110, op := _, type := _, pos := _, after := _, guard := some (17, true) }) (v := .bool false) rfl (by kernel_rfl) (by kernel_rfl) (by kernel_rfl) (fun _ _ _ h => h) (Or.inl ⟨by rfl, by intro w; go_simp⟩) ?_; simp only [Act.put, List.setIfInBounds_toArray, List.set_cons_zero, List.set_cons_succ]
                refine wpAny_take (i := 21) (oi := { dst := some 111, op := _, type := _, pos := _, after := _, guard := some (17, true) }) (v := .bool true) rfl (by kernel_rfl) (by kernel_rfl) (by kernel_rfl) (fun _ _ _ h => h) (Or.inl ⟨by rfl, by intro w; go_simp⟩) ?_; simp only [Act.put, List.setIfInBounds_toArray, List.set_cons_zero, List.set_cons_succ]
                refine wpAny_take (i := 22) (oi := { dst := some 112, op := _, type := _, pos := _, after := _, guard := none }) (v := .bool true) rfl (by kernel_rfl) (by kernel_rfl) (by kernel_rfl) (fun _ _ _ h => h) (Or.inl ⟨by rfl, by intro w; go_simp⟩) ?_; simp only [Act.put, List.setIfInBounds_toArray, List.set_cons_zero, List.set_cons_succ]
                refine wpAny_take (i := 23) (oi := { dst := some 113, op := _, type := _, pos := _, after := _, guard := none }) (v := .bool true) rfl (by kernel_rfl) (by kernel_rfl) (by kernel_rfl) (fun _ _ _ h => h) (Or.inl ⟨by rfl, by intro w; go_simp⟩) ?_; simp only [Act.put, List.setIfInBounds_toArray, List.set_cons_zero, List.set_cons_succ]
                refine wpAny_take (i := 24) (oi := { dst := some 114, op := _, type := _, pos := _, after := _, guard := some (23, true) }) (v := .bool false) rfl (by kernel_rfl) (by kernel_rfl) (by kernel_rfl) (fun _ _ _ h => h) (Or.inl ⟨by rfl, by intro w; go_simp⟩) ?_; simp only [Act.put, List.setIfInBounds_toArray, List.set_cons_zero, List.set_cons_succ]
                refine wpAny_take (i := 25) (oi := { dst := some 115, op := _, type := _, pos := _, after := _, guard := some (23, true) }) (v := .bool true) rfl (by kernel_rfl) (by kernel_rfl) (by kernel_rfl) (fun _ _ _ h => h) (Or.inl ⟨by rfl, by intro w; go_simp⟩) ?_; simp only [Act.put, List.setIfInBounds_toArray, List.set_cons_zero, List.set_cons_succ]
                refine wpAny_take (i := 26) (oi := { dst := some 116, op := _, type := _, pos := _, after := _, guard := some (23, true) }) (v := .bool true) rfl (by kernel_rfl) (by kernel_rfl) (by kernel_rfl) (fun _ _ _ h => h) (Or.inl ⟨by rfl, by intro w; go_simp⟩) ?_; simp only [Act.put, List.setIfInBounds_toArray, List.set_cons_zero, List.set_cons_succ]
                refine wpAny_take (i := 27) (oi := { dst := some 117, op := _, type := _, pos := _, after := _, guard := some (26, false) }) (v := undef) rfl (by kernel_rfl) (by kernel_rfl) (by kernel_rfl) (fun _ _ _ h => h) (Or.inr ⟨by rfl, rfl⟩) ?_; simp only [Act.put, List.setIfInBounds_toArray, List.set_cons_zero, List.set_cons_succ]
                refine wpAny_take (i := 28) (oi := { dst := some 118, op := _, type := _, pos := _, after := _, guard := some (26, false) }) (v := undef) rfl (by kernel_rfl) (by kernel_rfl) (by kernel_rfl) (fun _ _ _ h => h) (Or.inr ⟨by rfl, rfl⟩) ?_; simp only [Act.put, List.setIfInBounds_toArray, List.set_cons_zero, List.set_cons_succ]
                refine wpAny_take (i := 29) (oi := { dst := some 119, op := _, type := _, pos := _, after := _, guard := some (26, false) }) (v := undef) rfl (by kernel_rfl) (by kernel_rfl) (by kernel_rfl) (fun _ _ _ h => h) (Or.inr ⟨by rfl, rfl⟩) ?_; simp only [Act.put, List.setIfInBounds_toArray, List.set_cons_zero, List.set_cons_succ]
                refine wpAny_take (i := 30) (oi := { dst := some 120, op := _, type := _, pos := _, after := _, guard := some (26, false) }) (v := undef) rfl (by kernel_rfl) (by kernel_rfl) (by kernel_rfl) (fun _ _ _ h => h) (Or.inr ⟨by rfl, rfl⟩) ?_; simp only [Act.put, List.setIfInBounds_toArray, List.set_cons_zero, List.set_cons_succ]
                refine wpAny_take (i := 31) (oi := { dst := some 121, op := _, type := _, pos := _, after := _, guard := some (26, false) }) (v := undef) rfl (by kernel_rfl) (by kernel_rfl) (by kernel_rfl) (fun _ _ _ h => h) (Or.inr ⟨by rfl, rfl⟩) ?_; simp only [Act.put, List.setIfInBounds_toArray, List.set_cons_zero, List.set_cons_succ]
                refine wpAny_take (i := 32) (oi := { dst := some 122, op := _, type := _, pos := _, after := _, guard := some (26, false) }) (v := undef) rfl (by kernel_rfl) (by kernel_rfl) (by kernel_rfl) (fun _ _ _ h => h) (Or.inr ⟨by rfl, rfl⟩) ?_; simp only [Act.put, List.setIfInBounds_toArray, List.set_cons_zero, List.set_cons_succ]
                refine wpAny_take (i := 33) (oi := { dst := some 123, op := _, type := _, pos := _, after := _, guard := some (23, true) }) (v := .bool true) rfl (by kernel_rfl) (by kernel_rfl) (by kernel_rfl) (fun _ _ _ h => h) (Or.inl ⟨by rfl, by intro w; go_simp⟩) ?_; simp only [Act.put, List.setIfInBounds_toArray, List.set_cons_zero, List.set_cons_succ]
                refine wpAny_take (i := 34) (oi := { dst := some 124, op := _, type := _, pos := _, after := _, guard := none }) (v := .bool true) rfl (by kernel_rfl) (by kernel_rfl) (by kernel_rfl) (fun _ _ _ h => h) (Or.inl ⟨by rfl, by intro w; go_simp⟩) ?_; simp only [Act.put, List.setIfInBounds_toArray, List.set_cons_zero, List.set_cons_succ]
                refine wpAny_take (i := 35) (oi := { dst := some 125, op := _, type := _, pos := _, after := _, guard := none }) (v := .bool true) rfl (by kernel_rfl) (by kernel_rfl) (by kernel_rfl) (fun _ _ _ h => h) (Or.inl ⟨by rfl, by intro w; go_simp⟩) ?_; simp only [Act.put, List.setIfInBounds_toArray, List.set_cons_zero, List.set_cons_succ]
                refine wpAny_take (i := 36) (oi := { dst := some 126, op := _, type := _, pos := _, after := _, guard := some (35, true) }) (v := .pointer (some ⟨p1, 0, none⟩)) rfl (by kernel_rfl) (by kernel_rfl) (by kernel_rfl) (fun _ _ _ h => h) (Or.inl ⟨by rfl, by intro w; go_simp⟩) ?_; simp only [Act.put, List.setIfInBounds_toArray, List.set_cons_zero, List.set_cons_succ]
                refine wpAny_take (i := 39) (oi := { dst := some 129, op := _, type := _, pos := _, after := _, guard := some (35, true) }) (v := .slice oa fs.length oc) rfl (by kernel_rfl) (by kernel_rfl) (by kernel_rfl) (fun _ _ _ h => h) (Or.inl ⟨by rfl, by intro w; go_simp⟩) ?_; simp only [Act.put, List.setIfInBounds_toArray, List.set_cons_zero, List.set_cons_succ]
                refine wpAny_ready (rs := [37]) (by kernel_rfl) (by simp) ?_; refine (AllReady.cons rfl (fun K hK => ?_) AllReady.nil); go_simp
                go_wp2_with (go_at_call 30; refine (HWR.out _ O14.out.a.sn).mono ?_; rintro e w15 ⟨ao15, cap15, rfl, ho15, k15⟩; have O15 := Lib.hid (O14.out.keep k15); have hca15 := HCO.out _ _ _ _ ho15; have HO15 := Lib.hid ho15; clear ho15 k15)
                try simp only [Act.put, List.setIfInBounds_toArray, List.set_cons_zero, List.set_cons_succ]
                refine wpAny_ready (rs := [38, 40]) (by kernel_rfl) (by simp) ?_; refine (AllReady.cons rfl (fun K hK => ?_) (AllReady.cons rfl (fun K hK => ?_) AllReady.nil))
                · go_simp; refine hK _ _ ?_; clear hK K; try simp only [Act.put, List.setIfInBounds_toArray, List.set_cons_zero, List.set_cons_succ]
                  refine wpAny_ready (rs := [40]) (by kernel_rfl) (by simp) ?_; refine (AllReady.cons rfl (fun K hK => ?_) AllReady.nil); go_simp
                  go_wp2_with (go_at_call 31; refine (HRW.out _ O15.out.a.rl).mono ?_; rintro e w16 ⟨rfl, k16⟩; have O16 := Lib.hid (O15.out.keep k16); have hca16 := HCO.out _ _ _ _ (owns_kept HO15.out k16 (fun _ _ h => h)); clear k16)
                  try simp only [Act.put, List.setIfInBounds_toArray, List.set_cons_zero, List.set_cons_succ]
                  refine wpAny_take (i := 41) (oi := { dst := some 131, op := _, type := _, pos := _, after := _, guard := some (35, true) }) (v := .bool true) rfl (by kernel_rfl) (by kernel_rfl) (by kernel_rfl) (fun _ _ _ h => h) (Or.inl ⟨by rfl, by intro w; go_simp⟩) ?_; simp only [Act.put, List.setIfInBounds_toArray, List.set_cons_zero, List.set_cons_succ]
                  refine wpAny_take (i := 42) (oi := { dst := some 132, op := _, type := _, pos := _, after := _, guard := none }) (v := .bool true) rfl (by kernel_rfl) (by kernel_rfl) (by kernel_rfl) (fun _ _ _ h => h) (Or.inl ⟨by rfl, by intro w; go_simp⟩) ?_; simp only [Act.put, List.setIfInBounds_toArray, List.set_cons_zero, List.set_cons_succ]
                  refine wpAny_take (i := 43) (oi := { dst := some 6, op := _, type := _, pos := _, after := _, guard := none }) (v := .bool true) rfl (by kernel_rfl) (by kernel_rfl) (by kernel_rfl) (fun _ _ _ h => h) (Or.inl ⟨by rfl, by intro w; go_simp⟩) ?_; simp only [Act.put, List.setIfInBounds_toArray, List.set_cons_zero, List.set_cons_succ]
                  refine wpAny_done (by kernel_rfl) ?_ _
                  go_wp2
                  go_ret
                  exact ⟨rfl, keeps_below7 O16.out.a.k⟩
                · go_simp
                  go_wp2_with (go_at_call 31; refine (HRW.out _ O15.out.a.rl).mono ?_; rintro e w16 ⟨rfl, k16⟩; have O16 := Lib.hid (O15.out.keep k16); have hca16 := HCO.out _ _ _ _ (owns_kept HO15.out k16 (fun _ _ h => h)); clear k16)
                  try simp only [Act.put, List.setIfInBounds_toArray, List.set_cons_zero, List.set_cons_succ]
                  refine wpAny_ready (rs := [38]) (by kernel_rfl) (by simp) ?_; refine (AllReady.cons rfl (fun K hK => ?_) AllReady.nil)
                  go_simp; refine hK _ _ ?_; clear hK K; try simp only [Act.put, List.setIfInBounds_toArray, List.set_cons_zero, List.set_cons_succ]
                  refine wpAny_take (i := 41) (oi := { dst := some 131, op := _, type := _, pos := _, after := _, guard := some (35, true) }) (v := .bool true) rfl (by kernel_rfl) (by kernel_rfl) (by kernel_rfl) (fun _ _ _ h => h) (Or.inl ⟨by rfl, by intro w; go_simp⟩) ?_; simp only [Act.put, List.setIfInBounds_toArray, List.set_cons_zero, List.set_cons_succ]
                  refine wpAny_take (i := 42) (oi := { dst := some 132, op := _, type := _, pos := _, after := _, guard := none }) (v := .bool true) rfl (by kernel_rfl) (by kernel_rfl) (by kernel_rfl) (fun _ _ _ h => h) (Or.inl ⟨by rfl, by intro w; go_simp⟩) ?_; simp only [Act.put, List.setIfInBounds_toArray, List.set_cons_zero, List.set_cons_succ]
                  refine wpAny_take (i := 43) (oi := { dst := some 6, op := _, type := _, pos := _, after := _, guard := none }) (v := .bool true) rfl (by kernel_rfl) (by kernel_rfl) (by kernel_rfl) (fun _ _ _ h => h) (Or.inl ⟨by rfl, by intro w; go_simp⟩) ?_; simp only [Act.put, List.setIfInBounds_toArray, List.set_cons_zero, List.set_cons_succ]
                  refine wpAny_done (by kernel_rfl) ?_ _
                  go_wp2
                  go_ret
                  exact ⟨rfl, keeps_below7 O16.out.a.k⟩
      · obtain rfl := HN5.out he
        have he1 : (er != 0) = true := by simp [he]
        have he2 : (er == 0) = false := by simp [he]
        clear he
        go_wp2
        go_ret
        exact ⟨rfl, keeps_below7 O6.out.k⟩

end Go.Proofs.YtecjecdgjmipcaaGreat
