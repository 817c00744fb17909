/-
  CONTRACTS of package diff: Of, Apply (Right: Or; Fits: Oa; Turn, Keys: Ot).
-/
import Derived.Test.YtecjecdgjmipcaaGreatOa
import Derived.Test.YtecjecdgjmipcaaGreatGOc
import Derived.Test.YtecjecdgjmipcaaGreatGPn
import Derived.Test.YtecjecdgjmipcaaGreatGSr
import Derived.Test.YtecjecdgjmipcaaGreatGSv
namespace Go.Proofs.YtecjecdgjmipcaaGreat
open Go.RowKit Go.Mk Go.Maps Go.Shelf

theorem of_take {l m : List DD} {ks : List (List UInt8)} {j : Nat} (h : j < ks.length) :
    (ks.take (j + 1)).filterMap (edK l m) = (ks.take j).filterMap (edK l m) ++ (if getK keyD ks[j] l = getK keyD ks[j] m then [] else [⟨ks[j], getK keyD ks[j] l, getK keyD ks[j] m⟩]) := by
  rw [List.take_add_one, List.getElem?_eq_getElem h, Option.toList_some, List.filterMap_append]
  congr 1
  rw [List.filterMap_cons, List.filterMap_nil]
  unfold edK
  split <;> simp_all

theorem keys_le (l : List DD) : (keysL l).length ≤ l.length := by
  have h2 : ∀ (l : List DD) (s : List (List UInt8)), Rise id s → (l.foldl (fun s d => putK id (keyD d) s) s).length ≤ s.length + l.length := by
    intro l
    induction l with
    | nil => intro s _; simp
    | cons d r ih =>
      intro s hs
      rw [List.foldl_cons]
      have h3 := ih _ (rise_putK (a := keyD d) hs)
      have h4 := putK_le (a := keyD d) hs
      simp only [List.length_cons]
      omega
  have h3 := h2 l [] List.Pairwise.nil
  unfold keysL
  simpa using h3

set_option maxHeartbeats 2000000 in
set_option maxRecDepth 100000 in
theorem dof_any (v u : Value) (l m : List DD) (w : World) (h1 : Sn w v l) (h2 : Sn w u m) (hl : l.length ≤ 1000) (hm : m.length ≤ 1000) :
    Calls Tryz.prog 11 #[v, u] w (EsQ w (ofL l m)) := by
  obtain ⟨i0, hi, hz0, hz1, hz2⟩ := info_parts Tryz.infoEdit
  obtain ⟨q1, rfl⟩ := h1.pointer
  obtain ⟨q2, rfl⟩ := h2.pointer
  have KA := Lib.hid ((Kept.refl (fun _ => False) w).alloc (.cells #[.pointer q1, .pointer q2] 25))
  have HK := Lib.hid (dkeysof_any (.pointer q1) (.pointer q2) l m w.heap.size 2 (w.alloc (.cells #[.pointer q1, .pointer q2] 25)) (h1.keep KA.out) (h2.keep KA.out) (World.cell?_alloc_new w #[.pointer q1, .pointer q2] _ 0) (World.cell?_alloc_new w #[.pointer q1, .pointer q2] _ 1) hl hm)
  have HU1 := Lib.hid (fun (key : List UInt8) (hk : key.length ≤ maxLen) (wx : World) (h : Kept (fun _ => False) w wx) => dunder_any (h1.keep h) key hk)
  have HU2 := Lib.hid (fun (key : List UInt8) (hk : key.length ≤ maxLen) (wx : World) (h : Kept (fun _ => False) w wx) => dunder_any (h2.keep h) key hk)
  have HR1 := Lib.hid (fun (key : List UInt8) (t : SD) (he : dds t.es = getK keyD key l) => show t.es.length ≤ 1 ∧ ∀ e ∈ t.es, e.1.vs.length ≤ 1000000 from
    ⟨by have h := getK_len h1.rise key; rw [← he, dds_len] at h; exact h, fun e hm => by
      have hd : e.1 ∈ getK keyD key l := by rw [← he]; exact List.mem_map_of_mem hm
      exact Nat.le_trans (right_small (h1.right _ (mem_getK.1 hd).1)).n (by omega)⟩)
  have HR2 := Lib.hid (fun (key : List UInt8) (t : SD) (he : dds t.es = getK keyD key m) => show t.es.length ≤ 1 ∧ ∀ e ∈ t.es, e.1.vs.length ≤ 1000000 from
    ⟨by have h := getK_len h2.rise key; rw [← he, dds_len] at h; exact h, fun e hm => by
      have hd : e.1 ∈ getK keyD key m := by rw [← he]; exact List.mem_map_of_mem hm
      exact Nat.le_trans (right_small (h2.right _ (mem_getK.1 hd).1)).n (by omega)⟩)
  have HKN := Lib.hid (show (keysL (l ++ m)).length ≤ 2000 by have := keys_le (l ++ m); rw [List.length_append] at this; omega)
  have HKL := Lib.hid (show ∀ k ∈ keysL (l ++ m), k.length ≤ maxLen from fun k hk => by
    obtain ⟨d, hd, rfl⟩ := mem_keys.1 hk
    have hr : rightD d = true := by rcases List.mem_append.1 hd with h | h; exact h1.right d h; exact h2.right d h
    have := key_len8 hr
    unfold maxLen; omega)
  unfold ofL
  clear h1 h2 hl hm
  generalize keysL (l ++ m) = ks at *
  go_enter Tryz.func11, Tryz.ntmps11
  go_wp2_with fail
  refine HK.out.mono ?_
  rintro e w1 ⟨ka, kc, rfl, ho, k1⟩
  have K1 := Lib.hid (KA.out.trans k1 (fun _ _ h => h))
  have LK := Lib.hid (owns_lies ho)
  clear ho k1
  go_wp2
  go_loopg [5, 14] ks.length (fun k v c wr => ∃ j q, k = ks.length - j ∧ j ≤ ks.length ∧ c = .int .i64 (j : Int) ∧ eds q = (ks.take j).filterMap (edK l m) ∧ q.length ≤ j ∧ Pa9 w1 v q wr)
  case atStart => exact ⟨0, [], rfl, Nat.zero_le _, rfl, rfl, Nat.le_refl _, Pa9.nil _ _ (Kept.refl _ _)⟩
  case round =>
    obtain ⟨j, q, hk, hj, rfl, hq, hql, hpa⟩ := hrel
    have HKJ := Lib.hid hk; have HQ := Lib.hid hq; have HQL := Lib.hid hql; have HP := Lib.hid hpa; have HKW := Lib.hid (K1.out.trans hpa.k (fun _ _ h => h))
    clear hk hq hql hpa
    by_cases hlt : j < ks.length
    · obtain ⟨xb, xo, rfl, hxb, hc⟩ := LK.out (by intro h; simp [strs] at h; rw [h] at hlt; simp at hlt)
      have hx : wr.cell? ⟨xb, xo + j, none⟩ = some (.string (bs ks[j])) := by
        have h1 := hc j (.string (bs ks[j])) (by simp [strs, hlt])
        exact (HP.out.k.cell (p := ⟨xb, xo + j, none⟩) (World.block_lt_of_cell? _ _ h1) (fun h => h)).trans h1
      have HTK := Lib.hid (of_take (l := l) (m := m) hlt)
      have HKJL := Lib.hid (HKL.out ks[j] (List.getElem_mem hlt))
      have i1 : (j : Int) < (ks.length : Int) := by omega
      clear hc
      generalize ks[j] = key at *
      have HA1 := Lib.hid (HU1.out key HKJL.out)
      have HA2 := Lib.hid (HU2.out key HKJL.out)
      have HB1 := Lib.hid (HR1.out key)
      have HB2 := Lib.hid (HR2.out key)
      generalize getK keyD key l = gl at *
      generalize getK keyD key m = gm at *
      have HLT := Lib.hid (owns_lt HP.out.own)
      have hkn := HKN.out
      go_wp2_with fail
      refine (HA1.out _ HKW.out).mono ?_
      rintro e w2 ⟨t1, rfl, et1, ft1, k2⟩
      have P2 := Lib.hid (HP.out.keep k2); have E1 := Lib.hid et1; have F1 := Lib.hid ft1
      have S2 := Lib.hid k2
      clear et1 ft1 k2 hx
      go_wp2_with fail
      refine (HA2.out _ (HKW.out.trans S2.out (fun _ _ h => h))).mono ?_
      rintro e w3 ⟨t2, rfl, et2, ft2, k3⟩
      have P3 := Lib.hid (P2.out.keep k3); have E2 := Lib.hid et2; have F2 := Lib.hid (ft2.down S2.out.size); have F13 := Lib.hid (F1.out.keep k3)
      have S3 := Lib.hid (S2.out.trans k3 (fun _ _ h => h))
      clear et2 ft2 k3
      have KB := Lib.hid ((Kept.refl (fun _ => False) w3).alloc (.cells #[.string (bs key), .slice t1.ao t1.es.length t1.cap, .slice t2.ao t2.es.length t2.cap] 42))
      have HCB := Lib.hid (ceB_new w3 key (.slice t1.ao t1.es.length t1.cap) (.slice t2.ao t2.es.length t2.cap) 42)
      have HSA := Lib.hid (dsame9_any t1.ao t1.cap t1.es t2.ao t2.cap t2.es _ _ (F13.out.keep KB.out).sd.ds (F2.out.keep KB.out).sd.ds (HB1.out t1 E1.out).2 (HB2.out t2 E2.out).2 (by have := (HB1.out t1 E1.out).1; omega))
      have HSE := Lib.hid (show sameA t1.es t2.es = decide (gl = gm) by unfold sameA; rw [E1.out, E2.out])
      obtain ⟨c0, c1, c2⟩ := HCB.out
      go_wp2_with fail
      refine HSA.out.mono ?_
      rintro e w4 ⟨rfl, k4⟩
      rw [HSE.out]
      have KC := Lib.hid (KB.out.trans k4 (fun _ _ h => h))
      have P4 := Lib.hid (P3.out.keep KC.out)
      have F24 := Lib.hid (F2.out.keep KC.out); have F14 := Lib.hid (F13.out.keep KC.out)
      have S4 := Lib.hid (S3.out.trans KC.out (fun _ _ h => h))
      have HC4 := Lib.hid (ceB_kept HCB.out k4 (fun h => h))
      clear k4 c0 c1 c2
      by_cases hs : gl = gm
      · rw [decide_eq_true hs]
        have HE := Lib.hid (show eds q = (ks.take (j + 1)).filterMap (edK l m) by rw [HTK.out, if_pos hs, List.append_nil]; exact HQ.out)
        clear hs
        go_wp2
        go_roundg (ks.length - (j + 1))
        case measure => have := HKJ.out; omega
        case rel => exact ⟨j + 1, q, rfl, by omega, by go_num, HE.out, by have := HQL.out; omega, P4.out⟩
      · rw [decide_eq_false hs]
        have HE := Lib.hid (show eds (q ++ [⟨key, t1, t2⟩]) = (ks.take (j + 1)).filterMap (edK l m) by rw [HTK.out, if_neg hs, ← HQ.out]; simp [eds, edE, E1.out, E2.out])
        have hql := HQL.out
        clear hs
        obtain ⟨c0, c1, c2⟩ := HC4.out
        go_wp2_with (at_builtin; refine wpList_app _ rfl (.tmp 32) (.tmp 34) 31 31 rfl 42 i0 (.agg #[.string ⟨#[]⟩, .slice none 0 0, .slice none 0 0]) 3 64 Tryz.underlying31 hi hz0 hz1 hz2 rfl _ _ _ rfl ((owns_base (base' := 0) P4.out.own (fun _ _ => Nat.zero_le _)).alloc _) (.slice (some ⟨w4.heap.size, 0, none⟩) 1 1) 1 (cellsP1 ⟨key, t1, t2⟩) rfl (src_ed w4 ⟨key, t1, t2⟩ _) ?b1 ?b2 ?next)
        case b1 => unfold maxLen; omega
        case b2 => have := HKN.out; omega
        case next =>
          intro v' w5 ho5 hg5 hb5 _
          have P5 := Lib.hid (P4.out.app ⟨key, t1, t2⟩ ⟨F14.out.apart (fun k hk => (HLT.out k hk).2), F24.out.apart (fun k hk => (HLT.out k hk).2)⟩ ((Kept.refl (fun _ => False) w4).alloc _) ho5 hg5 (by rw [World.size_alloc]; exact hb5))
          clear ho5 hg5 hb5 c0 c1 c2
          go_wp2
          go_roundg (ks.length - (j + 1))
          case measure => have := HKJ.out; omega
          case rel => exact ⟨j + 1, _, rfl, by omega, by go_num, HE.out, by have := HQL.out; simp; omega, P5.out⟩
    · obtain rfl : j = ks.length := by omega
      have hs := HQ.out
      rw [List.take_length] at hs
      have HX := Lib.hid hs
      obtain ⟨pa, pc, rfl⟩ := owns_slice HP.out.own
      clear hs hlt
      go_wp2
      go_ret
      exact ⟨pa, pc, q, rfl, HX.out, owns_es HP.out.own (fun e he => ⟨(HP.out.sd e he).1.sd, (HP.out.sd e he).2.sd⟩), HKW.out⟩

theorem news_take {p : List EE} {j : Nat} (h : j < p.length) : ((eds p).take (j + 1)).flatMap ED.new = ((eds p).take j).flatMap ED.new ++ dds p[j].new.es := by
  rw [eds_take p j h, List.flatMap_append]
  simp [edE]

theorem NwPost.down {w w0 : World} {r : Int × List DD} {e : Ending} {w' : World} (h : NwPost w r e w') (hk : Kept (fun _ => False) w0 w) : NwPost w0 r e w' := by
  obtain ⟨v, h1, h2, h3, h4, h5⟩ := h
  exact ⟨v, h1, h2, h3, h4, hk.trans h5 (fun _ _ h => h)⟩

set_option maxHeartbeats 4000000 in
set_option maxRecDepth 100000 in
theorem dapply9_any (v : Value) (l : List DD) (pa : Option Addr) (pc : Nat) (p : List EE) (B : Nat) (w : World) (hm : MaxAt w) (hs : Sn w v l) (hl : l.length ≤ 1000) (hE : Es w B pa p) (hL : ∀ e ∈ p, Len9 e) (hn : p.length ≤ 10000) :
    Calls Tryz.prog 16 #[v, .slice pa p.length pc] w (NwPost w (applyP l (eds p))) := by
  obtain ⟨i0, hi, hz0, hz1, hz2⟩ := info_parts Tryz.infoDef
  obtain ⟨qv, rfl⟩ := hs.pointer
  have HR := Lib.hid (dright9_any pa pc p B w hm hE hL hn)
  have HA := Lib.hid (fun (wx : World) (h : Kept (fun _ => False) w wx) => dapplies_any (.pointer qv) l pa pc p B wx (hs.keep h) (hE.keep h) hL hn)
  have HKY := Lib.hid (fun (wx : World) (h : Kept (fun _ => False) w wx) => dkeys9_any pa pc p B wx (hE.keep h) hL hn)
  have HE := Lib.hid hE; have HL := Lib.hid hL; have HS := Lib.hid hs
  have HAP := Lib.hid (show applyP l (eds p) = if rightP (eds p) = false then (32, []) else if (p.all (fitD l) && rightP (eds p)) = false then (75, []) else if 500 < (appP l (eds p)).length then (21, []) else (0, appP l (eds p)) by rw [← fits_all]; rfl)
  have HNW := Lib.hid (show rightP (eds p) = true → ∀ e ∈ p, e.new.es.length ≤ 1 from fun h e he => by
    have h1 := (rightE_iff.1 ((rightP_iff.1 h).1 (edE e) (List.mem_map_of_mem he))).2.2.1
    have h2 := (sideB_iff.1 h1).1
    unfold edE at h2
    rwa [dds_len] at h2)
  have HNA := Lib.hid (show rightP (eds p) = true → p.all (fitD l) = true → newL (dropsD (p.map EE.key) l ++ (eds p).flatMap ED.new) = if 500 < (appP l (eds p)).length then (21, []) else (0, appP l (eds p)) from fun h1 h2 => by
    have h := new_apply (l := l) (p := eds p) ⟨hs.rise, hs.right⟩ (by rw [fits_all, h1, h2]; rfl)
    have e : (eds p).map ED.key = p.map EE.key := by simp [eds, edE]
    rw [e] at h
    exact h)
  clear hm hs hE hL
  generalize applyP l (eds p) = R at *
  generalize rightP (eds p) = rp at *
  generalize p.all (fitD l) = fa at *
  go_enter Tryz.func16, Tryz.ntmps16
  go_wp2_with fail
  refine HR.out.mono ?_
  rintro e w1 ⟨rfl, k1⟩
  have K1 := Lib.hid k1; clear k1
  cases rp with
  | false =>
    obtain rfl : R = (32, []) := by rw [HAP.out, if_pos rfl]
    clear HAP
    go_wp2
    go_ret2
    exact nw_err (by decide) K1.out
  | true =>
    go_wp2_with fail
    refine (HA.out _ K1.out).mono ?_
    rintro e w2 ⟨rfl, k2⟩
    have K2 := Lib.hid (K1.out.trans k2 (fun _ _ h => h)); clear k2
    cases fa with
    | false =>
      obtain rfl : R = (75, []) := by rw [HAP.out, if_neg (by simp)]; simp
      clear HAP
      go_wp2
      go_ret2
      exact nw_err (by decide) K2.out
    | true =>
      have HRR := Lib.hid (show newL (dropsD (p.map EE.key) l ++ (eds p).flatMap ED.new) = R by rw [HNA.out (by trivial) (by trivial), HAP.out]; rfl)
      have HN1 := Lib.hid (HNW.out (by trivial))
      clear HAP HNA HNW
      go_wp2_with fail
      refine (HKY.out _ K2.out).mono ?_
      rintro e w3 ⟨ka, kc, rfl, hlk, k3⟩
      have K3 := Lib.hid (K2.out.trans k3 (fun _ _ h => h))
      have LK := Lib.hid hlk
      clear hlk k3
      have HDR := Lib.hid (sdrop_any (.pointer qv) l ka kc (p.map EE.key) p.length (by simp) _ w3 (HS.out.keep K3.out) LK.out (by omega) (by simp; omega) (fun k hk => by
        obtain ⟨e, he, rfl⟩ := List.mem_map.1 hk
        have := (HL.out e he).key
        omega))
      have HDL := Lib.hid (show (dropsD (p.map EE.key) l).length ≤ 1000 by
        have h := drops_spec (p.map EE.key) l HS.out.rise
        exact Nat.le_trans (rise_sub_le h.1 HS.out.rise (fun x hx => ((h.2 x).1 hx).1)) hl)
      generalize dropsD (p.map EE.key) l = L0 at *
      go_wp2_with fail
      refine HDR.out.mono ?_
      rintro e w4 ⟨s4, rfl, hsn, k4⟩
      have K4 := Lib.hid (K3.out.trans k4 (fun _ _ h => h))
      obtain ⟨p4, m4, hp4, ht4, hL0⟩ := hsn
      have HL0 := Lib.hid (show dds m4 = L0 from hL0.symm)
      have HML := Lib.hid (show m4.length ≤ 1000 by have := HDL.out; rw [hL0, List.length_map] at this; exact this)
      have HP4 := Lib.hid hp4; have HT4 := Lib.hid ht4
      clear hL0 hp4 ht4 k4 HDR
      go_wp2_with fail
      refine (all_any (.pointer (some ⟨s4, 0, none⟩)) p4 m4 w4 HP4.out HT4.out (by have := HML.out; omega)).mono ?_
      rintro e w5 ⟨Bk, Bm, rfl, hal⟩
      have K5 := Lib.hid (K4.out.trans hal.k (fun _ _ h => h))
      obtain ⟨ko, kk, hap, _⟩ := hal.ap
      have HL8 := Lib.hid (len8_ent HT4.out)
      have HCO := Lib.hid (dcollect_any p4 m4 Bk Bm ko kk w5 hap HL8.out (by have := HML.out; omega))
      clear hal hap
      go_wp2_with fail
      refine HCO.out.mono ?_
      rintro e w6 ⟨qa, qc, q0, rfl, hq0, hd0⟩
      have D0 := Lib.hid hd0; have HQ0 := Lib.hid (hq0.trans HL0.out)
      have HQL := Lib.hid (show q0.length ≤ 1000 by have := congrArg List.length hq0; rw [dds_len, dds_len] at this; rw [this]; exact HML.out)
      have HQ8 := Lib.hid (show ∀ e ∈ q0, Len8 e.1 from fun e he => by
        have : e.1 ∈ dds m4 := by rw [← hq0]; exact List.mem_map_of_mem he
        obtain ⟨e', he', e1⟩ := List.mem_map.1 this
        rw [← e1]
        exact HL8.out e' he')
      clear hd0 hq0 HCO
      go_wp2
      go_loopg [6, 24] p.length (fun k v c wr => ∃ j q, k = p.length - j ∧ j ≤ p.length ∧ c = .int .i64 (j : Int) ∧ dds q = L0 ++ ((eds p).take j).flatMap ED.new ∧ q.length ≤ 1000 + j ∧ (∀ e ∈ q, Len8 e.1) ∧ Dq w5 v q wr)
      case atStart => exact ⟨0, q0, rfl, Nat.zero_le _, rfl, by rw [HQ0.out]; simp, by have := HQL.out; omega, HQ8.out, D0.out⟩
      case round =>
        obtain ⟨j, q, hk, hj, rfl, hq, hql, hq8, hdq⟩ := hrel
        have HK := Lib.hid hk; have HQ := Lib.hid hq; have HQN := Lib.hid hql; have HQ9 := Lib.hid hq8; have HD := Lib.hid hdq
        have KW := Lib.hid (K5.out.trans hdq.k (fun _ _ h => h))
        clear hk hq hql hq8 hdq
        by_cases hlt : j < p.length
        · obtain ⟨b, off, rfl, hb, hc⟩ := HE.out.row (by intro h; rw [h] at hlt; simp at hlt)
          obtain ⟨c0, c1, c2⟩ := (hc j hlt).kept KW.out (fun h => h)
          have HLI := Lib.hid (HE.out.lies p[j] (List.getElem_mem hlt)).2
          have HLN := Lib.hid (HL.out p[j] (List.getElem_mem hlt)).new
          have HNN := Lib.hid (HN1.out p[j] (List.getElem_mem hlt))
          have HTK := Lib.hid (news_take hlt)
          have i1 : (j : Int) < (p.length : Int) := by omega
          clear hc
          generalize p[j] = x at *
          obtain ⟨key, ⟨oao, ocap, oes⟩, ⟨nao, ncap, nes⟩⟩ := x
          dsimp only at c0 c1 c2 HLN HNN HTK
          have KB := Lib.hid ((Kept.refl (fun _ => False) wr).alloc (.cells #[.string (bs key), .slice oao oes.length ocap, .slice nao nes.length ncap] 42))
          have HSR := Lib.hid (src_ds ((HLI.out.keep KW.out).keep KB.out))
          obtain ⟨va, vc, rfl⟩ := owns_slice HD.out.own
          have HRO := Lib.hid (show ∀ e ∈ nes, (Lies wr wr.heap.size e.2.1 (strs e.1.vs) ∧ e.1.vs.length ≤ e.2.2) ∧ (strs e.1.vs ≠ [] → ∀ a, e.2.1 = some a → (Value.slice va q.length vc).ownBlock ≠ some a.block) from fun e he => by
            have h1 := HLI.out.ds.lies e he
            have hb : strs e.1.vs ≠ [] → ∀ a, e.2.1 = some a → a.block < w.heap.size := fun hne a ha => by
              obtain ⟨g, o, e1, _, hcc⟩ := h1.1 hne
              rw [e1] at ha
              cases ha
              cases hvs : strs e.1.vs with
              | nil => exact (hne hvs).elim
              | cons t ts => exact World.block_lt_of_cell? _ _ (hcc 0 t (by rw [hvs]; rfl))
            refine ⟨⟨fun hne => ?_, h1.2⟩, fun hne a ha e1 => ?_⟩
            · obtain ⟨g, o, e1, _, hcc⟩ := h1.1.kept KW.out (fun _ _ _ h => h) hne
              refine ⟨g, o, e1, ?_, hcc⟩
              have := hb hne _ e1
              exact Nat.lt_of_lt_of_le this KW.out.size
            · have h2 := hb hne a ha
              have h3 := (owns_lt HD.out.own _ e1).1
              have h4 := K5.out.size
              omega)
          have hqn := HQN.out; have hnn := HNN.out
          go_wp2_with (at_builtin; refine wpList_app _ rfl (.tmp 28) (.tmp 30) 22 22 rfl 49 i0 (.agg #[.int .i64 0, .string ⟨#[]⟩, .string ⟨#[]⟩, .slice none 0 0, .string ⟨#[]⟩, .string ⟨#[]⟩]) 6 96 Tryz.underlying22 hi hz0 hz1 hz2 rfl _ _ _ rfl ((owns_base (base' := 0) HD.out.own (fun _ _ => Nat.zero_le _)).alloc _) (.slice nao nes.length ncap) nes.length (cellsE nes) rfl HSR.out ?b1 ?b2 ?next)
          case b1 => unfold maxLen; omega
          case b2 => omega
          case next =>
            intro v' w7 ho7 hg7 hb7 _
            have D7 := Lib.hid (HD.out.apps nes HRO.out KB.out ho7 hg7 (by rw [World.size_alloc]; exact hb7))
            clear ho7 hg7 hb7 c0 c1 c2
            go_wp2
            go_roundg (p.length - (j + 1))
            case measure => have := HK.out; omega
            case rel => exact ⟨j + 1, _, rfl, by omega, by go_num, by rw [HTK.out, ← List.append_assoc, ← HQ.out]; simp [dds], by have := HQN.out; have := HNN.out; rw [List.length_append]; omega, fun e he => by
              rcases List.mem_append.1 he with he | he
              · exact HQ9.out e he
              · exact HLN.out e he, D7.out⟩
        · obtain rfl : j = p.length := by omega
          have hq := HQ.out
          rw [← eds_len p, List.take_length] at hq
          have HX := Lib.hid (show newL (dds q) = R by rw [hq]; exact HRR.out)
          obtain ⟨va, vc, rfl⟩ := owns_slice HD.out.own
          have HNE := Lib.hid (snew_any va vc q wr.heap.size wr (Nat.le_refl _) HD.out.sds.ds HQ9.out (by have := HQN.out; omega))
          rw [HX.out] at HNE
          clear hq hlt
          go_wp2_with fail
          refine HNE.out.mono ?_
          rintro e w8 ⟨vv, rfl, n1, n2, n3, n4⟩
          have N8 := Lib.hid (show NwPost w R (.returned (.tuple #[vv, .int .i64 R.1])) w8 from ⟨vv, rfl, n1, n2, n3, KW.out.trans n4 (fun _ _ h => h)⟩)
          clear n1 n2 n3 n4
          go_wp2
          go_ret2
          exact N8.out

end Go.Proofs.YtecjecdgjmipcaaGreat
