/-
  CONTRACTS of package merge: merged, the walk.
-/
import Derived.Test.YtlnincdmdegaoaaGreatDyb
namespace Go.Proofs.YtlnincdmdegaoaaGreat
open Go.RowKit Go.Mk Go.Maps Go.Shelf

set_option maxRecDepth 100000 in
set_option maxHeartbeats 4000000 in
theorem merged_any (v u t : Value) (A B C : List DD) (ca : Option Addr) (cc : Nat) (ks : List (List UInt8)) (N : Nat) (w : World) (h1 : Sn w v A) (h2 : Sn w u B) (h3 : Sn w t C) (hK : Lies w N ca (strs ks)) (ha : A.length ≤ 1000) (hb : B.length ≤ 1000) (hc : C.length ≤ 1000) (hkn : ks.length ≤ 1000000) (hkl : ∀ k ∈ ks, k.length ≤ 3000000) :
    Calls Tryz.prog 27 #[v, u, t, .slice ca ks.length cc] w (MgPost w (dropsD ks (appP C (ofL A B)))) := by
  obtain ⟨q1, rfl⟩ := h1.pointer
  obtain ⟨q2, rfl⟩ := h2.pointer
  obtain ⟨q3, rfl⟩ := h3.pointer
  have HOF := Lib.hid (fun (wx : World) (h : Kept (fun _ => False) w wx) => dof_any (.pointer q1) (.pointer q2) A B wx (h1.keep h) (h2.keep h) ha hb)
  have HEO := Lib.hid (fun (q : List EE) (hq : eds q = ofL A B) => ed_ok h1.snp h2.snp hq)
  have HOL := Lib.hid (show (ofL A B).length ≤ 2000 by have := ofL_len A B; omega)
  obtain ⟨p3, m3, hp3, ht3, rfl⟩ := h3
  have hmm := @run_makeMap Tryz.prog
  have HP := Lib.hid hp3; have HT := Lib.hid ht3; have HK := Lib.hid hK; have HKL := Lib.hid hkl
  have HNc := Lib.hid (show m3.length ≤ 1000 by simpa using hc)
  have L8 := Lib.hid (len8_ent ht3)
  have RB := Lib.hid (low_rows ht3); have TB := Lib.hid (low_tab ht3)
  have HPUT := Lib.hid (show (dds m3).foldl (fun o d => putK keyD d o) [] = dds m3 by
    have h := puts_is (l := dds m3) (s := []) (by rw [List.nil_append]; exact (map_rise (f := fun e : Ent => e.1) (ka := keyE) (kb := keyD) (fun _ => rfl)).2 ht3.rise)
    rwa [List.nil_append] at h)
  have U0 := Lib.hid (nw_newM w)
  clear h1 h2 hp3 ht3 hK hkl ha hb hc
  generalize ofL A B = P at *
  refine (callsIn_wide (n := 5)).1 ?_
  refine callsIn_of_wp_marks Tryz.func27 rfl trivial ?_ rfl
  refine wpIn_wide.2 ?_
  simp only [Tryz.ntmps27, List.size_toArray, List.length_cons, List.length_nil, Nat.reduceAdd, Nat.reduceSub, Array.replicate_succ, Array.replicate_zero, List.push_toArray, List.append_toArray, List.nil_append, List.cons_append]
  obtain ⟨wA, hwA⟩ : ∃ wA, (w.alloc (.map #[] 0)).alloc (.cells #[.map (some w.heap.size)] 57) = wA := ⟨_, rfl⟩
  rw [hwA] at U0
  have HALL := Lib.hid (all_any (.pointer q3) p3 m3 wA (HP.out.keep U0.out.k) (HT.out.keep U0.out.k) (by have := HNc.out; omega))
  go_wp2_with fail
  clear hwA
  refine HALL.out.mono ?_
  rintro e w2 ⟨Bk, Bm, rfl, hal⟩
  obtain ⟨ko, kc, hap, hown⟩ := hal.ap
  have AP := Lib.hid hap
  have HZA := Lib.hid U0.out.sz
  have BK := Lib.hid (show w.heap.size < Bk ∧ Bk < w2.heap.size ∧ Bk ≠ w.heap.size + 1 from ⟨by have := hal.bk; have := HZA.out; omega, World.block_lt_of_cell? _ _ hap.cell, by have := hal.bk; have := HZA.out; omega⟩)
  have BM := Lib.hid (show w.heap.size < Bm ∧ Bm < w2.heap.size ∧ Bm ≠ w.heap.size + 1 from ⟨by have := hal.bm; have := HZA.out; omega, World.block_lt_of_cell? _ _ hap.tab, by have := hal.bm; have := HZA.out; omega⟩)
  have KB := Lib.hid (show m3 ≠ [] → ∀ a, ko = some a → w.heap.size < a.block ∧ a.block < w2.heap.size from fun hne a ha => by have := low_keys hown hne a ha; have := HZA.out; omega)
  have UW := Lib.hid (show Nw w (putsE [] []) w2 from U0.out.keep hal.k)
  have HZ := Lib.hid UW.out.sz
  have hz := UW.out.sz
  clear hal hap hown HALL
  go_wp2_with fail
  obtain ⟨Sb, hSb⟩ : ∃ Sb : Nat → Prop, Sb = fun k => k = w.heap.size ∨ w2.heap.size + 1 < k := ⟨_, rfl⟩
  have s1 : ¬ Sb w2.heap.size := by rw [hSb]; dsimp only; omega
  have s2 : ¬ Sb (w2.heap.size + 1) := by rw [hSb]; dsimp only; omega
  have hno : ∀ k, k < w.heap.size ∨ (w.heap.size < k ∧ k < w2.heap.size) → ¬ (Sb k ∨ k = w2.heap.size ∨ k = w2.heap.size + 1) := fun k hk h => by
    rw [hSb] at h
    rcases h with (h | h) | h | h <;> omega
  have KP : ∀ X Y, Ap p3 m3 Bk Bm ko kc X → Kept (fun k => Sb k ∨ k = w2.heap.size ∨ k = w2.heap.size + 1) X Y → Ap p3 m3 Bk Bm ko kc Y := fun X Y hA hk =>
    hA.kept hk (hno _ (.inr ⟨BK.out.1, BK.out.2.1⟩)) (hno _ (.inr ⟨BM.out.1, BM.out.2.1⟩)) (fun hne a ha => hno _ (.inr (KB.out hne a ha))) (fun b hb => hno _ (.inl (TB.out b hb))) (fun e he hv a ha => hno _ (.inl (RB.out e he hv a ha)))
  have HS1 := Lib.hid s1; have HS2 := Lib.hid s2; have HKPP := Lib.hid KP
  have HSK := Lib.hid (show ∀ k, (k = w.heap.size ∨ w2.heap.size + 1 < k) → Sb k from fun k hk => by rw [hSb]; exact hk)
  clear hno KP s1 s2 hSb
  refine (wpIn_wide (n := 4)).1 ?_
  refine wpIn_rangeH (P := Tryz.prog) (n := 4) (by omega) (gf := 48) (lb := #[.pointer (some ⟨Bk, 0, none⟩), .pointer (some ⟨Bm, 0, none⟩)]) rfl (enters_of Tryz.func48 (by kernel_rfl) rfl)
    Sb HS1.out HS2.out (all1_seq 3 (by omega) p3 m3 Bk Bm ko kc _ HKPP.out w2 AP.out L8.out (by have := HNc.out; omega)) (Below.refl _ _) (fun _ => rfl)
    (fun pre W => Nw w (putsE pre []) W ∧ ∀ e ∈ pre, e.1.vs ≠ [] → ∀ a, e.2.1 = some a → a.block ≠ w2.heap.size ∧ a.block ≠ w2.heap.size + 1) (fun _ _ => False) ?hI (fun _ _ _ h _ => h) ?hG ?h0
    (fun x a' W => ∃ bx, w2.heap.size + 1 < bx ∧ Bx W bx x.2.1 x.2.2 x.1 ∧ a' = { tmps := #[.pointer q1, .pointer q2, .pointer q3, .slice ca ks.length cc, undef, undef, undef, undef, .map none, .pointer (some ⟨w.heap.size + 1, 0, none⟩), .pointer (some ⟨bx, 0, none⟩), undef, undef, undef, undef, undef, undef, .map (some w.heap.size), .pointer q3, .func (.func 48) #[] #[.pointer (some ⟨Bk, 0, none⟩), .pointer (some ⟨Bm, 0, none⟩)], .agg #[.int .i64 x.1.k, .string (bs x.1.c), .string (bs x.1.p), .slice x.2.1 x.1.vs.length x.2.2, .string (bs x.1.s), .string (bs x.1.t)], undef, undef, undef, undef, undef, undef, undef, undef, undef, undef, undef, undef, undef, undef, undef, undef, undef, undef, undef, undef, undef, undef, undef, undef, undef, undef, undef, undef, undef, undef, undef, undef, undef, undef, undef, undef, undef, undef], defers := [] })
    ?hAx ?assign ?body ?done (fun _ _ _ h => h.elim)
  case hI =>
    rintro pre A B ⟨h1, h2⟩ hk
    exact ⟨h1.loop hk (by omega) (fun e he hv a ha => h2 e (by rcases putsE_sub _ _ _ he with h | h; exact h; exact absurd h List.not_mem_nil) hv a ha), h2⟩
  case hG =>
    rintro x A B hx h1 h2 hk
    exact hx.over h1 h2 hk
  case h0 => exact ⟨UW.out, fun _ he => absurd he List.not_mem_nil⟩
  case hAx =>
    rintro x a' A B ⟨bx, h1, h2, h3⟩ hk
    exact ⟨bx, h1, h2.kept hk (by omega), h3⟩
  case assign =>
    rintro l pre x W K hi hg hlt hK
    unfold encE
    go_simp
    have HKK := Lib.hid hK; have HB := Lib.hid (bx_new W x.2.1 x.2.2 x.1 43)
    clear hK hi hg
    refine wpIn_region_plain l _ (by rintro ⟨a, w, h⟩; exact h) (by kernel_rfl) ?_
    go_wp2
    exact HKK.out _ _ ((Kept.refl _ W).alloc _) ⟨W.heap.size, hlt, HB.out, rfl⟩
  case body =>
    rintro l pre x a' W ⟨h1, h2⟩ hg ⟨bx, hb1, hb2, rfl⟩ hn1 hn2 hlt hN
    have h8 := right_small hg.right
    have HKEY := Lib.hid (dkey_any x.1 x.2.1 x.2.2 W.heap.size W.drew (hg.lies.kept (S := fun _ => False) (Kept.drew (Kept.refl _ W)) (fun _ _ _ h => h)) hg.cap (Nat.le_trans h8.s (by omega)) (Nat.le_trans h8.c (by omega)))
    have HU := Lib.hid h1; have H2 := Lib.hid h2; have HB := Lib.hid hb2
    have HL8 : Len8 x.1 := ⟨Nat.le_trans h8.c (by omega), Nat.le_trans h8.p (by omega), Nat.le_trans h8.s (by omega), Nat.le_trans h8.t (by omega), Nat.le_trans h8.n (by omega), fun y hy => Nat.le_trans (h8.v y hy) (by omega)⟩
    have hpl : (putsE pre []).length ≤ 1000000 := by have h3 := putsE_len pre []; simp only [List.length_nil] at h3; have := HNc.out; omega
    have HPT := Lib.hid (show ∀ (wx : World), Kept (fun _ => False) W wx → ∃ wy, (Instr.mapUpdate 57 (.map (some w.heap.size)) (.string (bs (keyD x.1))) (.agg #[.int .i64 x.1.k, .string (bs x.1.c), .string (bs x.1.p), .slice x.2.1 x.1.vs.length x.2.2, .string (bs x.1.s), .string (bs x.1.t)])).run Tryz.prog wx = .ok () wy ∧ Nw w (putsE (pre ++ [x]) []) wy ∧ Kept (fun k => k = w.heap.size) wx wy from fun wx hk => by
      obtain ⟨wy, e1, e2, e3⟩ := (h1.keep hk).put x hg.right ⟨(hg.lies.kept hk (fun _ _ _ h => h)).mono hk.size, hg.cap⟩ HL8 hpl
      exact ⟨wy, e1, by rw [putsE_snoc]; exact e2, e3⟩)
    have HRW := Lib.hid (show ∀ e ∈ pre ++ [x], e.1.vs ≠ [] → ∀ a, e.2.1 = some a → a.block ≠ w2.heap.size ∧ a.block ≠ w2.heap.size + 1 from fun e he hv a ha => by
      rcases List.mem_append.1 he with he | he
      · exact h2 e he hv a ha
      · rw [List.mem_singleton] at he
        subst he
        obtain ⟨b, off, e1, _, hc⟩ := hg.lies (by unfold strs; simpa using hv)
        rw [e1] at ha
        cases ha
        obtain ⟨t, ts, hts⟩ := List.exists_cons_of_ne_nil hv
        have h0 := hc 0 (.string (bs t)) (by rw [hts]; rfl)
        exact ⟨cell_block h0 hn1, cell_block h0 hn2⟩)
    clear h1 h2 hg hb2 h8 hpl HL8 hn1 hn2
    generalize keyD x.1 = key at *
    have hS : cellsK w.heap.size bx x W.drew := ⟨HU.out.cell, HB.out.c0, HB.out.c1, HB.out.c2, HB.out.c3, HB.out.c4, HB.out.c5⟩
    refine wpIn_block ?_
    refine wpIn_region_round l _ (by rintro ⟨a, w, h⟩; exact h) (by kernel_rfl) (by kernel_rfl) ?_
    change wpAny _ _ _ _ _ _ _ (World.drew _)
    refine wpAny_of_held (S := cellsK w.heap.size bx x) _ _ _ _ ?_
    · skip
      refine wpAnyH_take (i := 0) (oi := { dst := some 21, op := _, type := _, pos := _, after := _, guard := none }) (v := .map (some w.heap.size)) rfl (by kernel_rfl) (by kernel_rfl) (by kernel_rfl) (fun _ _ _ h => h) (Or.inl ⟨by rfl, by intro w hSw; (try dsimp only at hSw); go_simp⟩) (by assumption) ?_; simp only [Act.put, List.setIfInBounds_toArray, List.set_cons_zero, List.set_cons_succ]
      refine wpAnyH_take (i := 1) (oi := { dst := some 22, op := _, type := _, pos := _, after := _, guard := none }) (v := .agg #[.int .i64 x.1.k, .string (bs x.1.c), .string (bs x.1.p), .slice x.2.1 x.1.vs.length x.2.2, .string (bs x.1.s), .string (bs x.1.t)]) rfl (by kernel_rfl) (by kernel_rfl) (by kernel_rfl) (fun _ _ _ h => h) (Or.inl ⟨by rfl, by intro w hSw; (try dsimp only at hSw); go_simp⟩) (by assumption) ?_; simp only [Act.put, List.setIfInBounds_toArray, List.set_cons_zero, List.set_cons_succ]
      refine wpAnyH_take (i := 3) (oi := { dst := some 24, op := _, type := _, pos := _, after := _, guard := none }) (v := .agg #[.int .i64 x.1.k, .string (bs x.1.c), .string (bs x.1.p), .slice x.2.1 x.1.vs.length x.2.2, .string (bs x.1.s), .string (bs x.1.t)]) rfl (by kernel_rfl) (by kernel_rfl) (by kernel_rfl) (fun _ _ _ h => h) (Or.inl ⟨by rfl, by intro w hSw; (try dsimp only at hSw); go_simp⟩) (by assumption) ?_; simp only [Act.put, List.setIfInBounds_toArray, List.set_cons_zero, List.set_cons_succ]
      refine wpAnyH_ready (rs := [2]) (by kernel_rfl) (by simp) ?_
      refine AllReadyH.cons rfl (fun K hK => ?_) AllReadyH.nil
      go_simp
      refine HKEY.out.mono ?_
      rintro e w5 ⟨rfl, k5⟩
      have K5 := Lib.hid (show Kept (fun _ => False) W w5 from (Kept.drew (Kept.refl (fun _ => False) W)).trans k5 (fun _ _ h => h))
      have hS5 := cellsK_kept hS k5 (fun h => h) (fun h => h)
      refine hK.out _ _ hS5 (fun hHeld => ?_)
      obtain ⟨w6, hrun, hu6, k6⟩ := HPT.out w5 K5.out
      have hS6 := cellsK_kept hS5 k6 (by omega) (by omega)
      have U6 := Lib.hid hu6; have K6 := Lib.hid k6
      clear hK K k5 hu6 k6
      try simp only [Act.put, List.setIfInBounds_toArray, List.set_cons_zero, List.set_cons_succ]
      refine wpAnyH_ready (rs := [4]) (by kernel_rfl) (by simp) ?_
      refine AllReadyH.cons rfl (fun K hK => ?_) AllReadyH.nil
      go_simp
      refine hK.out _ _ hS6 (fun hHeld2 => ?_)
      clear hK K
      refine wpAnyH_done (by kernel_rfl) ?_ _
      have K56 : Kept (fun k => k = w.heap.size) W w6 := (K5.out.mono (fun _ _ h => h.elim)).trans K6.out (fun _ _ h => h)
      exact ⟨K56.mono (fun k _ h => HSK.out k (.inl h)), U6.out, HRW.out⟩
  case done =>
    rintro xs W hxs ⟨hu, _⟩ hd
    have hlen : xs.length = m3.length := by have := congrArg List.length hxs; rwa [dds_len, dds_len] at this
    have HMD := Lib.hid (show dds (putsE xs []) = dds m3 by rw [putsE_dds, hxs]; exact HPUT.out)
    have HML := Lib.hid (show (putsE xs []).length ≤ 1000 by have h := putsE_len xs []; simp only [List.length_nil] at h; have := HNc.out; omega)
    have HU := Lib.hid hu; have HD := Lib.hid hd
    clear hu hd hxs hlen
    generalize putsE xs [] = m0 at *
    have HO := Lib.hid (HOF.out W HU.out.k)
    go_wp2_with fail
    refine HO.out.mono ?_
    rintro e w5 ⟨pa, pc, q, rfl, hq, hE, k5⟩
    have HEK := Lib.hid (HEO.out q hq)
    have hql : q.length ≤ 2000 := by have := congrArg List.length hq; rw [eds_len] at this; have := HOL.out; omega
    have HQL := Lib.hid hql
    have HQ := Lib.hid hq; have HES := Lib.hid hE
    have U5 := Lib.hid (HU.out.keep k5)
    have D5 := Lib.hid (show w5.heap[w2.heap.size]? = some (.deferred (some [])) from (k5.block _ (Array.getElem?_eq_some_iff.1 HD.out).1 (fun h => h)).trans HD.out)
    clear hq hE k5 hql
    go_wp2
    go_loopg [29] q.length (fun k c wr => ∃ j m, k = q.length - j ∧ j ≤ q.length ∧ c = .int .i64 (j : Int) ∧ Nw w m wr ∧ dds m = appP (dds m0) ((eds q).take j) ∧ m.length ≤ 1000 + j ∧ Kept (fun k => k = w.heap.size) w5 wr)
    case atStart => exact ⟨0, m0, rfl, Nat.zero_le _, rfl, U5.out, rfl, HML.out, Kept.refl _ _⟩
    case round =>
      obtain ⟨wo, rfl⟩ : ∃ wo, wo = wr := ⟨wr, rfl⟩
      obtain ⟨j, m, hk, hj, rfl, hu, hm, hml, hk2⟩ := hrel
      have HJ := Lib.hid hk; have HUo := Lib.hid hu; have HM := Lib.hid hm; have HMLo := Lib.hid hml; have HKo := Lib.hid hk2
      clear hk hu hm hml hk2
      by_cases hlt : j < q.length
      · have hes := HES.out.over U5.out.tb.nocell HKo.out
        obtain ⟨b, off, rfl, hb, hc⟩ := hes.row (by intro h; rw [h] at hlt; simp at hlt)
        obtain ⟨c0, c1, c2⟩ := hc j hlt
        have HXO := Lib.hid (HEK.out q[j] (List.getElem_mem hlt))
        have HLI := Lib.hid (hes.lies q[j] (List.getElem_mem hlt)).2
        have HTK := Lib.hid (appP_take (dds m0) q j hlt)
        have i1 : (j : Int) < (q.length : Int) := by omega
        clear hc hes
        generalize q[j] = x at *
        obtain ⟨key, ⟨oao, ocap, oes⟩, ⟨nao, ncap, nes⟩⟩ := x
        dsimp only at c0 c1 c2
        have KA := Lib.hid ((Kept.refl (fun _ => False) wo).alloc (.cells #[.string (bs key), .slice oao oes.length ocap, .slice nao nes.length ncap] 85))
        have HCB := Lib.hid (ceB_new wo key (.slice oao oes.length ocap) (.slice nao nes.length ncap) 85)
        have UA := Lib.hid (HUo.out.keep KA.out)
        have hcmA := UA.out.cell
        have hcm := HUo.out.cell
        have hbo := HUo.out.sz
        obtain ⟨w6, hrun, hu6, k6⟩ := UA.out.drop key (by have := HXO.out.key; dsimp only at this; unfold maxLen; omega) 0
        have hrun' : ∀ ty, (Builtin.delete_ #[57, 9] ty #[.map (some w.heap.size), .string (bs key)]).run Tryz.prog (wo.alloc (.cells #[.string (bs key), .slice oao oes.length ocap, .slice nao nes.length ncap] 85)) = .ok (.tuple #[]) w6 := fun ty => hrun
        have U6 := Lib.hid hu6
        have CB6 := Lib.hid (ceB_kept HCB.out k6 (by omega))
        have SN6 := Lib.hid ((HLI.out.keep KA.out).over UA.out.tb.nocell k6)
        have K6 := Lib.hid (show Kept (fun k => k = w.heap.size) w5 w6 from (HKo.out.trans (KA.out.mono (fun _ _ h => h.elim)) (fun _ _ h => h)).trans k6 (fun _ _ h => h))
        have NC6 := Lib.hid hu6.tb.nocell
        have HZ6 := Lib.hid (show wo.heap.size < w6.heap.size by have := k6.size; rw [World.size_alloc] at this; omega)
        clear hrun hu6 k6
        obtain ⟨d0, d1, d2⟩ := CB6.out
        have hcm6 := U6.out.cell
        go_wp2
        go_loopg [39] nes.length (fun k c wr => ∃ i, k = nes.length - i ∧ i ≤ nes.length ∧ c = .int .i64 (i : Int) ∧ Nw w (putsE (nes.take i) (dropK keyE key m)) wr ∧ Kept (fun k => k = w.heap.size) w6 wr)
        case atStart => exact ⟨0, rfl, Nat.zero_le _, rfl, U6.out, Kept.refl _ _⟩
        case round =>
          obtain ⟨i, hk, hi, rfl, hu, hk2⟩ := hrel
          have HI := Lib.hid hk; have HUi := Lib.hid hu; have HKi := Lib.hid hk2
          clear hk hu hk2
          by_cases hlti : i < nes.length
          · have hds := (SN6.out.over NC6.out HKi.out).ds
            obtain ⟨xb, xo, rfl, hxb, hxc⟩ := hds.row (by intro h; dsimp only at h; rw [h] at hlti; simp at hlti)
            obtain ⟨e0, e1, e2, e3, e4, e5⟩ := hxc i hlti
            have hxn := HXO.out.new nes[i] (List.getElem_mem hlti)
            have hxl := hds.lies nes[i] (List.getElem_mem hlti)
            have HTKi := Lib.hid (putsE_take nes (dropK keyE key m) i hlti)
            have HSZ := Lib.hid (show (putsE (nes.take i) (dropK keyE key m)).length ≤ 1000000 by
              have h1 := putsE_len (nes.take i) (dropK keyE key m); have h2 := dropKE_len key m; rw [List.length_take] at h1; have := HMLo.out; have := HXO.out.one; dsimp only at this; have := HQL.out; omega)
            have ii : (i : Int) < (nes.length : Int) := by omega
            have hnb : nes.length ≤ 1 := HXO.out.one
            clear hxc hds
            generalize nes[i] = y at *
            obtain ⟨d, dao, dcap⟩ := y
            dsimp only at e0 e1 e2 e3 e4 e5 hxn hxl
            have KD := Lib.hid ((Kept.refl (fun _ => False) wr).alloc (.cells #[.int .i64 d.k, .string (bs d.c), .string (bs d.p), .slice dao d.vs.length dcap, .string (bs d.s), .string (bs d.t)] 43))
            have UD := Lib.hid (HUi.out.keep KD.out)
            have hcmD := UD.out.cell
            have hcmi := HUi.out.cell
            have hE0 : wr.cell? ⟨wo.heap.size, 0, none⟩ = some (.string (bs key)) := (HKi.out.cell (p := ⟨wo.heap.size, 0, none⟩) HZ6.out (by dsimp only; omega)).trans d0
            have hE1 : (wr.alloc (.cells #[.int .i64 d.k, .string (bs d.c), .string (bs d.p), .slice dao d.vs.length dcap, .string (bs d.s), .string (bs d.t)] 43)).cell? ⟨wo.heap.size, 0, none⟩ = some (.string (bs key)) := (KD.out.cell (p := ⟨wo.heap.size, 0, none⟩) (World.block_lt_of_cell? _ _ hE0) (fun h => h)).trans hE0
            obtain ⟨w7, hrun, hu7, k7⟩ := UD.out.put (d, dao, dcap) hxn.1 ⟨(hxl.1.kept KD.out (fun _ _ _ h => h)).mono (by have := K6.out.size; have := HKi.out.size; have := KD.out.size; omega), hxl.2⟩ hxn.2.2 HSZ.out
            unfold valE at hrun
            rw [hxn.2.1] at hrun
            dsimp only at hrun
            have U7 := Lib.hid hu7
            have K7 := Lib.hid (show Kept (fun k => k = w.heap.size) w6 w7 from (HKi.out.trans (KD.out.mono (fun _ _ h => h.elim)) (fun _ _ h => h)).trans k7 (fun _ _ h => h))
            clear hu7 k7 hxn hxl
            go_wp2
            go_roundg (nes.length - (i + 1))
            case measure => have := HI.out; omega
            case rel => exact ⟨i + 1, rfl, by omega, by go_num, by rw [HTKi.out]; exact U7.out, K7.out⟩
          · obtain rfl : i = nes.length := by omega
            have hu := HUi.out
            rw [List.take_length] at hu
            have U8 := Lib.hid hu
            have K8 := Lib.hid (show Kept (fun k => k = w.heap.size) w5 wr from K6.out.trans HKi.out (fun _ _ h => h))
            have HE8 := Lib.hid (show dds (putsE nes (dropK keyE key m)) = appP (dds m0) ((eds q).take (j + 1)) by
              rw [HTK.out, ← HM.out]; exact editE_dds m ⟨key, ⟨oao, ocap, oes⟩, ⟨nao, ncap, nes⟩⟩)
            have HL8 := Lib.hid (show (putsE nes (dropK keyE key m)).length ≤ 1000 + (j + 1) by
              have h1 := putsE_len nes (dropK keyE key m); have h2 := dropKE_len key m; have := HMLo.out; have := HXO.out.one; dsimp only at this; omega)
            have hqb := HQL.out
            clear hu hlti
            go_wp2
            go_roundg (q.length - (j + 1))
            case measure => have := HJ.out; omega
            case rel => exact ⟨j + 1, _, rfl, by omega, by go_num, U8.out, HE8.out, HL8.out, K8.out⟩
      · obtain rfl : j = q.length := by omega
        have HME := Lib.hid (show dds m = appP (dds m3) P by rw [HM.out, ← eds_len q, List.take_length, HQ.out, HMD.out])
        have DW := Lib.hid (show wo.heap[w2.heap.size]? = some (.deferred (some [])) from (HKo.out.block _ (Array.getElem?_eq_some_iff.1 D5.out).1 (by omega)).trans D5.out)
        clear hlt
        go_wp2
        go_loopg [51] ks.length (fun k c wr => ∃ i, k = ks.length - i ∧ i ≤ ks.length ∧ c = .int .i64 (i : Int) ∧ Nw w (dropsE (ks.take i) m) wr ∧ Kept (fun k => k = w.heap.size) wo wr)
        case atStart => exact ⟨0, rfl, Nat.zero_le _, rfl, HUo.out, Kept.refl _ _⟩
        case round =>
          obtain ⟨i, hk, hi, rfl, hu, hk2⟩ := hrel
          have HI := Lib.hid hk; have HUi := Lib.hid hu; have HKi := Lib.hid hk2
          clear hk hu hk2
          by_cases hlti : i < ks.length
          · obtain ⟨xb, xo, rfl, hxb, hxc⟩ := HK.out (by intro h; simp [strs] at h; rw [h] at hlti; simp at hlti)
            have hx : wr.cell? ⟨xb, xo + i, none⟩ = some (.string (bs ks[i])) := by
              have h1 := hxc i (.string (bs ks[i])) (by simp [strs, hlti])
              exact (HUi.out.k.cell (p := ⟨xb, xo + i, none⟩) (World.block_lt_of_cell? _ _ h1) (fun h => h)).trans h1
            have hxl := HKL.out ks[i] (List.getElem_mem hlti)
            have HTKi := Lib.hid (dropsE_take ks m i hlti)
            have ii : (i : Int) < (ks.length : Int) := by omega
            have hcmi := HUi.out.cell
            clear hxc
            generalize ks[i] = key at *
            obtain ⟨w7, hrun, hu7, k7⟩ := HUi.out.drop key (by unfold maxLen; omega) 0
            have hrun' : ∀ ty, (Builtin.delete_ #[57, 9] ty #[.map (some w.heap.size), .string (bs key)]).run Tryz.prog wr = .ok (.tuple #[]) w7 := fun ty => hrun
            have U7 := Lib.hid hu7
            have K7 := Lib.hid (HKi.out.trans k7 (fun _ _ h => h))
            clear hrun hu7 k7 hxl
            go_wp2
            go_roundg (ks.length - (i + 1))
            case measure => have := HI.out; omega
            case rel => exact ⟨i + 1, rfl, by omega, by go_num, by rw [HTKi.out]; exact U7.out, K7.out⟩
          · obtain rfl : i = ks.length := by omega
            have hu := HUi.out
            rw [List.take_length] at hu
            have U9 := Lib.hid hu
            have D9 := Lib.hid (show wr.heap[w2.heap.size]? = some (.deferred (some [])) from (HKi.out.block _ (Array.getElem?_eq_some_iff.1 DW.out).1 (by omega)).trans DW.out)
            have hcm9 := U9.out.cell
            clear hu hlti
            go_wp2
            refine ⟨by simp, .inl ⟨_, _, rfl, run_takeDeferred D9.out, ?_⟩⟩
            have kd := kept_putObj wr w2.heap.size (.deferred none)
            exact ⟨_, results_tmp rfl _ _ _, w.heap.size, dropsE ks m, rfl, Nat.le_refl _, U9.out.tb.over (by omega) ⟨_, D9.out, rfl⟩ kd, by rw [dropsE_dds, HME.out]; rfl, U9.out.k.trans kd (fun i hi e => by omega)⟩

end Go.Proofs.YtlnincdmdegaoaaGreat
