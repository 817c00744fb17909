/-
  MergeSides: the walk.
-/
import Derived.Test.YtlnincdmdegaoaaGreatL10q
import Derived.Test.YtlnincdmdegaoaaGreatGTi
import Derived.Test.YtlnincdmdegaoaaGreatOk
namespace Go.Proofs.YtlnincdmdegaoaaGreat
open Go.RowKit Go.Mk Go.Maps

/-- Get, told by a Bool. -/
theorem sgetN_any {w : World} {v : Value} {l : List DD} (h : Sn w v l) (key : List UInt8) (hk : key.length ≤ maxLen) :
    Calls Tryz.prog 17 #[v, .string (bs key)] w fun e w' => ∃ d ao cap b, e = .returned (.tuple #[valE (d, ao, cap), .bool b]) ∧ Lies w' w'.heap.size ao (strs d.vs) ∧ d.vs.length ≤ cap ∧ Kept (fun _ => False) w w' ∧ getK keyD key l = (if b = true then [d] else []) := by
  rcases getK_cases h.rise key with ⟨e0, hn⟩ | ⟨d, hd, rfl, e0⟩
  · refine (sgetN_no h hn hk).mono ?_
    rintro e w1 ⟨ao, cap, rfl, ho, k1⟩
    exact ⟨_, ao, cap, false, rfl, owns_lies ho, owns_cap ho, k1, by rw [e0]; rfl⟩
  · refine (sgetN_has h hd hk).mono ?_
    rintro e w1 ⟨ao, cap, rfl, ho, k1⟩
    exact ⟨_, ao, cap, true, rfl, owns_lies ho, owns_cap ho, k1, by rw [e0]; rfl⟩

theorem merge_all {A B C : List DD} : (keys3 A B C).flatMap (fun k => getK keyD k (mergeD A B C)) = mergeD A B C := by
  have h : ∀ s : List (List UInt8), s.flatMap (fun k => getK keyD k (mergeD A B C)) = s.flatMap (fun k => (mgK A B C k).getD []) := fun s => by
    induction s with
    | nil => rfl
    | cons k r ih => rw [List.flatMap_cons, List.flatMap_cons, ih, merge_get]
  rw [h]
  rfl

/-- How many merged definitions the first keys have. -/
def cntM (ks : List (List UInt8)) (m : List DD) (j : Nat) : Nat := ((ks.take j).flatMap (fun k => getK keyD k m)).length

theorem cntM_succ {ks : List (List UInt8)} {m : List DD} {j : Nat} (h : j < ks.length) : cntM ks m (j + 1) = cntM ks m j + (getK keyD ks[j] m).length := by
  unfold cntM
  rw [List.take_add_one, List.getElem?_eq_getElem h, Option.toList_some, List.flatMap_append, List.length_append]
  simp

theorem cntM_le (ks : List (List UInt8)) (m : List DD) (j : Nat) : cntM ks m j ≤ cntM ks m ks.length := by
  unfold cntM
  rw [List.take_length]
  conv => rhs; rw [← List.take_append_drop j ks]
  rw [List.flatMap_append, List.length_append]
  omega

/-- Is it among the first ones? -/
def isIn (k : List UInt8) (s : List (List UInt8)) (i : Nat) : Bool := (s.take i).any (fun x => x == k)
theorem isIn_succ {k : List UInt8} {s : List (List UInt8)} {i : Nat} (h : i < s.length) : isIn k s (i + 1) = (isIn k s i || s[i] == k) := by
  unfold isIn
  rw [List.take_add_one, List.getElem?_eq_getElem h, Option.toList_some, List.any_append]
  simp
theorem isIn_all {k : List UInt8} {s : List (List UInt8)} : isIn k s s.length = decide (k ∈ s) := by
  unfold isIn
  rw [List.take_length, Bool.eq_iff_iff]
  simp [List.any_eq_true]

theorem sdl_len {X : SD} {l : List DD} (h : dds X.es = l) (hl : l.length ≤ 1) : X.es.length ≤ 1 := by rw [← h, dds_len] at hl; exact hl

theorem right_vs {l : List DD} (h : ∀ d ∈ l, rightD d = true) {X : SD} {k : List UInt8} (hx : dds X.es = getK keyD k l) : ∀ e ∈ X.es, e.1.vs.length ≤ 1000000 := fun e he => by
  have hm : e.1 ∈ getK keyD k l := by rw [← hx]; exact List.mem_map_of_mem he
  exact Nat.le_trans (right_small (h _ (mem_getK.1 hm).1)).n (by omega)

set_option maxHeartbeats 4000000 in
set_option maxRecDepth 100000 in
theorem sides10_any (L : Nat → SD) (w : World) (hD : ∀ i, i < 3 → Ds w w.heap.size (L i).ao (L i).es) :
    Calls Tryz.prog 5 #[.agg #[.slice (L 0).ao (L 0).es.length (L 0).cap, .slice (L 1).ao (L 1).es.length (L 1).cap, .slice (L 2).ao (L 2).es.length (L 2).cap]] w fun e w' => e = .returned (.bool true) ∧ Below w.heap.size w w' := by
  have HAW := Lib.hid (fun w => awake10_any w)
  have HFW := Lib.hid (fun (wx : World) (h : Kept (fun _ => False) w wx) => few10_any (L 0).ao (L 0).cap (L 0).es (L 1).ao (L 1).cap (L 1).es (L 2).ao (L 2).cap (L 2).es w.heap.size wx ((hD 0 (by omega)).keep h) ((hD 1 (by omega)).keep h) ((hD 2 (by omega)).keep h))
  have HT3 := Lib.hid (fun (hf : ∀ i, i < 3 → FewD (L i).es 10) (wx : World) (h : Kept (fun _ => False) w wx) => three10_any L w.heap.size wx h.size (fun i hi => (hD i hi).keep h) hf)
  have KB := Lib.hid ((Kept.refl (fun _ => False) w).alloc (.cells #[.slice (L 0).ao (L 0).es.length (L 0).cap, .slice (L 1).ao (L 1).es.length (L 1).cap, .slice (L 2).ao (L 2).es.length (L 2).cap] 23))
  have HBX := Lib.hid (show ∀ wx, Kept (fun _ => False) (w.alloc (.cells #[.slice (L 0).ao (L 0).es.length (L 0).cap, .slice (L 1).ao (L 1).es.length (L 1).cap, .slice (L 2).ao (L 2).es.length (L 2).cap] 23)) wx → wx.cell? ⟨w.heap.size, 0, none⟩ = some (.slice (L 0).ao (L 0).es.length (L 0).cap) ∧ wx.cell? ⟨w.heap.size, 1, none⟩ = some (.slice (L 1).ao (L 1).es.length (L 1).cap) ∧ wx.cell? ⟨w.heap.size, 2, none⟩ = some (.slice (L 2).ao (L 2).es.length (L 2).cap) from fun wx h => by
    have h0 := fun j => World.cell?_alloc_new w #[.slice (L 0).ao (L 0).es.length (L 0).cap, .slice (L 1).ao (L 1).es.length (L 1).cap, .slice (L 2).ao (L 2).es.length (L 2).cap] 23 j
    exact ⟨(h.cell (p := ⟨w.heap.size, 0, none⟩) (by simp) (fun h => h)).trans (h0 0), (h.cell (p := ⟨w.heap.size, 1, none⟩) (by simp) (fun h => h)).trans (h0 1), (h.cell (p := ⟨w.heap.size, 2, none⟩) (by simp) (fun h => h)).trans (h0 2)⟩)
  have H3 := Lib.hid (show (fewB (L 0).es 10 && fewB (L 1).es 10 && fewB (L 2).es 10) = few3 L from rfl)
  rw [H3.out] at HFW
  clear hD H3
  go_enter Tryz.func5, Tryz.ntmps5
  go_wp2_with fail
  refine (HAW.out _).mono ?_
  rintro e w1 ⟨rfl, k1⟩
  have K1 := Lib.hid k1; clear k1
  obtain ⟨c0, c1, c2⟩ := HBX.out _ K1.out
  go_wp2_with fail
  refine (HFW.out _ (KB.out.trans K1.out (fun _ _ h => h))).mono ?_
  rintro e w2 ⟨rfl, k2⟩
  have K2 := Lib.hid (K1.out.trans k2 (fun _ _ h => h)); clear k2 c0 c1 c2
  cases hf : few3 L with
  | false =>
    clear hf
    go_wp2_with fail
    refine (HAW.out _).mono ?_
    rintro e w4 ⟨rfl, k4⟩
    have K4 := Lib.hid ((KB.out.trans K2.out (fun _ _ h => h)).trans k4 (fun _ _ h => h)); clear k4
    go_wp2
    go_ret
    exact ⟨rfl, keeps_below7 K4.out⟩
  | true =>
    have HF := Lib.hid (few3_of hf)
    clear hf
    obtain ⟨c0, c1, c2⟩ := HBX.out _ K2.out
    go_wp2_with fail
    refine (HT3.out HF.out _ (KB.out.trans K2.out (fun _ _ h => h))).mono ?_
    rintro e w5 ⟨ok, P, X, rfl, k5, hdn⟩
    have K5 := Lib.hid ((KB.out.trans K2.out (fun _ _ h => h)).trans k5 (fun _ _ h => h)); have HDN := Lib.hid hdn
    clear k5 hdn c0 c1 c2
    unfold valS
    cases ok with
    | false =>
      go_wp2
      go_ret
      exact ⟨rfl, keeps_below7 ((K5.out.alloc _).alloc _)⟩
    | true =>
      have Q5 := Lib.hid (q10_new K5.out (HDN.out rfl))
      have HL := Lib.hid (show ∀ i, i < 3 → (X i).es.length ≤ 10 from fun i hi => done_len (HDN.out rfl i hi) (HF.out i hi))
      have HDL := Lib.hid (show ∀ i, i < 3 → (dds (X i).es).length ≤ 500 from fun i hi => by rw [dds_len]; have := HL.out i hi; omega)
      clear HDN
      have HML := Lib.hid (show (mergeD (dds (X 0).es) (dds (X 1).es) (dds (X 2).es)).length ≤ 500 by
        have h1 := merge_le (A := dds (X 0).es) (Q5.out.snp 1 (by omega)) (Q5.out.snp 2 (by omega))
        rw [dds_len, dds_len, dds_len] at h1
        have h2 := HL.out 0 (by omega); have h3 := HL.out 1 (by omega); have h4 := HL.out 2 (by omega)
        omega)
      have hcl := merge_le (A := dds (X 0).es) (Q5.out.snp 1 (by omega)) (Q5.out.snp 2 (by omega))
      clear hcl
      have M1 := Lib.hid (fun (wx : World) (h : Q10 w w5.heap.size (w5.heap.size + 1) P X wx) => dmerge10_any (.pointer (P 0)) (.pointer (P 1)) (.pointer (P 2)) _ _ _ wx (h.sn 0 (by omega)) (h.sn 1 (by omega)) (h.sn 2 (by omega)) (HDL.out 0 (by omega)) (HDL.out 1 (by omega)) (HDL.out 2 (by omega)) HML.out)
      have HCL := Lib.hid (show (mergeC (dds (X 0).es) (dds (X 1).es) (dds (X 2).es)).length ≤ 10000 by
        have h1 : (mergeC (dds (X 0).es) (dds (X 1).es) (dds (X 2).es)).length ≤ (keys3 (dds (X 0).es) (dds (X 1).es) (dds (X 2).es)).length := List.length_filter_le _ _
        have h2 := keys3_le (dds (X 0).es) (dds (X 1).es) (dds (X 2).es)
        rw [dds_len, dds_len, dds_len] at h2
        have h3 := HL.out 0 (by omega); have h4 := HL.out 1 (by omega); have h5 := HL.out 2 (by omega)
        omega)
      have HKSL := Lib.hid (show (keys3 (dds (X 0).es) (dds (X 1).es) (dds (X 2).es)).length ≤ 30 by
        have h2 := keys3_le (dds (X 0).es) (dds (X 1).es) (dds (X 2).es)
        rw [dds_len, dds_len, dds_len] at h2
        have h3 := HL.out 0 (by omega); have h4 := HL.out 1 (by omega); have h5 := HL.out 2 (by omega)
        omega)
      have HKL := Lib.hid (show ∀ k ∈ keys3 (dds (X 0).es) (dds (X 1).es) (dds (X 2).es), k.length ≤ maxLen from fun k hk => by
        obtain ⟨d, hd, rfl⟩ := mem_keys.1 hk
        have hr : rightD d = true := by
          simp only [List.mem_append] at hd
          rcases hd with (h | h) | h
          · exact (Q5.out.snp 0 (by omega)).right d h
          · exact (Q5.out.snp 1 (by omega)).right d h
          · exact (Q5.out.snp 2 (by omega)).right d h
        have := key_len8 hr
        unfold maxLen; omega)
      have HALL := Lib.hid (show cntM (keys3 (dds (X 0).es) (dds (X 1).es) (dds (X 2).es)) (mergeD (dds (X 0).es) (dds (X 1).es) (dds (X 2).es)) (keys3 (dds (X 0).es) (dds (X 1).es) (dds (X 2).es)).length = (mergeD (dds (X 0).es) (dds (X 1).es) (dds (X 2).es)).length by
        unfold cntM
        rw [List.take_length, merge_all])
      have HMC := Lib.hid (fun (k : List UInt8) => mem_conf (b := dds (X 0).es) (x := dds (X 1).es) (y := dds (X 2).es) (k := k))
      have HMG := Lib.hid (fun (k : List UInt8) (h : k ∉ mergeC (dds (X 0).es) (dds (X 1).es) (dds (X 2).es)) => show getK keyD k (mergeD (dds (X 0).es) (dds (X 1).es) (dds (X 2).es)) = (if getK keyD k (dds (X 0).es) = getK keyD k (dds (X 1).es) then getK keyD k (dds (X 2).es) else getK keyD k (dds (X 1).es)) by rw [merge_get, mg_is h]; rfl)
      have HMN := Lib.hid (fun (k : List UInt8) (h : k ∈ mergeC (dds (X 0).es) (dds (X 1).es) (dds (X 2).es)) => show getK keyD k (mergeD (dds (X 0).es) (dds (X 1).es) (dds (X 2).es)) = [] by rw [merge_get, mg_conf h]; rfl)
      have HKE := Lib.hid (fun (wx wy : World) (b : Nat) (h : Q10 w w5.heap.size (w5.heap.size + 1) P X wx) => True.intro)
      have HMS := Lib.hid (merge_snp (b := dds (X 0).es) (Q5.out.snp 1 (by omega)) (Q5.out.snp 2 (by omega)))
      unfold DmPost at M1
      generalize hMD : mergeD (dds (X 0).es) (dds (X 1).es) (dds (X 2).es) = MD at *
      generalize hMC : mergeC (dds (X 0).es) (dds (X 1).es) (dds (X 2).es) = MC at *
      generalize hKS : keys3 (dds (X 0).es) (dds (X 1).es) (dds (X 2).es) = KS at *
      have EKS := Lib.hid hKS
      clear hMD hMC hKS HKE
      generalize (if MC = [] then (0 : Int) else 75) = E at *
      obtain ⟨c0, c1, c2, c3, c4, c5⟩ := Q5.out.cells
      go_wp2_with fail
      refine (M1.out _ Q5.out).mono ?_
      rintro e w6 ⟨s6, ao6, cap6, rfl, n6, l6, k6⟩
      have Q6 := Lib.hid (Q5.out.keep k6); have N6 := Lib.hid n6; have L6 := Lib.hid l6
      clear n6 l6 k6 c0 c1 c2 c3 c4 c5
      have KL := Lib.hid ((Kept.refl (fun _ => False) w6).alloc (.cells #[.slice (X 0).ao (X 0).es.length (X 0).cap, .slice (X 1).ao (X 1).es.length (X 1).cap, .slice (X 2).ao (X 2).es.length (X 2).cap] 22))
      have HLS : Ls (w6.alloc (.cells #[.slice (X 0).ao (X 0).es.length (X 0).cap, .slice (X 1).ao (X 1).es.length (X 1).cap, .slice (X 2).ao (X 2).es.length (X 2).cap] 22)) (w6.heap.size + 1) (some ⟨w6.heap.size, 0, none⟩) [X 0, X 1, X 2] := by
        refine ⟨fun _ => ⟨w6.heap.size, 0, rfl, by omega, fun j hj => ?_⟩, fun s hs => ?_⟩
        · have h0 := fun j => World.cell?_alloc_new w6 #[.slice (X 0).ao (X 0).es.length (X 0).cap, .slice (X 1).ao (X 1).es.length (X 1).cap, .slice (X 2).ao (X 2).es.length (X 2).cap] 22 j
          have hj3 : j = 0 ∨ j = 1 ∨ j = 2 := by simp at hj; omega
          rcases hj3 with rfl | rfl | rfl
          · exact h0 0
          · exact h0 1
          · exact h0 2
        · simp only [List.mem_cons, List.not_mem_nil, or_false] at hs
          rcases hs with rfl | rfl | rfl
          · exact ((Q6.out.rl 0 (by omega)).ds.keep KL.out).mono (Nat.le_succ w6.heap.size)
          · exact ((Q6.out.rl 1 (by omega)).ds.keep KL.out).mono (Nat.le_succ w6.heap.size)
          · exact ((Q6.out.rl 2 (by omega)).ds.keep KL.out).mono (Nat.le_succ w6.heap.size)
      have hfl : flatS [X 0, X 1, X 2] = (X 0).es ++ (X 1).es ++ (X 2).es := by simp [flatS]
      have HKY := Lib.hid (rkeys10_any (some ⟨w6.heap.size, 0, none⟩) 3 [X 0, X 1, X 2] _ _ (by rw [World.size_alloc]; omega) HLS (fun e he => by
        rw [hfl] at he
        simp only [List.mem_append] at he
        rcases he with (h | h) | h
        · exact (Q6.out.rl 0 (by omega)).len e h
        · exact (Q6.out.rl 1 (by omega)).len e h
        · exact (Q6.out.rl 2 (by omega)).len e h) (by rw [hfl]; have h3 := HL.out 0 (by omega); have h4 := HL.out 1 (by omega); have h5 := HL.out 2 (by omega); simp only [List.length_append]; omega) (by simp))
      have hkk : keysL (dds (flatS [X 0, X 1, X 2])) = KS := by
        rw [hfl, ← EKS.out]
        simp [keys3, dds]
      rw [hkk] at HKY
      clear HLS hfl hkk
      obtain ⟨c0, c1, c2, c3, c4, c5⟩ := Q6.out.cells
      go_wp2_with fail
      refine HKY.out.mono ?_
      rintro e w7 ⟨ka, kc, rfl, hks, k7⟩
      have K7 := Lib.hid (KL.out.trans k7 (fun _ _ h => h))
      have Q7 := Lib.hid (Q6.out.keep K7.out); have N7 := Lib.hid (N6.out.keep K7.out)
      have L7 := Lib.hid ((L6.out.kept K7.out (fun _ _ _ h => h)).mono K7.out.size); have HKS := Lib.hid hks
      clear hks k7 c0 c1 c2 c3 c4 c5 HKY
      have HGT := Lib.hid (fun (key : List UInt8) (hk : key.length ≤ maxLen) (wx : World) (h : Kept (fun _ => False) w7 wx) => sgetN_any (N7.out.keep h) key hk)
      have HG0 := Lib.hid (fun (key : List UInt8) (wx : World) (h : Kept (fun _ => False) w7 wx) => rget_any (X 0).ao (X 0).cap (X 0).es key wx.heap.size wx (Nat.le_refl _) (((Q7.out.keep h).rl 0 (by omega)).ds) ((Q7.out.rl 0 (by omega)).len) (by have := HL.out 0 (by omega); omega) ((Q7.out.rl 0 (by omega)).rise))
      have HG1 := Lib.hid (fun (key : List UInt8) (wx : World) (h : Kept (fun _ => False) w7 wx) => rget_any (X 1).ao (X 1).cap (X 1).es key wx.heap.size wx (Nat.le_refl _) (((Q7.out.keep h).rl 1 (by omega)).ds) ((Q7.out.rl 1 (by omega)).len) (by have := HL.out 1 (by omega); omega) ((Q7.out.rl 1 (by omega)).rise))
      have HG2 := Lib.hid (fun (key : List UInt8) (wx : World) (h : Kept (fun _ => False) w7 wx) => rget_any (X 2).ao (X 2).cap (X 2).es key wx.heap.size wx (Nat.le_refl _) (((Q7.out.keep h).rl 2 (by omega)).ds) ((Q7.out.rl 2 (by omega)).len) (by have := HL.out 2 (by omega); omega) ((Q7.out.rl 2 (by omega)).rise))
      have HCX := Lib.hid (fun (wx : World) (h : Kept (fun _ => False) w7 wx) => (Q7.out.keep h).cells)
      obtain ⟨i0, hinf, hz0, hz1, hz2⟩ := info_parts Tryz.infoDef
      go_wp2
      go_loopg [10, 11] KS.length (fun m v1 v2 wr => ∃ j, m = KS.length - j ∧ j ≤ KS.length ∧ v1 = .int .i64 (cntM KS MD j : Int) ∧ v2 = .int .i64 (j : Int) ∧ Kept (fun _ => False) w7 wr)
      case atStart => exact ⟨0, rfl, Nat.zero_le _, rfl, rfl, Kept.refl _ _⟩
      case round =>
        obtain ⟨j, hk, hj, rfl, rfl, hw⟩ := hrel
        have HK := Lib.hid hk; have HW := Lib.hid hw
        clear hk hw
        have hksl := HKSL.out
        by_cases hlt : j < KS.length
        · obtain ⟨b0, o0, rfl, hb0, hc0⟩ := HKS.out (by intro h; simp [strs] at h; rw [h] at hlt; simp at hlt)
          have HKC := Lib.hid (show ∀ wx, Kept (fun _ => False) w7 wx → wx.cell? ⟨b0, o0 + j, none⟩ = some (.string (bs KS[j])) from fun wx h => (h.cell (p := ⟨b0, o0 + j, none⟩) hb0 (fun h => h)).trans (hc0 j (.string (bs KS[j])) (by simp [strs, hlt])))
          have HKKL := Lib.hid (HKL.out KS[j] (List.getElem_mem hlt))
          have HCS := Lib.hid (cntM_succ (m := MD) hlt)
          have HCLE := Lib.hid (cntM_le KS MD (j + 1))
          have i1 : (j : Int) < (KS.length : Int) := by omega
          clear hc0
          generalize KS[j] = kk at *
          generalize cntM KS MD j = cn at *
          have HA := Lib.hid (HGT.out kk HKKL.out)
          have hkc := HKC.out _ HW.out
          go_wp2_with fail
          refine (HA.out _ HW.out).mono ?_
          rintro e w8 ⟨d, dao, dcap, there, rfl, hlies, hdc, k8, hget⟩
          have K8 := Lib.hid (HW.out.trans k8 (fun _ _ h => h)); have HGE := Lib.hid hget; have HLI := Lib.hid (show Lies w8 w8.heap.size dao (strs d.vs) ∧ d.vs.length ≤ dcap from ⟨hlies, hdc⟩)
          clear k8 hget hlies hdc hkc
          unfold valE
          have KD := Lib.hid ((Kept.refl (fun _ => False) w8).alloc (.cells #[.int .i64 d.k, .string (bs d.c), .string (bs d.p), .slice dao d.vs.length dcap, .string (bs d.s), .string (bs d.t)] 43))
          have HCN := Lib.hid (show cn + (getK keyD kk MD).length ≤ 500 by have h1 := HCLE.out; have h2 := HCS.out; have h3 := HALL.out; have h4 := HML.out; omega)
          have hcn : cn ≤ 500 := by have := HCN.out; omega
          go_upto_if 74 with fail
          go_cut [10, 14] (fun v1 v2 wx => ∃ g : SD, v1 = .int .i64 ((cn + g.es.length : Nat) : Int) ∧ v2 = .slice g.ao g.es.length g.cap ∧ dds g.es = getK keyD kk MD ∧ SDs wx wx.heap.size g ∧ Kept (fun _ => False) w7 wx)
          case first =>
            cases there with
            | false =>
              go_wp2
              go_meet
              exact ⟨⟨none, 0, []⟩, rfl, rfl, HGE.out.symm, SDs.nil _ _ _ _, K8.out.trans KD.out (fun _ _ h => h)⟩
            | true =>
              go_wp2_with (at_builtin; refine wpList_app _ rfl (.tmp 77) (.tmp 79) 22 22 rfl 43 i0 (.agg #[.int .i64 0, .string ⟨#[]⟩, .string ⟨#[]⟩, .slice none 0 0, .string ⟨#[]⟩, .string ⟨#[]⟩]) 6 96 Tryz.underlying22 hinf hz0 hz1 hz2 rfl (.slice none 0 0) 0 [] rfl (World.ownsRow_nil _ _ _ _) (.slice (some ⟨w8.heap.size + 1, 0, none⟩) 1 1) 1 (cellsE1 (d, dao, dcap)) rfl ?src ?b1 ?b2 ?next)
              case src =>
                have h := src_def (w8.alloc (.cells #[.int .i64 d.k, .string (bs d.c), .string (bs d.p), .slice dao d.vs.length dcap, .string (bs d.s), .string (bs d.t)] 43)) (d, dao, dcap) 43
                rw [World.size_alloc] at h
                exact h
              case b1 => decide
              case next =>
                intro v' w9 ho9 hg9 hb9 _
                have k9 := (K8.out.trans KD.out (fun _ _ h => h)).trans ((((Kept.refl (fun _ => False) _).alloc _).grown hg9 (fun k hk _ => by cases hk)) : Kept (fun _ => False) (w8.alloc (.cells #[.int .i64 d.k, .string (bs d.c), .string (bs d.p), .slice dao d.vs.length dcap, .string (bs d.s), .string (bs d.t)] 43)) w9) (fun _ _ h => h)
                have k89 := KD.out.trans ((((Kept.refl (fun _ => False) _).alloc _).grown hg9 (fun k hk _ => by cases hk)) : Kept (fun _ => False) (w8.alloc (.cells #[.int .i64 d.k, .string (bs d.c), .string (bs d.p), .slice dao d.vs.length dcap, .string (bs d.s), .string (bs d.t)] 43)) w9) (fun _ _ h => h)
                obtain ⟨ao9, cap9, rfl⟩ := owns_slice ho9
                have K9 := Lib.hid k9
                have S9 := Lib.hid (show SDs w9 w9.heap.size ⟨ao9, cap9, [(d, dao, dcap)]⟩ from ⟨owns_ds (es := [(d, dao, dcap)]) (by simpa [cellsE] using ho9) (fun e he => by
                  rw [List.mem_singleton] at he
                  subst he
                  exact ⟨(HLI.out.1.kept k89 (fun _ _ _ h => h)).mono k89.size, HLI.out.2⟩), owns_cap ho9⟩)
                clear ho9 hg9 hb9 k9 k89
                go_wp2
                go_meet
                exact ⟨⟨ao9, cap9, [(d, dao, dcap)]⟩, by simp, rfl, HGE.out.symm, S9.out, K9.out⟩
          case rest =>
            obtain ⟨g, rfl, rfl, hg, hsg, hkw⟩ := hcut
            have HG := Lib.hid hg; have HSG := Lib.hid hsg; have KW := Lib.hid hkw
            clear hg hsg hkw KD K8 HLI
            obtain ⟨wo, rfl⟩ : ∃ wo, wo = wc := ⟨wc, rfl⟩
            have hcn2 : cn + g.es.length ≤ 500 := by have := HCN.out; rw [← HG.out, dds_len] at this; exact this
            have hmcl := HCL.out
            go_wp2
            go_loopg [15, 16] MC.length (fun m v1 v2 wr => ∃ i, m = MC.length - i ∧ i ≤ MC.length ∧ v1 = .bool (isIn kk MC i) ∧ v2 = .int .i64 (i : Int) ∧ Kept (fun _ => False) wo wr)
            case atStart => exact ⟨0, rfl, Nat.zero_le _, rfl, rfl, Kept.refl _ _⟩
            case round =>
              obtain ⟨i, hk, hi, rfl, rfl, hw⟩ := hrel
              have HK2 := Lib.hid hk; have HW2 := Lib.hid hw
              clear hk hw
              by_cases hlt2 : i < MC.length
              · obtain ⟨b1, o1, rfl, hb1, hc1⟩ := L7.out (by intro h; simp [strs] at h; rw [h] at hlt2; simp at hlt2)
                have KX := Lib.hid ((KW.out.trans HW2.out (fun _ _ h => h)).trans (Kept.drew (Kept.refl (fun _ => False) wr)) (fun _ _ h => h))
                have hSw : (fun w' : World => w'.cell? ⟨b1, o1 + i, none⟩ = some (.string (bs MC[i])) ∧ w'.cell? ⟨b0, o0 + j, none⟩ = some (.string (bs kk))) wr.drew := ⟨(KX.out.cell (p := ⟨b1, o1 + i, none⟩) hb1 (fun h => h)).trans (hc1 i (.string (bs MC[i])) (by simp [strs, hlt2])), HKC.out _ KX.out⟩
                have HIS := Lib.hid (isIn_succ (k := kk) hlt2)
                have i2 : (i : Int) < (MC.length : Int) := by omega
                have z1 := bs_list MC[i]; have z2 := bs_list kk
                clear hc1
                generalize MC[i] = mk at *
                cases hc : isIn kk MC i with
                | true =>
                  have HX := Lib.hid (show isIn kk MC (i + 1) = true by rw [HIS.out, hc]; rfl)
                  clear hc
                  go_upto_region 23 with fail
                  refine wp_region_held_drew (S := (fun w' => w'.cell? ⟨b1, o1 + i, none⟩ = some (.string (bs mk)) ∧ w'.cell? ⟨b0, o0 + j, none⟩ = some (.string (bs kk)))) (by kernel_rfl) (hSw) (fun hHeld => ?_)
                  refine wpAnyH_take (i := 0) (oi := { dst := some 87, op := _, type := _, pos := _, after := _, guard := none }) (v := .bool true) rfl (by kernel_rfl) (by kernel_rfl) (by kernel_rfl) (fun _ _ _ h => h) (Or.inl ⟨by rfl, by intro w hSw; (try dsimp only at hSw); go_simp⟩) hHeld ?_; simp only [Act.put, List.setIfInBounds_toArray, List.set_cons_zero, List.set_cons_succ]
                  refine wpAnyH_take (i := 1) (oi := { dst := some 88, op := _, type := _, pos := _, after := _, guard := none }) (v := .bool true) rfl (by kernel_rfl) (by kernel_rfl) (by kernel_rfl) (fun _ _ _ h => h) (Or.inl ⟨by rfl, by intro w hSw; (try dsimp only at hSw); go_simp⟩) hHeld ?_; simp only [Act.put, List.setIfInBounds_toArray, List.set_cons_zero, List.set_cons_succ]
                  refine wpAnyH_take (i := 2) (oi := { dst := some 89, op := _, type := _, pos := _, after := _, guard := some (1, false) }) (v := undef) rfl (by kernel_rfl) (by kernel_rfl) (by kernel_rfl) (fun _ _ _ h => h) (Or.inr ⟨by rfl, rfl⟩) hHeld ?_; simp only [Act.put, List.setIfInBounds_toArray, List.set_cons_zero, List.set_cons_succ]
                  refine wpAnyH_take (i := 3) (oi := { dst := some 90, op := _, type := _, pos := _, after := _, guard := some (1, false) }) (v := undef) rfl (by kernel_rfl) (by kernel_rfl) (by kernel_rfl) (fun _ _ _ h => h) (Or.inr ⟨by rfl, rfl⟩) hHeld ?_; simp only [Act.put, List.setIfInBounds_toArray, List.set_cons_zero, List.set_cons_succ]
                  refine wpAnyH_take (i := 4) (oi := { dst := some 91, op := _, type := _, pos := _, after := _, guard := some (1, false) }) (v := undef) rfl (by kernel_rfl) (by kernel_rfl) (by kernel_rfl) (fun _ _ _ h => h) (Or.inr ⟨by rfl, rfl⟩) hHeld ?_; simp only [Act.put, List.setIfInBounds_toArray, List.set_cons_zero, List.set_cons_succ]
                  refine wpAnyH_take (i := 5) (oi := { dst := some 92, op := _, type := _, pos := _, after := _, guard := some (1, false) }) (v := undef) rfl (by kernel_rfl) (by kernel_rfl) (by kernel_rfl) (fun _ _ _ h => h) (Or.inr ⟨by rfl, rfl⟩) hHeld ?_; simp only [Act.put, List.setIfInBounds_toArray, List.set_cons_zero, List.set_cons_succ]
                  refine wpAnyH_take (i := 6) (oi := { dst := some 93, op := _, type := _, pos := _, after := _, guard := some (1, false) }) (v := undef) rfl (by kernel_rfl) (by kernel_rfl) (by kernel_rfl) (fun _ _ _ h => h) (Or.inr ⟨by rfl, rfl⟩) hHeld ?_; simp only [Act.put, List.setIfInBounds_toArray, List.set_cons_zero, List.set_cons_succ]
                  refine wpAnyH_take (i := 7) (oi := { dst := some 94, op := _, type := _, pos := _, after := _, guard := some (1, false) }) (v := undef) rfl (by kernel_rfl) (by kernel_rfl) (by kernel_rfl) (fun _ _ _ h => h) (Or.inr ⟨by rfl, rfl⟩) hHeld ?_; simp only [Act.put, List.setIfInBounds_toArray, List.set_cons_zero, List.set_cons_succ]
                  refine wpAnyH_take (i := 8) (oi := { dst := some 95, op := _, type := _, pos := _, after := _, guard := some (1, false) }) (v := undef) rfl (by kernel_rfl) (by kernel_rfl) (by kernel_rfl) (fun _ _ _ h => h) (Or.inr ⟨by rfl, rfl⟩) hHeld ?_; simp only [Act.put, List.setIfInBounds_toArray, List.set_cons_zero, List.set_cons_succ]
                  refine wpAnyH_take (i := 9) (oi := { dst := some 96, op := _, type := _, pos := _, after := _, guard := some (1, false) }) (v := undef) rfl (by kernel_rfl) (by kernel_rfl) (by kernel_rfl) (fun _ _ _ h => h) (Or.inr ⟨by rfl, rfl⟩) hHeld ?_; simp only [Act.put, List.setIfInBounds_toArray, List.set_cons_zero, List.set_cons_succ]
                  refine wpAnyH_take (i := 10) (oi := { dst := some 97, op := _, type := _, pos := _, after := _, guard := some (1, false) }) (v := undef) rfl (by kernel_rfl) (by kernel_rfl) (by kernel_rfl) (fun _ _ _ h => h) (Or.inr ⟨by rfl, rfl⟩) hHeld ?_; simp only [Act.put, List.setIfInBounds_toArray, List.set_cons_zero, List.set_cons_succ]
                  refine wpAnyH_take (i := 11) (oi := { dst := some 98, op := _, type := _, pos := _, after := _, guard := none }) (v := .bool true) rfl (by kernel_rfl) (by kernel_rfl) (by kernel_rfl) (fun _ _ _ h => h) (Or.inl ⟨by rfl, by intro w hSw; (try dsimp only at hSw); go_simp⟩) hHeld ?_; simp only [Act.put, List.setIfInBounds_toArray, List.set_cons_zero, List.set_cons_succ]
                  refine wpAnyH_take (i := 12) (oi := { dst := some 15, op := _, type := _, pos := _, after := _, guard := none }) (v := .bool true) rfl (by kernel_rfl) (by kernel_rfl) (by kernel_rfl) (fun _ _ _ h => h) (Or.inl ⟨by rfl, by intro w hSw; (try dsimp only at hSw); go_simp⟩) hHeld ?_; simp only [Act.put, List.setIfInBounds_toArray, List.set_cons_zero, List.set_cons_succ]
                  refine wpAnyH_done (by kernel_rfl) ?_ _
                  go_wp2
                  go_roundg (MC.length - (i + 1))
                  case measure => have := HK2.out; omega
                  case rel => exact ⟨i + 1, rfl, by omega, by rw [HX.out], by go_num, HW2.out.trans (Kept.drew (Kept.refl (fun _ => False) wr)) (fun _ _ h => h)⟩
                | false =>
                  cases hq : (mk == kk) with
                  | true =>
                    have HX := Lib.hid (show isIn kk MC (i + 1) = true by rw [HIS.out, hc, hq]; rfl)
                    clear hc
                    go_upto_region 23 with fail
                    refine wp_region_held_drew (S := (fun w' => w'.cell? ⟨b1, o1 + i, none⟩ = some (.string (bs mk)) ∧ w'.cell? ⟨b0, o0 + j, none⟩ = some (.string (bs kk)))) (by kernel_rfl) (hSw) (fun hHeld => ?_)
                    refine wpAnyH_take (i := 0) (oi := { dst := some 87, op := _, type := _, pos := _, after := _, guard := none }) (v := .bool false) rfl (by kernel_rfl) (by kernel_rfl) (by kernel_rfl) (fun _ _ _ h => h) (Or.inl ⟨by rfl, by intro w hSw; (try dsimp only at hSw); go_simp⟩) hHeld ?_; simp only [Act.put, List.setIfInBounds_toArray, List.set_cons_zero, List.set_cons_succ]
                    refine wpAnyH_take (i := 1) (oi := { dst := some 88, op := _, type := _, pos := _, after := _, guard := none }) (v := .bool false) rfl (by kernel_rfl) (by kernel_rfl) (by kernel_rfl) (fun _ _ _ h => h) (Or.inl ⟨by rfl, by intro w hSw; (try dsimp only at hSw); go_simp⟩) hHeld ?_; simp only [Act.put, List.setIfInBounds_toArray, List.set_cons_zero, List.set_cons_succ]
                    refine wpAnyH_take (i := 2) (oi := { dst := some 89, op := _, type := _, pos := _, after := _, guard := some (1, false) }) (v := .slice (some ⟨b1, o1, none⟩) MC.length cap6) rfl (by kernel_rfl) (by kernel_rfl) (by kernel_rfl) (fun _ _ _ h => h) (Or.inl ⟨by rfl, by intro w hSw; (try dsimp only at hSw); go_simp⟩) hHeld ?_; simp only [Act.put, List.setIfInBounds_toArray, List.set_cons_zero, List.set_cons_succ]
                    refine wpAnyH_take (i := 3) (oi := { dst := some 90, op := _, type := _, pos := _, after := _, guard := some (1, false) }) (v := .int .i64 (i : Int)) rfl (by kernel_rfl) (by kernel_rfl) (by kernel_rfl) (fun _ _ _ h => h) (Or.inl ⟨by rfl, by intro w hSw; (try dsimp only at hSw); go_simp⟩) hHeld ?_; simp only [Act.put, List.setIfInBounds_toArray, List.set_cons_zero, List.set_cons_succ]
                    refine wpAnyH_take (i := 4) (oi := { dst := some 91, op := _, type := _, pos := _, after := _, guard := some (1, false) }) (v := .pointer (some ⟨b1, o1 + i, none⟩)) rfl (by kernel_rfl) (by kernel_rfl) (by kernel_rfl) (fun _ _ _ h => h) (Or.inl ⟨by rfl, by intro w hSw; (try dsimp only at hSw); go_simp⟩) hHeld ?_; simp only [Act.put, List.setIfInBounds_toArray, List.set_cons_zero, List.set_cons_succ]
                    refine wpAnyH_take (i := 5) (oi := { dst := some 92, op := _, type := _, pos := _, after := _, guard := some (1, false) }) (v := .string (bs mk)) rfl (by kernel_rfl) (by kernel_rfl) (by kernel_rfl) (fun _ _ _ h => h) (Or.inl ⟨by rfl, by intro w hSw; (try dsimp only at hSw); go_simp⟩) hHeld ?_; simp only [Act.put, List.setIfInBounds_toArray, List.set_cons_zero, List.set_cons_succ]
                    refine wpAnyH_take (i := 6) (oi := { dst := some 93, op := _, type := _, pos := _, after := _, guard := some (1, false) }) (v := .slice (some ⟨b0, o0, none⟩) KS.length kc) rfl (by kernel_rfl) (by kernel_rfl) (by kernel_rfl) (fun _ _ _ h => h) (Or.inl ⟨by rfl, by intro w hSw; (try dsimp only at hSw); go_simp⟩) hHeld ?_; simp only [Act.put, List.setIfInBounds_toArray, List.set_cons_zero, List.set_cons_succ]
                    refine wpAnyH_take (i := 7) (oi := { dst := some 94, op := _, type := _, pos := _, after := _, guard := some (1, false) }) (v := .int .i64 (j : Int)) rfl (by kernel_rfl) (by kernel_rfl) (by kernel_rfl) (fun _ _ _ h => h) (Or.inl ⟨by rfl, by intro w hSw; (try dsimp only at hSw); go_simp⟩) hHeld ?_; simp only [Act.put, List.setIfInBounds_toArray, List.set_cons_zero, List.set_cons_succ]
                    refine wpAnyH_take (i := 8) (oi := { dst := some 95, op := _, type := _, pos := _, after := _, guard := some (1, false) }) (v := .pointer (some ⟨b0, o0 + j, none⟩)) rfl (by kernel_rfl) (by kernel_rfl) (by kernel_rfl) (fun _ _ _ h => h) (Or.inl ⟨by rfl, by intro w hSw; (try dsimp only at hSw); go_simp⟩) hHeld ?_; simp only [Act.put, List.setIfInBounds_toArray, List.set_cons_zero, List.set_cons_succ]
                    refine wpAnyH_take (i := 9) (oi := { dst := some 96, op := _, type := _, pos := _, after := _, guard := some (1, false) }) (v := .string (bs kk)) rfl (by kernel_rfl) (by kernel_rfl) (by kernel_rfl) (fun _ _ _ h => h) (Or.inl ⟨by rfl, by intro w hSw; (try dsimp only at hSw); go_simp⟩) hHeld ?_; simp only [Act.put, List.setIfInBounds_toArray, List.set_cons_zero, List.set_cons_succ]
                    refine wpAnyH_take (i := 10) (oi := { dst := some 97, op := _, type := _, pos := _, after := _, guard := some (1, false) }) (v := .bool true) rfl (by kernel_rfl) (by kernel_rfl) (by kernel_rfl) (fun _ _ _ h => h) (Or.inl ⟨by rfl, by intro w hSw; (try dsimp only at hSw); go_simp⟩) hHeld ?_; simp only [Act.put, List.setIfInBounds_toArray, List.set_cons_zero, List.set_cons_succ]
                    refine wpAnyH_take (i := 11) (oi := { dst := some 98, op := _, type := _, pos := _, after := _, guard := none }) (v := .bool true) rfl (by kernel_rfl) (by kernel_rfl) (by kernel_rfl) (fun _ _ _ h => h) (Or.inl ⟨by rfl, by intro w hSw; (try dsimp only at hSw); go_simp⟩) hHeld ?_; simp only [Act.put, List.setIfInBounds_toArray, List.set_cons_zero, List.set_cons_succ]
                    refine wpAnyH_take (i := 12) (oi := { dst := some 15, op := _, type := _, pos := _, after := _, guard := none }) (v := .bool true) rfl (by kernel_rfl) (by kernel_rfl) (by kernel_rfl) (fun _ _ _ h => h) (Or.inl ⟨by rfl, by intro w hSw; (try dsimp only at hSw); go_simp⟩) hHeld ?_; simp only [Act.put, List.setIfInBounds_toArray, List.set_cons_zero, List.set_cons_succ]
                    refine wpAnyH_done (by kernel_rfl) ?_ _
                    go_wp2
                    go_roundg (MC.length - (i + 1))
                    case measure => have := HK2.out; omega
                    case rel => exact ⟨i + 1, rfl, by omega, by rw [HX.out], by go_num, HW2.out.trans (Kept.drew (Kept.refl (fun _ => False) wr)) (fun _ _ h => h)⟩
                  | false =>
                    have HX := Lib.hid (show isIn kk MC (i + 1) = false by rw [HIS.out, hc, hq]; rfl)
                    clear hc
                    go_upto_region 23 with fail
                    refine wp_region_held_drew (S := (fun w' => w'.cell? ⟨b1, o1 + i, none⟩ = some (.string (bs mk)) ∧ w'.cell? ⟨b0, o0 + j, none⟩ = some (.string (bs kk)))) (by kernel_rfl) (hSw) (fun hHeld => ?_)
                    refine wpAnyH_take (i := 0) (oi := { dst := some 87, op := _, type := _, pos := _, after := _, guard := none }) (v := .bool false) rfl (by kernel_rfl) (by kernel_rfl) (by kernel_rfl) (fun _ _ _ h => h) (Or.inl ⟨by rfl, by intro w hSw; (try dsimp only at hSw); go_simp⟩) hHeld ?_; simp only [Act.put, List.setIfInBounds_toArray, List.set_cons_zero, List.set_cons_succ]
                    refine wpAnyH_take (i := 1) (oi := { dst := some 88, op := _, type := _, pos := _, after := _, guard := none }) (v := .bool false) rfl (by kernel_rfl) (by kernel_rfl) (by kernel_rfl) (fun _ _ _ h => h) (Or.inl ⟨by rfl, by intro w hSw; (try dsimp only at hSw); go_simp⟩) hHeld ?_; simp only [Act.put, List.setIfInBounds_toArray, List.set_cons_zero, List.set_cons_succ]
                    refine wpAnyH_take (i := 2) (oi := { dst := some 89, op := _, type := _, pos := _, after := _, guard := some (1, false) }) (v := .slice (some ⟨b1, o1, none⟩) MC.length cap6) rfl (by kernel_rfl) (by kernel_rfl) (by kernel_rfl) (fun _ _ _ h => h) (Or.inl ⟨by rfl, by intro w hSw; (try dsimp only at hSw); go_simp⟩) hHeld ?_; simp only [Act.put, List.setIfInBounds_toArray, List.set_cons_zero, List.set_cons_succ]
                    refine wpAnyH_take (i := 3) (oi := { dst := some 90, op := _, type := _, pos := _, after := _, guard := some (1, false) }) (v := .int .i64 (i : Int)) rfl (by kernel_rfl) (by kernel_rfl) (by kernel_rfl) (fun _ _ _ h => h) (Or.inl ⟨by rfl, by intro w hSw; (try dsimp only at hSw); go_simp⟩) hHeld ?_; simp only [Act.put, List.setIfInBounds_toArray, List.set_cons_zero, List.set_cons_succ]
                    refine wpAnyH_take (i := 4) (oi := { dst := some 91, op := _, type := _, pos := _, after := _, guard := some (1, false) }) (v := .pointer (some ⟨b1, o1 + i, none⟩)) rfl (by kernel_rfl) (by kernel_rfl) (by kernel_rfl) (fun _ _ _ h => h) (Or.inl ⟨by rfl, by intro w hSw; (try dsimp only at hSw); go_simp⟩) hHeld ?_; simp only [Act.put, List.setIfInBounds_toArray, List.set_cons_zero, List.set_cons_succ]
                    refine wpAnyH_take (i := 5) (oi := { dst := some 92, op := _, type := _, pos := _, after := _, guard := some (1, false) }) (v := .string (bs mk)) rfl (by kernel_rfl) (by kernel_rfl) (by kernel_rfl) (fun _ _ _ h => h) (Or.inl ⟨by rfl, by intro w hSw; (try dsimp only at hSw); go_simp⟩) hHeld ?_; simp only [Act.put, List.setIfInBounds_toArray, List.set_cons_zero, List.set_cons_succ]
                    refine wpAnyH_take (i := 6) (oi := { dst := some 93, op := _, type := _, pos := _, after := _, guard := some (1, false) }) (v := .slice (some ⟨b0, o0, none⟩) KS.length kc) rfl (by kernel_rfl) (by kernel_rfl) (by kernel_rfl) (fun _ _ _ h => h) (Or.inl ⟨by rfl, by intro w hSw; (try dsimp only at hSw); go_simp⟩) hHeld ?_; simp only [Act.put, List.setIfInBounds_toArray, List.set_cons_zero, List.set_cons_succ]
                    refine wpAnyH_take (i := 7) (oi := { dst := some 94, op := _, type := _, pos := _, after := _, guard := some (1, false) }) (v := .int .i64 (j : Int)) rfl (by kernel_rfl) (by kernel_rfl) (by kernel_rfl) (fun _ _ _ h => h) (Or.inl ⟨by rfl, by intro w hSw; (try dsimp only at hSw); go_simp⟩) hHeld ?_; simp only [Act.put, List.setIfInBounds_toArray, List.set_cons_zero, List.set_cons_succ]
                    refine wpAnyH_take (i := 8) (oi := { dst := some 95, op := _, type := _, pos := _, after := _, guard := some (1, false) }) (v := .pointer (some ⟨b0, o0 + j, none⟩)) rfl (by kernel_rfl) (by kernel_rfl) (by kernel_rfl) (fun _ _ _ h => h) (Or.inl ⟨by rfl, by intro w hSw; (try dsimp only at hSw); go_simp⟩) hHeld ?_; simp only [Act.put, List.setIfInBounds_toArray, List.set_cons_zero, List.set_cons_succ]
                    refine wpAnyH_take (i := 9) (oi := { dst := some 96, op := _, type := _, pos := _, after := _, guard := some (1, false) }) (v := .string (bs kk)) rfl (by kernel_rfl) (by kernel_rfl) (by kernel_rfl) (fun _ _ _ h => h) (Or.inl ⟨by rfl, by intro w hSw; (try dsimp only at hSw); go_simp⟩) hHeld ?_; simp only [Act.put, List.setIfInBounds_toArray, List.set_cons_zero, List.set_cons_succ]
                    refine wpAnyH_take (i := 10) (oi := { dst := some 97, op := _, type := _, pos := _, after := _, guard := some (1, false) }) (v := .bool false) rfl (by kernel_rfl) (by kernel_rfl) (by kernel_rfl) (fun _ _ _ h => h) (Or.inl ⟨by rfl, by intro w hSw; (try dsimp only at hSw); go_simp⟩) hHeld ?_; simp only [Act.put, List.setIfInBounds_toArray, List.set_cons_zero, List.set_cons_succ]
                    refine wpAnyH_take (i := 11) (oi := { dst := some 98, op := _, type := _, pos := _, after := _, guard := none }) (v := .bool false) rfl (by kernel_rfl) (by kernel_rfl) (by kernel_rfl) (fun _ _ _ h => h) (Or.inl ⟨by rfl, by intro w hSw; (try dsimp only at hSw); go_simp⟩) hHeld ?_; simp only [Act.put, List.setIfInBounds_toArray, List.set_cons_zero, List.set_cons_succ]
                    refine wpAnyH_take (i := 12) (oi := { dst := some 15, op := _, type := _, pos := _, after := _, guard := none }) (v := .bool false) rfl (by kernel_rfl) (by kernel_rfl) (by kernel_rfl) (fun _ _ _ h => h) (Or.inl ⟨by rfl, by intro w hSw; (try dsimp only at hSw); go_simp⟩) hHeld ?_; simp only [Act.put, List.setIfInBounds_toArray, List.set_cons_zero, List.set_cons_succ]
                    refine wpAnyH_done (by kernel_rfl) ?_ _
                    go_wp2
                    go_roundg (MC.length - (i + 1))
                    case measure => have := HK2.out; omega
                    case rel => exact ⟨i + 1, rfl, by omega, by rw [HX.out], by go_num, HW2.out.trans (Kept.drew (Kept.refl (fun _ => False) wr)) (fun _ _ h => h)⟩
              · obtain rfl : i = MC.length := by omega
                rw [isIn_all]
                have K10 := Lib.hid (KW.out.trans HW2.out (fun _ _ h => h))
                have S10 := Lib.hid ((HSG.out.keep HW2.out).mono HW2.out.size)
                clear HW2 hlt2 HSG HK2
                have KE := Lib.hid (K10.out.trans (Kept.drew (Kept.refl (fun _ => False) wr)) (fun _ _ h => h))
                have HGA := Lib.hid (HG0.out kk); have HGB := Lib.hid (HG1.out kk); have HGC := Lib.hid (HG2.out kk)
                have HSS := Lib.hid (fun (wx : World) (h : Kept (fun _ => False) w7 wx) => show (fun w' : World => w'.cell? ⟨w5.heap.size + 1, 0, none⟩ = some (.slice (X 0).ao (X 0).es.length (X 0).cap) ∧ w'.cell? ⟨w5.heap.size + 1, 1, none⟩ = some (.slice (X 1).ao (X 1).es.length (X 1).cap) ∧ w'.cell? ⟨w5.heap.size + 1, 2, none⟩ = some (.slice (X 2).ao (X 2).es.length (X 2).cap) ∧ w'.cell? ⟨b0, o0 + j, none⟩ = some (.string (bs kk))) wx from ⟨(HCX.out _ h).2.2.2.1, (HCX.out _ h).2.2.2.2.1, (HCX.out _ h).2.2.2.2.2, HKC.out _ h⟩)
                have EA := Lib.hid (dds_getK kk (X 0).es); have EB := Lib.hid (dds_getK kk (X 1).es); have EC := Lib.hid (dds_getK kk (X 2).es)
                have VA := Lib.hid (fun (e : Ent) (he : e ∈ getK keyE kk (X 0).es) => ((Q7.out.rl 0 (by omega)).len e (mem_getK.1 he).1).n)
                have VB := Lib.hid (fun (e : Ent) (he : e ∈ getK keyE kk (X 1).es) => ((Q7.out.rl 1 (by omega)).len e (mem_getK.1 he).1).n)
                have VC := Lib.hid (fun (e : Ent) (he : e ∈ getK keyE kk (X 2).es) => ((Q7.out.rl 2 (by omega)).len e (mem_getK.1 he).1).n)
                have NA := Lib.hid (getK_len (Q7.out.rl 0 (by omega)).rise kk); have NB := Lib.hid (getK_len (Q7.out.rl 1 (by omega)).rise kk); have NC := Lib.hid (getK_len (Q7.out.rl 2 (by omega)).rise kk)
                have VG := Lib.hid (right_vs HMS.out.right HG.out)
                have HMCk := Lib.hid (HMC.out kk); have HMGk := Lib.hid (HMG.out kk); have HMNk := Lib.hid (HMN.out kk)
                rw [← EA.out, ← EB.out, ← EC.out, ← HG.out] at HMGk
                rw [← EA.out, ← EB.out, ← EC.out] at HMCk
                rw [← HG.out] at HMNk HGE
                generalize getK keyE kk (X 0).es = ea at *
                generalize getK keyE kk (X 1).es = eb at *
                generalize getK keyE kk (X 2).es = ec at *
                go_upto_region 24 with fail
                have hS := HSS.out _ KE.out
                go_region_held (fun w' : World => w'.cell? ⟨w5.heap.size + 1, 0, none⟩ = some (.slice (X 0).ao (X 0).es.length (X 0).cap) ∧ w'.cell? ⟨w5.heap.size + 1, 1, none⟩ = some (.slice (X 1).ao (X 1).es.length (X 1).cap) ∧ w'.cell? ⟨w5.heap.size + 1, 2, none⟩ = some (.slice (X 2).ao (X 2).es.length (X 2).cap) ∧ w'.cell? ⟨b0, o0 + j, none⟩ = some (.string (bs kk))) (with_reducible assumption) (first
                  | (go_at_call_of 18 (Value.slice (X 0).ao (X 0).es.length (X 0).cap); refine (HGA.out _ KE.out).mono ?_; rintro e wa ⟨aa, ca, rfl, sa, -, ka⟩; have KA2 := Lib.hid (KE.out.trans ka (fun _ _ h => h)); have SA := Lib.hid sa; have hS1 := HSS.out _ KA2.out; have KG1 := Lib.hid ka; clear ka sa)
                  | (go_at_call_of 18 (Value.slice (X 1).ao (X 1).es.length (X 1).cap); refine (HGB.out _ KA2.out).mono ?_; rintro e wb ⟨ab, cb, rfl, sb, -, kb⟩; have KB2 := Lib.hid (KA2.out.trans kb (fun _ _ h => h)); have SB := Lib.hid sb; have hS2 := HSS.out _ KB2.out; have KG2 := Lib.hid kb; clear kb sb)
                  | (go_at_call_of 18 (Value.slice (X 2).ao (X 2).es.length (X 2).cap); refine (HGC.out _ KB2.out).mono ?_; rintro e wc2 ⟨ac, cc, rfl, sc, -, kc2⟩; have KC2 := Lib.hid (KB2.out.trans kc2 (fun _ _ h => h)); have SC := Lib.hid sc; have hS3 := HSS.out _ KC2.out; have KG3 := Lib.hid kc2; clear kc2 sc))
                all_goals clear hS hS1 hS2 hS3
                have SA3 := Lib.hid ((SA.out.keep (KG2.out.trans KG3.out (fun _ _ h => h))).mono (KG2.out.trans KG3.out (fun _ _ h => h)).size)
                have SB3 := Lib.hid ((SB.out.keep KG3.out).mono KG3.out.size)
                have KGG := Lib.hid (((Kept.drew (Kept.refl (fun _ => False) wr)).trans KG1.out (fun _ _ h => h)).trans (KG2.out.trans KG3.out (fun _ _ h => h)) (fun _ _ h => h))
                have SG3 := Lib.hid ((S10.out.keep KGG.out).mono KGG.out.size)
                have HAB := Lib.hid (fun (wx : World) (h : Kept (fun _ => False) wc2 wx) => rsameall_any aa ca ea ab cb eb wx.heap.size wx ((SA3.out.keep h).mono h.size).ds ((SB3.out.keep h).mono h.size).ds VA.out VB.out (by have := NA.out; omega))
                have HAC := Lib.hid (fun (wx : World) (h : Kept (fun _ => False) wc2 wx) => rsameall_any aa ca ea ac cc ec wx.heap.size wx ((SA3.out.keep h).mono h.size).ds ((SC.out.keep h).mono h.size).ds VA.out VC.out (by have := NA.out; omega))
                have HBC := Lib.hid (fun (wx : World) (h : Kept (fun _ => False) wc2 wx) => rsameall_any ab cb eb ac cc ec wx.heap.size wx ((SB3.out.keep h).mono h.size).ds ((SC.out.keep h).mono h.size).ds VB.out VC.out (by have := NB.out; omega))
                have HGa := Lib.hid (fun (wx : World) (h : Kept (fun _ => False) wc2 wx) => rsameall_any g.ao g.cap g.es aa ca ea wx.heap.size wx ((SG3.out.keep h).mono h.size).ds ((SA3.out.keep h).mono h.size).ds VG.out VA.out (by omega))
                have HGb := Lib.hid (fun (wx : World) (h : Kept (fun _ => False) wc2 wx) => rsameall_any g.ao g.cap g.es ab cb eb wx.heap.size wx ((SG3.out.keep h).mono h.size).ds ((SB3.out.keep h).mono h.size).ds VG.out VB.out (by omega))
                have HGc := Lib.hid (fun (wx : World) (h : Kept (fun _ => False) wc2 wx) => rsameall_any g.ao g.cap g.es ac cc ec wx.heap.size wx ((SG3.out.keep h).mono h.size).ds ((SC.out.keep h).mono h.size).ds VG.out VC.out (by omega))
                have FIN := Lib.hid (show cntM KS MD (j + 1) = cn + g.es.length by rw [HCS.out, ← HG.out, dds_len])
                have hs1 : sameA ea eb = decide (dds ea = dds eb) := rfl
                have hs2 : sameA ea ec = decide (dds ea = dds ec) := rfl
                have hs3 : sameA eb ec = decide (dds eb = dds ec) := rfl
                rw [hs1] at HAB; rw [hs2] at HAC; rw [hs3] at HBC
                clear hs1 hs2 hs3 KG1 KG2 KG3 HGA HGB HGC HSS SA SB
                have hga : sameA g.es ea = decide (dds g.es = dds ea) := rfl
                have hgb : sameA g.es eb = decide (dds g.es = dds eb) := rfl
                have hgc : sameA g.es ec = decide (dds g.es = dds ec) := rfl
                rw [hga] at HGa; rw [hgb] at HGb; rw [hgc] at HGc
                clear hga hgb hgc
                by_cases q1 : dds ea = dds eb
                · have hn : ¬ kk ∈ MC := fun h => (HMCk.out.1 h).1 q1
                  have hgg := HMGk.out hn
                  rw [if_pos q1] at hgg
                  rw [decide_eq_false hn]
                  rw [decide_eq_true q1] at HAB
                  rw [decide_eq_true hgg] at HGc
                  by_cases q2 : dds ea = dds ec
                  · rw [decide_eq_true q2] at HAC
                    rw [decide_eq_true (hgg.trans q2.symm)] at HGa
                    clear q1 q2 hn hgg
                    go_wp2_with fail
                    refine (HAB.out _ (Kept.refl _ _)).mono ?_
                    rintro e y1 ⟨rfl, z1⟩
                    have K1 := Lib.hid z1; clear z1
                    go_wp2_with fail
                    refine (HAC.out _ (K1.out)).mono ?_
                    rintro e y2 ⟨rfl, z2⟩
                    have K2 := Lib.hid (K1.out.trans z2 (fun _ _ h => h)); clear z2
                    go_wp2_with fail
                    refine (HGa.out _ (K2.out)).mono ?_
                    rintro e y3 ⟨rfl, z3⟩
                    have K3 := Lib.hid (K2.out.trans z3 (fun _ _ h => h)); clear z3
                    go_wp2
                    go_roundg (KS.length - (j + 1))
                    case measure => have := HK.out; omega
                    case rel => exact ⟨j + 1, rfl, by omega, by rw [FIN.out, Int.natCast_add], by go_num, KC2.out.trans K3.out (fun _ _ h => h)⟩
                  · rw [decide_eq_false q2] at HAC
                    clear q1 q2 hn hgg
                    go_wp2_with fail
                    refine (HAB.out _ (Kept.refl _ _)).mono ?_
                    rintro e y1 ⟨rfl, z1⟩
                    have K1 := Lib.hid z1; clear z1
                    go_wp2_with fail
                    refine (HAC.out _ (K1.out)).mono ?_
                    rintro e y2 ⟨rfl, z2⟩
                    have K2 := Lib.hid (K1.out.trans z2 (fun _ _ h => h)); clear z2
                    go_wp2_with fail
                    refine (HGc.out _ (K2.out)).mono ?_
                    rintro e y3 ⟨rfl, z3⟩
                    have K3 := Lib.hid (K2.out.trans z3 (fun _ _ h => h)); clear z3
                    go_wp2
                    go_roundg (KS.length - (j + 1))
                    case measure => have := HK.out; omega
                    case rel => exact ⟨j + 1, rfl, by omega, by rw [FIN.out, Int.natCast_add], by go_num, KC2.out.trans K3.out (fun _ _ h => h)⟩
                · rw [decide_eq_false q1] at HAB
                  by_cases q2 : dds ea = dds ec
                  · have hn : ¬ kk ∈ MC := fun h => (HMCk.out.1 h).2.1 q2
                    have hgg := HMGk.out hn
                    rw [if_neg q1] at hgg
                    rw [decide_eq_false hn]
                    rw [decide_eq_true q2] at HAC
                    rw [decide_eq_true hgg] at HGb
                    clear q1 q2 hn hgg
                    go_wp2_with fail
                    refine (HAB.out _ (Kept.refl _ _)).mono ?_
                    rintro e y1 ⟨rfl, z1⟩
                    have K1 := Lib.hid z1; clear z1
                    go_wp2_with fail
                    refine (HAC.out _ (K1.out)).mono ?_
                    rintro e y2 ⟨rfl, z2⟩
                    have K2 := Lib.hid (K1.out.trans z2 (fun _ _ h => h)); clear z2
                    go_wp2_with fail
                    refine (HGb.out _ (K2.out)).mono ?_
                    rintro e y3 ⟨rfl, z3⟩
                    have K3 := Lib.hid (K2.out.trans z3 (fun _ _ h => h)); clear z3
                    go_wp2
                    go_roundg (KS.length - (j + 1))
                    case measure => have := HK.out; omega
                    case rel => exact ⟨j + 1, rfl, by omega, by rw [FIN.out, Int.natCast_add], by go_num, KC2.out.trans K3.out (fun _ _ h => h)⟩
                  · rw [decide_eq_false q2] at HAC
                    by_cases q3 : dds eb = dds ec
                    · have hn : ¬ kk ∈ MC := fun h => (HMCk.out.1 h).2.2 q3
                      have hgg := HMGk.out hn
                      rw [if_neg q1] at hgg
                      rw [decide_eq_false hn]
                      rw [decide_eq_true q3] at HBC
                      rw [decide_eq_true hgg] at HGb
                      rw [decide_eq_true (hgg.trans q3)] at HGc
                      clear q1 q2 q3 hn hgg
                      go_wp2_with fail
                      refine (HAB.out _ (Kept.refl _ _)).mono ?_
                      rintro e y1 ⟨rfl, z1⟩
                      have K1 := Lib.hid z1; clear z1
                      go_wp2_with fail
                      refine (HAC.out _ (K1.out)).mono ?_
                      rintro e y2 ⟨rfl, z2⟩
                      have K2 := Lib.hid (K1.out.trans z2 (fun _ _ h => h)); clear z2
                      go_wp2_with fail
                      refine (HBC.out _ (K2.out)).mono ?_
                      rintro e y3 ⟨rfl, z3⟩
                      have K3 := Lib.hid (K2.out.trans z3 (fun _ _ h => h)); clear z3
                      go_wp2_with fail
                      refine (HGb.out _ (K3.out)).mono ?_
                      rintro e y4 ⟨rfl, z4⟩
                      have K4 := Lib.hid (K3.out.trans z4 (fun _ _ h => h)); clear z4
                      go_wp2_with fail
                      refine (HGc.out _ (K4.out)).mono ?_
                      rintro e y5 ⟨rfl, z5⟩
                      have K5 := Lib.hid (K4.out.trans z5 (fun _ _ h => h)); clear z5
                      go_wp2
                      go_roundg (KS.length - (j + 1))
                      case measure => have := HK.out; omega
                      case rel => exact ⟨j + 1, rfl, by omega, by rw [FIN.out, Int.natCast_add], by go_num, KC2.out.trans K5.out (fun _ _ h => h)⟩
                    · have hy : kk ∈ MC := HMCk.out.2 ⟨q1, q2, q3⟩
                      have hgg := HMNk.out hy
                      rw [decide_eq_true hy]
                      rw [decide_eq_false q3] at HBC
                      obtain rfl : there = false := by
                        cases there with
                        | false => rfl
                        | true => have := HGE.out; rw [hgg] at this; cases this
                      clear q1 q2 q3 hy hgg
                      go_wp2_with fail
                      refine (HAB.out _ (Kept.refl _ _)).mono ?_
                      rintro e y1 ⟨rfl, z1⟩
                      have K1 := Lib.hid z1; clear z1
                      go_wp2_with fail
                      refine (HAC.out _ (K1.out)).mono ?_
                      rintro e y2 ⟨rfl, z2⟩
                      have K2 := Lib.hid (K1.out.trans z2 (fun _ _ h => h)); clear z2
                      go_wp2_with fail
                      refine (HBC.out _ (K2.out)).mono ?_
                      rintro e y3 ⟨rfl, z3⟩
                      have K3 := Lib.hid (K2.out.trans z3 (fun _ _ h => h)); clear z3
                      go_wp2
                      go_roundg (KS.length - (j + 1))
                      case measure => have := HK.out; omega
                      case rel => exact ⟨j + 1, rfl, by omega, by rw [FIN.out, Int.natCast_add], by go_num, KC2.out.trans K3.out (fun _ _ h => h)⟩
                
        · obtain rfl : j = KS.length := by omega
          rw [HALL.out]
          have HLN := Lib.hid (slen_any (N7.out.keep HW.out))
          have hml := HML.out
          clear hlt
          go_wp2_with fail
          refine HLN.out.mono ?_
          rintro e w8 ⟨rfl, hw8⟩
          have K8 := Lib.hid (show Kept (fun _ => False) w7 w8 by rw [← hw8]; exact HW.out)
          clear hw8
          go_wp2
          go_ret
          exact ⟨by simp, keeps_below7 (Q7.out.k.trans K8.out (fun _ _ h => h))⟩

end Go.Proofs.YtlnincdmdegaoaaGreat
