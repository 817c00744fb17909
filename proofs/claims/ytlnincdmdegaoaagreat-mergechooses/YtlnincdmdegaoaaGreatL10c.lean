/-
  MergeChooses: the walk.
-/
import Derived.Test.YtlnincdmdegaoaaGreatL10q
namespace Go.Proofs.YtlnincdmdegaoaaGreat
open Go.RowKit Go.Mk Go.Maps

set_option maxHeartbeats 4000000 in
set_option maxRecDepth 100000 in
theorem chooses10_any (L : Nat → SD) (w : World) (hD : ∀ i, i < 3 → Ds w w.heap.size (L i).ao (L i).es) :
    Calls Tryz.prog 6 #[.agg #[.slice (L 0).ao (L 0).es.length (L 0).cap, .slice (L 1).ao (L 1).es.length (L 1).cap, .slice (L 2).ao (L 2).es.length (L 2).cap]] w fun e w' => e = .returned (.bool true) ∧ Below w.heap.size w w' := by
  have HAW := Lib.hid (fun w => awake10_any w)
  have HFW := Lib.hid (fun (wx : World) (h : Kept (fun _ => False) w wx) => few10_any (L 0).ao (L 0).cap (L 0).es (L 1).ao (L 1).cap (L 1).es (L 2).ao (L 2).cap (L 2).es w.heap.size wx ((hD 0 (by omega)).keep h) ((hD 1 (by omega)).keep h) ((hD 2 (by omega)).keep h))
  have HT3 := Lib.hid (fun (hf : ∀ i, i < 3 → FewD (L i).es 10) (wx : World) (h : Kept (fun _ => False) w wx) => three10_any L w.heap.size wx h.size (fun i hi => (hD i hi).keep h) hf)
  have KB := Lib.hid ((Kept.refl (fun _ => False) w).alloc (.cells #[.slice (L 0).ao (L 0).es.length (L 0).cap, .slice (L 1).ao (L 1).es.length (L 1).cap, .slice (L 2).ao (L 2).es.length (L 2).cap] 23))
  have HBX := Lib.hid (show ∀ wx, Kept (fun _ => False) (w.alloc (.cells #[.slice (L 0).ao (L 0).es.length (L 0).cap, .slice (L 1).ao (L 1).es.length (L 1).cap, .slice (L 2).ao (L 2).es.length (L 2).cap] 23)) wx → wx.cell? ⟨w.heap.size, 0, none⟩ = some (.slice (L 0).ao (L 0).es.length (L 0).cap) ∧ wx.cell? ⟨w.heap.size, 1, none⟩ = some (.slice (L 1).ao (L 1).es.length (L 1).cap) ∧ wx.cell? ⟨w.heap.size, 2, none⟩ = some (.slice (L 2).ao (L 2).es.length (L 2).cap) from fun wx h => by
    have h0 := fun j => World.cell?_alloc_new w #[.slice (L 0).ao (L 0).es.length (L 0).cap, .slice (L 1).ao (L 1).es.length (L 1).cap, .slice (L 2).ao (L 2).es.length (L 2).cap] 23 j
    exact ⟨(h.cell (p := ⟨w.heap.size, 0, none⟩) (by simp) (fun h => h)).trans (h0 0), (h.cell (p := ⟨w.heap.size, 1, none⟩) (by simp) (fun h => h)).trans (h0 1), (h.cell (p := ⟨w.heap.size, 2, none⟩) (by simp) (fun h => h)).trans (h0 2)⟩)
  have H3 := Lib.hid (show (fewB (L 0).es 10 && fewB (L 1).es 10 && fewB (L 2).es 10) = few3 L from rfl)
  rw [H3.out] at HFW
  clear hD H3
  go_enter Tryz.func6, Tryz.ntmps6
  go_wp2_with fail
  refine (HAW.out _).mono ?_
  rintro e w1 ⟨rfl, k1⟩
  have K1 := Lib.hid k1; clear k1
  obtain ⟨c0, c1, c2⟩ := HBX.out _ K1.out
  go_wp2_with fail
  refine (HFW.out _ (KB.out.trans K1.out (fun _ _ h => h))).mono ?_
  rintro e w2 ⟨rfl, k2⟩
  have K2 := Lib.hid (K1.out.trans k2 (fun _ _ h => h)); clear k2 c0 c1 c2
  cases hf : few3 L with
  | false =>
    clear hf
    go_wp2_with fail
    refine (HAW.out _).mono ?_
    rintro e w4 ⟨rfl, k4⟩
    have K4 := Lib.hid ((KB.out.trans K2.out (fun _ _ h => h)).trans k4 (fun _ _ h => h)); clear k4
    go_wp2
    go_ret
    exact ⟨rfl, keeps_below7 K4.out⟩
  | true =>
    have HF := Lib.hid (few3_of hf)
    clear hf
    obtain ⟨c0, c1, c2⟩ := HBX.out _ K2.out
    go_wp2_with fail
    refine (HT3.out HF.out _ (KB.out.trans K2.out (fun _ _ h => h))).mono ?_
    rintro e w5 ⟨ok, P, X, rfl, k5, hdn⟩
    have K5 := Lib.hid ((KB.out.trans K2.out (fun _ _ h => h)).trans k5 (fun _ _ h => h)); have HDN := Lib.hid hdn
    clear k5 hdn c0 c1 c2
    unfold valS
    cases ok with
    | false =>
      go_wp2
      go_ret
      exact ⟨rfl, keeps_below7 ((K5.out.alloc _).alloc _)⟩
    | true =>
      have Q5 := Lib.hid (q10_new K5.out (HDN.out rfl))
      have HL := Lib.hid (show ∀ i, i < 3 → (X i).es.length ≤ 10 from fun i hi => done_len (HDN.out rfl i hi) (HF.out i hi))
      have HDL := Lib.hid (show ∀ i, i < 3 → (dds (X i).es).length ≤ 500 from fun i hi => by rw [dds_len]; have := HL.out i hi; omega)
      clear HDN
      have HML := Lib.hid (show (mergeD (dds (X 0).es) (dds (X 1).es) (dds (X 2).es)).length ≤ 500 by
        have h1 := merge_le (A := dds (X 0).es) (Q5.out.snp 1 (by omega)) (Q5.out.snp 2 (by omega))
        rw [dds_len, dds_len, dds_len] at h1
        have h2 := HL.out 0 (by omega); have h3 := HL.out 1 (by omega); have h4 := HL.out 2 (by omega)
        omega)
      have hcl := merge_le (A := dds (X 0).es) (Q5.out.snp 1 (by omega)) (Q5.out.snp 2 (by omega))
      clear hcl
      have R1 := Lib.hid (fun (wx : World) (h : Q10 w w5.heap.size (w5.heap.size + 1) P X wx) => rmerge10_any (X 0).ao (X 0).cap (X 0).es (X 1).ao (X 1).cap (X 1).es (X 2).ao (X 2).cap (X 2).es wx (h.rl 0 (by omega)) (h.rl 1 (by omega)) (h.rl 2 (by omega)) (by have := HL.out 0 (by omega); omega) (by have := HL.out 1 (by omega); omega) (by have := HL.out 2 (by omega); omega))
      have CH := Lib.hid (fun (wx : World) (h : Q10 w w5.heap.size (w5.heap.size + 1) P X wx) => dchoose10_any (.pointer (P 0)) (.pointer (P 1)) (.pointer (P 2)) _ _ _ wx (h.sn 0 (by omega)) (h.sn 1 (by omega)) (h.sn 2 (by omega)) (HDL.out 0 (by omega)) (HDL.out 1 (by omega)) (HDL.out 2 (by omega)) (by
        have h1 := choose_le (A := dds (X 0).es) (Q5.out.snp 1 (by omega)) (Q5.out.snp 2 (by omega))
        rw [dds_len, dds_len, dds_len] at h1
        have h2 := HL.out 0 (by omega); have h3 := HL.out 1 (by omega); have h4 := HL.out 2 (by omega)
        omega))
      have HPC := Lib.hid (choose_put (b := dds (X 0).es) (Q5.out.snp 1 (by omega)) (Q5.out.snp 2 (by omega)))
      have HCL := Lib.hid (show (mergeC (dds (X 0).es) (dds (X 1).es) (dds (X 2).es)).length ≤ 30 by
        have h1 : (mergeC (dds (X 0).es) (dds (X 1).es) (dds (X 2).es)).length ≤ (keys3 (dds (X 0).es) (dds (X 1).es) (dds (X 2).es)).length := List.length_filter_le _ _
        have h2 := keys3_le (dds (X 0).es) (dds (X 1).es) (dds (X 2).es)
        rw [dds_len, dds_len, dds_len] at h2
        have h3 := HL.out 0 (by omega); have h4 := HL.out 1 (by omega); have h5 := HL.out 2 (by omega)
        omega)
      rw [← HPC.out] at CH
      generalize mergeD (dds (X 0).es) (dds (X 1).es) (dds (X 2).es) = MD at *
      generalize mergeC (dds (X 0).es) (dds (X 1).es) (dds (X 2).es) = MC at *
      obtain ⟨c0, c1, c2, c3, c4, c5⟩ := Q5.out.cells
      go_wp2_with fail
      refine (CH.out _ Q5.out).mono ?_
      rintro e w6 ⟨s6, rfl, n6, k6⟩
      have Q6 := Lib.hid (Q5.out.keep k6); have N6 := Lib.hid n6
      clear n6 k6 c0 c1 c2 c3 c4 c5
      obtain ⟨c0, c1, c2, c3, c4, c5⟩ := Q6.out.cells
      go_wp2_with fail
      refine (R1.out _ Q6.out).mono ?_
      rintro e w7 ⟨oa, oc, out, ca, cc, rfl, hd7, r7, l7, k7⟩
      have Q7 := Lib.hid (Q6.out.keep k7); have N7 := Lib.hid (N6.out.keep k7); have L7 := Lib.hid l7; have R7 := Lib.hid r7; have HD7 := Lib.hid hd7
      have HOL := Lib.hid (show out.length ≤ 500 by rw [← dds_len, hd7]; exact HML.out)
      clear l7 k7 r7 hd7 c0 c1 c2 c3 c4 c5 N6
      have HXL := Lib.hid (HL.out 1 (by omega))
      have HG := Lib.hid (fun (key : List UInt8) (wx : World) (h : Kept (fun _ => False) w7 wx) => rget_any (X 1).ao (X 1).cap (X 1).es key wx.heap.size wx (Nat.le_refl _) (((Q7.out.keep h).rl 1 (by omega)).ds) ((Q7.out.rl 1 (by omega)).len) (by have := HXL.out; omega) ((Q7.out.rl 1 (by omega)).rise))
      have HGL := Lib.hid (fun (key : List UInt8) (x : Ent) (hx : x ∈ getK keyE key (X 1).es) => (Q7.out.rl 1 (by omega)).len x (mem_getK.1 hx).1)
      have HG1 := Lib.hid (fun (key : List UInt8) => getK_len (Q7.out.rl 1 (by omega)).rise key)
      go_wp2
      go_loopg [8, 10] MC.length (fun k v c wr => ∃ j oa oc out, k = MC.length - j ∧ j ≤ MC.length ∧ c = .int .i64 (j : Int) ∧ v = .slice oa out.length oc ∧ dds out = putC (dds (X 1).es) (MC.take j) MD ∧ out.length ≤ 500 + j ∧ Rl wr oa out ∧ Kept (fun _ => False) w7 wr)
      case atStart => exact ⟨0, oa, oc, out, rfl, Nat.zero_le _, rfl, rfl, HD7.out, HOL.out, R7.out, Kept.refl _ _⟩
      case round =>
        obtain ⟨j, oa, oc, out, hk, hj, rfl, rfl, hpc, hol, hrl, hw⟩ := hrel
        have HK := Lib.hid hk; have HP := Lib.hid hpc; have HO := Lib.hid hol; have HR := Lib.hid hrl; have HW := Lib.hid hw
        clear hk hpc hol hrl hw HOL
        have hcl := HCL.out
        by_cases hlt : j < MC.length
        · obtain ⟨b0, o0, rfl, hb0, hc0⟩ := L7.out (by intro h; simp [strs] at h; rw [h] at hlt; simp at hlt)
          have HKC := Lib.hid (show ∀ wx, Kept (fun _ => False) w7 wx → wx.cell? ⟨b0, o0 + j, none⟩ = some (.string (bs MC[j])) ∧ wx.cell? ⟨w5.heap.size + 1, 1, none⟩ = some (.slice (X 1).ao (X 1).es.length (X 1).cap) from fun wx h => ⟨(h.cell (p := ⟨b0, o0 + j, none⟩) hb0 (fun h => h)).trans (hc0 j (.string (bs MC[j])) (by simp [strs, hlt])), (Q7.out.keep h).cells.2.2.2.2.1⟩)
          have HT := Lib.hid (show putC (dds (X 1).es) (MC.take (j + 1)) MD = (getK keyD MC[j] (dds (X 1).es)).foldl (fun o d => putK keyD d o) (putC (dds (X 1).es) (MC.take j) MD) by
            rw [List.take_add_one, List.getElem?_eq_getElem hlt, Option.toList_some]
            unfold putC
            rw [List.foldl_append]
            rfl)
          have i1 : (j : Int) < (MC.length : Int) := by omega
          clear hc0
          generalize MC[j] = kk at *
          rw [← dds_getK, ← HP.out] at HT
          have HGK := Lib.hid (HG.out kk); have HYL := Lib.hid (HGL.out kk); have hy1 := HG1.out kk
          generalize getK keyE kk (X 1).es = ys at *
          have KD := Lib.hid (HW.out.trans (Kept.drew (Kept.refl (fun _ => False) wr)) (fun _ _ h => h))
          go_upto_region 11 with fail
          have hS := HKC.out _ KD.out
          go_region_held (fun w' => w'.cell? ⟨b0, o0 + j, none⟩ = some (.string (bs kk)) ∧ w'.cell? ⟨w5.heap.size + 1, 1, none⟩ = some (.slice (X 1).ao (X 1).es.length (X 1).cap)) (with_reducible assumption) (first
            | (go_at_call 18; refine (HGK.out _ KD.out).mono ?_; rintro e w8 ⟨ao8, cap8, rfl, s8, -, k8⟩; have S8 := Lib.hid s8; have K8 := Lib.hid (KD.out.trans k8 (fun _ _ h => h)); have R8 := Lib.hid (HR.out.keep ((Kept.drew (Kept.refl (fun _ => False) wr)).trans k8 (fun _ _ h => h))); have hS8 := HKC.out _ K8.out; clear s8 k8))
          all_goals clear hS hS8
          obtain ⟨wo, rfl⟩ : ∃ wo, wo = w8 := ⟨w8, rfl⟩
          go_wp2
          go_loopg [8, 12] ys.length (fun k v c wr => ∃ i oa oc out4, k = ys.length - i ∧ i ≤ ys.length ∧ c = .int .i64 (i : Int) ∧ v = .slice oa out4.length oc ∧ out4 = (ys.take i).foldl (fun o d => putK keyE d o) out ∧ out4.length ≤ 500 + j + i ∧ Rl wr oa out4 ∧ Kept (fun _ => False) wo wr)
          case atStart => exact ⟨0, oa, oc, out, rfl, Nat.zero_le _, rfl, rfl, rfl, HO.out, R8.out, Kept.refl _ _⟩
          case round =>
            obtain ⟨i, oa4, oc4, out4, hk4, hi4, rfl, rfl, hout4, hol4, hrl4, hw4⟩ := hrel
            have HK4 := Lib.hid hk4; have HOUT4 := Lib.hid hout4; have HOL4 := Lib.hid hol4; have HRL4 := Lib.hid hrl4; have HW4 := Lib.hid hw4
            clear hk4 hout4 hol4 hrl4 hw4
            by_cases hlt4 : i < ys.length
            · obtain ⟨xb, xo, rfl, hxb, hcx⟩ := S8.out.ds.row (by intro h; dsimp only at h; rw [h] at hlt4; simp at hlt4)
              have hmem := List.getElem_mem hlt4
              obtain ⟨d0, d1, d2, d3, d4, d5⟩ := (hcx i hlt4).kept HW4.out (fun h => h)
              have HLX := Lib.hid (S8.out.ds.lies ys[i] hmem)
              have HLE := Lib.hid (HYL.out ys[i] hmem)
              have HT4 := Lib.hid (show (ys.take (i + 1)).foldl (fun o d => putK keyE d o) out = putK keyE ys[i] out4 by
                rw [List.take_add_one, List.getElem?_eq_getElem hlt4, Option.toList_some, List.foldl_append, ← HOUT4.out]
                rfl)
              have i2 : (i : Int) < (ys.length : Int) := by omega
              clear hcx hmem
              dsimp only at d0 d1 d2 d3 d4 d5
              generalize ys[i] = y at *
              obtain ⟨d, ao, cap⟩ := y
              dsimp only at d0 d1 d2 d3 d4 d5 HLX HLE
              have HPU := Lib.hid (rput_rl oa4 oc4 out4 d ao cap wo.heap.size _ HW4.out.size HRL4.out (by have := HOL4.out; omega) (HLX.out.1.kept HW4.out (fun _ _ _ h => h)) HLX.out.2 HLE.out)
              have HPL := Lib.hid (putK_le (a := (d, ao, cap)) HRL4.out.rise)
              generalize putK keyE (d, ao, cap) out4 = m' at *
              go_wp2_with fail
              refine HPU.out.mono ?_
              rintro e w5' ⟨oa5, oc5, rfl, r5, k5⟩
              have R5 := Lib.hid r5; have K5' := Lib.hid (HW4.out.trans k5 (fun _ _ h => h))
              clear r5 k5
              go_wp2
              go_roundg (ys.length - (i + 1))
              case measure => have := HK4.out; omega
              case rel => exact ⟨i + 1, oa5, oc5, m', rfl, by omega, by go_num, rfl, HT4.out.symm, by have := HOL4.out; have := HPL.out; omega, R5.out, K5'.out⟩
            · obtain rfl : i = ys.length := by omega
              have hs := HOUT4.out
              rw [List.take_length] at hs
              have HX := Lib.hid (show dds out4 = putC (dds (X 1).es) (MC.take (j + 1)) MD by rw [HT.out, hs, dds_puts])
              clear hs hlt4
              go_wp2
              go_roundg (MC.length - (j + 1))
              case measure => have := HK.out; omega
              case rel => exact ⟨j + 1, oa4, oc4, out4, rfl, by omega, by go_num, rfl, HX.out, by have := HOL4.out; omega, HRL4.out, K8.out.trans HW4.out (fun _ _ h => h)⟩
        · obtain rfl : j = MC.length := by omega
          have hs := HP.out
          rw [List.take_length] at hs
          have HI := Lib.hid (show Calls Tryz.prog 12 #[.pointer (some ⟨s6, 0, none⟩), .slice oa out.length oc] wr fun e w' => e = .returned (.bool true) ∧ Kept (fun _ => False) wr w' from is_rl (by rw [hs]; exact N7.out.keep HW.out) HR.out (by have := HO.out; omega))
          clear hs hlt
          go_wp2_with fail
          refine HI.out.mono ?_
          rintro e w9 ⟨rfl, k9⟩
          go_wp2
          go_ret
          exact ⟨rfl, keeps_below7 ((Q7.out.k.trans HW.out (fun _ _ h => h)).trans k9 (fun _ _ h => h))⟩

end Go.Proofs.YtlnincdmdegaoaaGreat
