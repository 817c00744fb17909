/-
  MergeMerges: the walk.
-/
import Derived.Test.YtlnincdmdegaoaaGreatL10q
namespace Go.Proofs.YtlnincdmdegaoaaGreat
open Go.RowKit Go.Mk Go.Maps

set_option maxHeartbeats 4000000 in
set_option maxRecDepth 100000 in
theorem merges10_any (L : Nat → SD) (w : World) (hD : ∀ i, i < 3 → Ds w w.heap.size (L i).ao (L i).es) :
    Calls Tryz.prog 3 #[.agg #[.slice (L 0).ao (L 0).es.length (L 0).cap, .slice (L 1).ao (L 1).es.length (L 1).cap, .slice (L 2).ao (L 2).es.length (L 2).cap]] w fun e w' => e = .returned (.bool true) ∧ Below w.heap.size w w' := by
  have HAW := Lib.hid (fun w => awake10_any w)
  have HFW := Lib.hid (fun (wx : World) (h : Kept (fun _ => False) w wx) => few10_any (L 0).ao (L 0).cap (L 0).es (L 1).ao (L 1).cap (L 1).es (L 2).ao (L 2).cap (L 2).es w.heap.size wx ((hD 0 (by omega)).keep h) ((hD 1 (by omega)).keep h) ((hD 2 (by omega)).keep h))
  have HT3 := Lib.hid (fun (hf : ∀ i, i < 3 → FewD (L i).es 10) (wx : World) (h : Kept (fun _ => False) w wx) => three10_any L w.heap.size wx h.size (fun i hi => (hD i hi).keep h) hf)
  have KB := Lib.hid ((Kept.refl (fun _ => False) w).alloc (.cells #[.slice (L 0).ao (L 0).es.length (L 0).cap, .slice (L 1).ao (L 1).es.length (L 1).cap, .slice (L 2).ao (L 2).es.length (L 2).cap] 23))
  have HBX := Lib.hid (show ∀ wx, Kept (fun _ => False) (w.alloc (.cells #[.slice (L 0).ao (L 0).es.length (L 0).cap, .slice (L 1).ao (L 1).es.length (L 1).cap, .slice (L 2).ao (L 2).es.length (L 2).cap] 23)) wx → wx.cell? ⟨w.heap.size, 0, none⟩ = some (.slice (L 0).ao (L 0).es.length (L 0).cap) ∧ wx.cell? ⟨w.heap.size, 1, none⟩ = some (.slice (L 1).ao (L 1).es.length (L 1).cap) ∧ wx.cell? ⟨w.heap.size, 2, none⟩ = some (.slice (L 2).ao (L 2).es.length (L 2).cap) from fun wx h => by
    have h0 := fun j => World.cell?_alloc_new w #[.slice (L 0).ao (L 0).es.length (L 0).cap, .slice (L 1).ao (L 1).es.length (L 1).cap, .slice (L 2).ao (L 2).es.length (L 2).cap] 23 j
    exact ⟨(h.cell (p := ⟨w.heap.size, 0, none⟩) (by simp) (fun h => h)).trans (h0 0), (h.cell (p := ⟨w.heap.size, 1, none⟩) (by simp) (fun h => h)).trans (h0 1), (h.cell (p := ⟨w.heap.size, 2, none⟩) (by simp) (fun h => h)).trans (h0 2)⟩)
  have H3 := Lib.hid (show (fewB (L 0).es 10 && fewB (L 1).es 10 && fewB (L 2).es 10) = few3 L from rfl)
  rw [H3.out] at HFW
  clear hD H3
  go_enter Tryz.func3, Tryz.ntmps3
  go_wp2_with fail
  refine (HAW.out _).mono ?_
  rintro e w1 ⟨rfl, k1⟩
  have K1 := Lib.hid k1; clear k1
  obtain ⟨c0, c1, c2⟩ := HBX.out _ K1.out
  go_wp2_with fail
  refine (HFW.out _ (KB.out.trans K1.out (fun _ _ h => h))).mono ?_
  rintro e w2 ⟨rfl, k2⟩
  have K2 := Lib.hid (K1.out.trans k2 (fun _ _ h => h)); clear k2 c0 c1 c2
  cases hf : few3 L with
  | false =>
    clear hf
    go_wp2_with fail
    refine (HAW.out _).mono ?_
    rintro e w4 ⟨rfl, k4⟩
    have K4 := Lib.hid ((KB.out.trans K2.out (fun _ _ h => h)).trans k4 (fun _ _ h => h)); clear k4
    go_wp2
    go_ret
    exact ⟨rfl, keeps_below7 K4.out⟩
  | true =>
    have HF := Lib.hid (few3_of hf)
    clear hf
    obtain ⟨c0, c1, c2⟩ := HBX.out _ K2.out
    go_wp2_with fail
    refine (HT3.out HF.out _ (KB.out.trans K2.out (fun _ _ h => h))).mono ?_
    rintro e w5 ⟨ok, P, X, rfl, k5, hdn⟩
    have K5 := Lib.hid ((KB.out.trans K2.out (fun _ _ h => h)).trans k5 (fun _ _ h => h)); have HDN := Lib.hid hdn
    clear k5 hdn c0 c1 c2
    unfold valS
    cases ok with
    | false =>
      go_wp2
      go_ret
      exact ⟨rfl, keeps_below7 ((K5.out.alloc _).alloc _)⟩
    | true =>
      have Q5 := Lib.hid (q10_new K5.out (HDN.out rfl))
      have HL := Lib.hid (show ∀ i, i < 3 → (X i).es.length ≤ 10 from fun i hi => done_len (HDN.out rfl i hi) (HF.out i hi))
      have HDL := Lib.hid (show ∀ i, i < 3 → (dds (X i).es).length ≤ 500 from fun i hi => by rw [dds_len]; have := HL.out i hi; omega)
      clear HDN
      have HML := Lib.hid (show (mergeD (dds (X 0).es) (dds (X 1).es) (dds (X 2).es)).length ≤ 500 by
        have h1 := merge_le (A := dds (X 0).es) (Q5.out.snp 1 (by omega)) (Q5.out.snp 2 (by omega))
        rw [dds_len, dds_len, dds_len] at h1
        have h2 := HL.out 0 (by omega); have h3 := HL.out 1 (by omega); have h4 := HL.out 2 (by omega)
        omega)
      have hcl := merge_le (A := dds (X 0).es) (Q5.out.snp 1 (by omega)) (Q5.out.snp 2 (by omega))
      clear hcl
      have M1 := Lib.hid (fun (wx : World) (h : Q10 w w5.heap.size (w5.heap.size + 1) P X wx) => dmerge10_any (.pointer (P 0)) (.pointer (P 1)) (.pointer (P 2)) _ _ _ wx (h.sn 0 (by omega)) (h.sn 1 (by omega)) (h.sn 2 (by omega)) (HDL.out 0 (by omega)) (HDL.out 1 (by omega)) (HDL.out 2 (by omega)) HML.out)
      have R1 := Lib.hid (fun (wx : World) (h : Q10 w w5.heap.size (w5.heap.size + 1) P X wx) => rmerge10_any (X 0).ao (X 0).cap (X 0).es (X 1).ao (X 1).cap (X 1).es (X 2).ao (X 2).cap (X 2).es wx (h.rl 0 (by omega)) (h.rl 1 (by omega)) (h.rl 2 (by omega)) (by have := HL.out 0 (by omega); omega) (by have := HL.out 1 (by omega); omega) (by have := HL.out 2 (by omega); omega))
      have C1 := Lib.hid (fun (wx : World) (h : Q10 w w5.heap.size (w5.heap.size + 1) P X wx) => dconf10_any (.pointer (P 0)) (.pointer (P 1)) (.pointer (P 2)) _ _ _ wx (h.sn 0 (by omega)) (h.sn 1 (by omega)) (h.sn 2 (by omega)) (HDL.out 0 (by omega)) (HDL.out 1 (by omega)) (HDL.out 2 (by omega)))
      have C2 := Lib.hid (fun (wx : World) (h : Q10 w w5.heap.size (w5.heap.size + 1) P X wx) => dconf10_any (.pointer (P 0)) (.pointer (P 2)) (.pointer (P 1)) _ _ _ wx (h.sn 0 (by omega)) (h.sn 2 (by omega)) (h.sn 1 (by omega)) (HDL.out 0 (by omega)) (HDL.out 2 (by omega)) (HDL.out 1 (by omega)))
      rw [conf_turn] at C2
      have I0 := Lib.hid (fun (wx : World) (h : Q10 w w5.heap.size (w5.heap.size + 1) P X wx) => is_rl (oc := (X 0).cap) (h.sn 0 (by omega)) (h.rl 0 (by omega)) (by have := HL.out 0 (by omega); omega))
      have I1 := Lib.hid (fun (wx : World) (h : Q10 w w5.heap.size (w5.heap.size + 1) P X wx) => is_rl (oc := (X 1).cap) (h.sn 1 (by omega)) (h.rl 1 (by omega)) (by have := HL.out 1 (by omega); omega))
      have I2 := Lib.hid (fun (wx : World) (h : Q10 w w5.heap.size (w5.heap.size + 1) P X wx) => is_rl (oc := (X 2).cap) (h.sn 2 (by omega)) (h.rl 2 (by omega)) (by have := HL.out 2 (by omega); omega))
      have HCL := Lib.hid (show (mergeC (dds (X 0).es) (dds (X 1).es) (dds (X 2).es)).length ≤ 10000 by
        have h1 : (mergeC (dds (X 0).es) (dds (X 1).es) (dds (X 2).es)).length ≤ (keys3 (dds (X 0).es) (dds (X 1).es) (dds (X 2).es)).length := List.length_filter_le _ _
        have h2 := keys3_le (dds (X 0).es) (dds (X 1).es) (dds (X 2).es)
        rw [dds_len, dds_len, dds_len] at h2
        have h3 := HL.out 0 (by omega); have h4 := HL.out 1 (by omega); have h5 := HL.out 2 (by omega)
        omega)
      unfold DmPost at M1
      generalize mergeD (dds (X 0).es) (dds (X 1).es) (dds (X 2).es) = MD at *
      generalize mergeC (dds (X 0).es) (dds (X 1).es) (dds (X 2).es) = MC at *
      have HSC := Lib.hid (show (MC == MC) = true by simp)
      have HEE := Lib.hid (show ((if MC = [] then (0 : Int) else 75) = 0 ∧ MC = []) ∨ ((if MC = [] then (0 : Int) else 75) = 75 ∧ ¬ MC = []) by
        by_cases h : MC = []
        · left; exact ⟨if_pos h, h⟩
        · right; exact ⟨if_neg h, h⟩)
      generalize (if MC = [] then (0 : Int) else 75) = E at *
      obtain ⟨c0, c1, c2, c3, c4, c5⟩ := Q5.out.cells
      go_wp2_with fail
      refine (M1.out _ Q5.out).mono ?_
      rintro e w6 ⟨s6, ao6, cap6, rfl, n6, l6, k6⟩
      have Q6 := Lib.hid (Q5.out.keep k6); have N6 := Lib.hid n6; have L6 := Lib.hid l6
      clear n6 l6 k6 c0 c1 c2 c3 c4 c5
      obtain ⟨c0, c1, c2, c3, c4, c5⟩ := Q6.out.cells
      go_wp2_with fail
      refine (R1.out _ Q6.out).mono ?_
      rintro e w7 ⟨oa, oc, out, ca, cc, rfl, hd7, r7, l7, k7⟩
      have Q7 := Lib.hid (Q6.out.keep k7); have N7 := Lib.hid (N6.out.keep k7); have L67 := Lib.hid ((L6.out.kept k7 (fun _ _ _ h => h)).mono k7.size); have L7 := Lib.hid l7; have R7 := Lib.hid r7; have HD7 := Lib.hid hd7
      have HOL := Lib.hid (show out.length ≤ 500 by rw [← dds_len, hd7]; exact HML.out)
      clear l7 k7 r7 hd7 c0 c1 c2 c3 c4 c5 N6 L6
      have HI7 := Lib.hid (show Calls Tryz.prog 12 #[.pointer (some ⟨s6, 0, none⟩), .slice oa out.length oc] w7 fun e w' => e = .returned (.bool true) ∧ Kept (fun _ => False) w7 w' from is_rl (by rw [HD7.out]; exact N7.out) R7.out (by have := HOL.out; omega))
      have HS7 := Lib.hid (fun (wx : World) (h : Kept (fun _ => False) w7 wx) => same_any ao6 cap6 MC ca cc MC w7.heap.size wx (L67.out.kept h (fun _ _ _ h => h)) (L7.out.kept h (fun _ _ _ h => h)) (by have := HCL.out; omega) (by have := HCL.out; omega))
      rw [HSC.out] at HS7
      go_upto_region 8 with fail
      go_cut [77] (fun v wx => v = .bool false ∧ Q10 w w5.heap.size (w5.heap.size + 1) P X wx ∧ Lies wx wx.heap.size ca (strs MC))
      case first =>
        rcases HEE.out with ⟨rfl, hml⟩ | ⟨rfl, hml⟩
        · subst hml
          go_wp2_with fail
          refine HI7.out.mono ?_
          rintro e w8 ⟨rfl, k8⟩
          have K8 := Lib.hid k8; clear k8
          go_wp2_with fail
          refine (HS7.out _ K8.out).mono ?_
          rintro e w9 ⟨rfl, k9⟩
          have K9 := Lib.hid (K8.out.trans k9 (fun _ _ h => h)); clear k9
          go_wp2_with fail
          go_meet
          exact ⟨rfl, Q7.out.keep K9.out, (L7.out.kept K9.out (fun _ _ _ h => h)).mono K9.out.size⟩
        · have i1 : (0 : Int) < (MC.length : Int) := by have := List.length_pos_iff.2 hml; omega
          go_wp2_with fail
          refine HI7.out.mono ?_
          rintro e w8 ⟨rfl, k8⟩
          have K8 := Lib.hid k8; clear k8
          go_wp2_with fail
          refine (HS7.out _ K8.out).mono ?_
          rintro e w9 ⟨rfl, k9⟩
          have K9 := Lib.hid (K8.out.trans k9 (fun _ _ h => h)); clear k9
          go_wp2_with fail
          go_meet
          exact ⟨rfl, Q7.out.keep K9.out, (L7.out.kept K9.out (fun _ _ _ h => h)).mono K9.out.size⟩
      case rest =>
        obtain ⟨rfl, q8, l8⟩ := hcut
        have Q8 := Lib.hid q8; have L8 := Lib.hid l8
        clear q8 l8 HI7 HS7 N7 L67 R7 L7
        obtain ⟨c0, c1, c2, c3, c4, c5⟩ := Q8.out.cells
        go_wp2_with fail
        refine (C1.out _ Q8.out).mono ?_
        rintro e w9 ⟨ao9, cap9, rfl, l9, k9⟩
        have Q9 := Lib.hid (Q8.out.keep k9); have L9 := Lib.hid ((L8.out.kept k9 (fun _ _ _ h => h)).mono k9.size)
        have HS9 := Lib.hid (same_any ao9 cap9 MC ca cc MC w9.heap.size w9 l9 L9.out (by have := HCL.out; omega) (by have := HCL.out; omega))
        rw [HSC.out] at HS9
        clear l9 k9 c0 c1 c2 c3 c4 c5
        go_wp2_with fail
        refine HS9.out.mono ?_
        rintro e w10 ⟨rfl, k10⟩
        have Q10' := Lib.hid (Q9.out.keep k10); have L10 := Lib.hid ((L9.out.kept k10 (fun _ _ _ h => h)).mono k10.size)
        clear k10
        obtain ⟨c0, c1, c2, c3, c4, c5⟩ := Q10'.out.cells
        go_wp2_with fail
        refine (C2.out _ Q10'.out).mono ?_
        rintro e w11 ⟨ao11, cap11, rfl, l11, k11⟩
        have Q11 := Lib.hid (Q10'.out.keep k11); have L11 := Lib.hid ((L10.out.kept k11 (fun _ _ _ h => h)).mono k11.size)
        have HS11 := Lib.hid (same_any ao11 cap11 MC ca cc MC w11.heap.size w11 l11 L11.out (by have := HCL.out; omega) (by have := HCL.out; omega))
        rw [HSC.out] at HS11
        clear l11 k11 c0 c1 c2 c3 c4 c5
        go_wp2_with fail
        refine HS11.out.mono ?_
        rintro e w12 ⟨rfl, k12⟩
        have Q12 := Lib.hid (Q11.out.keep k12); clear k12
        obtain ⟨c0, c1, c2, c3, c4, c5⟩ := Q12.out.cells
        go_wp2_with fail
        refine (I0.out _ Q12.out).mono ?_
        rintro e w13 ⟨rfl, k13⟩
        have Q13 := Lib.hid (Q12.out.keep k13); clear k13 c0 c1 c2 c3 c4 c5
        obtain ⟨c0, c1, c2, c3, c4, c5⟩ := Q13.out.cells
        go_wp2_with fail
        refine (I1.out _ Q13.out).mono ?_
        rintro e w14 ⟨rfl, k14⟩
        have Q14 := Lib.hid (Q13.out.keep k14); clear k14 c0 c1 c2 c3 c4 c5
        obtain ⟨c0, c1, c2, c3, c4, c5⟩ := Q14.out.cells
        go_wp2_with fail
        refine (I2.out _ Q14.out).mono ?_
        rintro e w15 ⟨rfl, k15⟩
        have Q15 := Lib.hid (Q14.out.keep k15); clear k15 c0 c1 c2 c3 c4 c5
        go_wp2
        go_ret
        exact ⟨rfl, keeps_below7 Q15.out.k⟩

end Go.Proofs.YtlnincdmdegaoaaGreat
