/-
  MergeOnes: the walk.
-/
import Derived.Test.YtlnincdmdegaoaaGreatL10h
import Derived.Test.YtlnincdmdegaoaaGreatGSy
namespace Go.Proofs.YtlnincdmdegaoaaGreat
open Go.RowKit Go.Mk Go.Maps

def few3 (L : Nat → SD) : Bool := fewB (L 0).es 10 && fewB (L 1).es 10 && fewB (L 2).es 10

theorem few3_of {L : Nat → SD} (h : few3 L = true) : ∀ i, i < 3 → FewD (L i).es 10 := by
  intro i hi
  simp only [few3, Bool.and_eq_true] at h
  have : i = 0 ∨ i = 1 ∨ i = 2 := by omega
  rcases this with rfl | rfl | rfl
  · exact few_of (n := 10) h.1.1
  · exact few_of (n := 10) h.1.2
  · exact few_of (n := 10) h.2

theorem done_len {wx : World} {l : SD} {p : Value} {x : SD} (h : Done wx l p x) (hl : FewD l.es 10) : x.es.length ≤ 10 := by
  rw [← dds_len, h.eq, (newL_made h.ok).len, dds_len]
  exact hl.len

theorem dm_none {w w' : World} {A B C m : List DD} {e : Ending} (h : DmPost w A B C e w') (h1 : mergeD A B C = m) (h2 : mergeC A B C = []) : ∃ s ao cap, e = .returned (.tuple #[.pointer (some ⟨s, 0, none⟩), .slice ao 0 cap, .int .i64 0]) ∧ Sn w' (.pointer (some ⟨s, 0, none⟩)) m ∧ Kept (fun _ => False) w w' := by
  obtain ⟨s, ao, cap, he, hs, _, hk⟩ := h
  rw [h2] at he
  rw [h1] at hs
  exact ⟨s, ao, cap, he, hs, hk⟩

/-- Two snapshots, and what was merged. -/
structure N10 (w : World) (v u : Value) (A B : List DD) (wx : World) : Prop where
  a : Sn wx v A
  b : Sn wx u B
  k : Kept (fun _ => False) w wx

theorem N10.keep {w : World} {v u : Value} {A B : List DD} {wx wy : World} (h : N10 w v u A B wx) (hk : Kept (fun _ => False) wx wy) : N10 w v u A B wy := ⟨h.a.keep hk, h.b.keep hk, h.k.trans hk (fun _ _ h => h)⟩

set_option maxHeartbeats 4000000 in
set_option maxRecDepth 100000 in
theorem ones10_any (L : Nat → SD) (w : World) (hD : ∀ i, i < 3 → Ds w w.heap.size (L i).ao (L i).es) :
    Calls Tryz.prog 4 #[.agg #[.slice (L 0).ao (L 0).es.length (L 0).cap, .slice (L 1).ao (L 1).es.length (L 1).cap, .slice (L 2).ao (L 2).es.length (L 2).cap]] w fun e w' => e = .returned (.bool true) ∧ Below w.heap.size w w' := by
  have HAW := Lib.hid (fun w => awake10_any w)
  have HFW := Lib.hid (fun (wx : World) (h : Kept (fun _ => False) w wx) => few10_any (L 0).ao (L 0).cap (L 0).es (L 1).ao (L 1).cap (L 1).es (L 2).ao (L 2).cap (L 2).es w.heap.size wx ((hD 0 (by omega)).keep h) ((hD 1 (by omega)).keep h) ((hD 2 (by omega)).keep h))
  have HT3 := Lib.hid (fun (hf : ∀ i, i < 3 → FewD (L i).es 10) (wx : World) (h : Kept (fun _ => False) w wx) => three10_any L w.heap.size wx h.size (fun i hi => (hD i hi).keep h) hf)
  have KB := Lib.hid ((Kept.refl (fun _ => False) w).alloc (.cells #[.slice (L 0).ao (L 0).es.length (L 0).cap, .slice (L 1).ao (L 1).es.length (L 1).cap, .slice (L 2).ao (L 2).es.length (L 2).cap] 23))
  have HBX := Lib.hid (show ∀ wx, Kept (fun _ => False) (w.alloc (.cells #[.slice (L 0).ao (L 0).es.length (L 0).cap, .slice (L 1).ao (L 1).es.length (L 1).cap, .slice (L 2).ao (L 2).es.length (L 2).cap] 23)) wx → wx.cell? ⟨w.heap.size, 0, none⟩ = some (.slice (L 0).ao (L 0).es.length (L 0).cap) ∧ wx.cell? ⟨w.heap.size, 1, none⟩ = some (.slice (L 1).ao (L 1).es.length (L 1).cap) ∧ wx.cell? ⟨w.heap.size, 2, none⟩ = some (.slice (L 2).ao (L 2).es.length (L 2).cap) from fun wx h => by
    have h0 := fun j => World.cell?_alloc_new w #[.slice (L 0).ao (L 0).es.length (L 0).cap, .slice (L 1).ao (L 1).es.length (L 1).cap, .slice (L 2).ao (L 2).es.length (L 2).cap] 23 j
    exact ⟨(h.cell (p := ⟨w.heap.size, 0, none⟩) (by simp) (fun h => h)).trans (h0 0), (h.cell (p := ⟨w.heap.size, 1, none⟩) (by simp) (fun h => h)).trans (h0 1), (h.cell (p := ⟨w.heap.size, 2, none⟩) (by simp) (fun h => h)).trans (h0 2)⟩)
  have H3 := Lib.hid (show (fewB (L 0).es 10 && fewB (L 1).es 10 && fewB (L 2).es 10) = few3 L from rfl)
  rw [H3.out] at HFW
  clear hD H3
  go_enter Tryz.func4, Tryz.ntmps4
  go_wp2_with fail
  refine (HAW.out _).mono ?_
  rintro e w1 ⟨rfl, k1⟩
  have K1 := Lib.hid k1; clear k1
  obtain ⟨c0, c1, c2⟩ := HBX.out _ K1.out
  go_wp2_with fail
  refine (HFW.out _ (KB.out.trans K1.out (fun _ _ h => h))).mono ?_
  rintro e w2 ⟨rfl, k2⟩
  have K2 := Lib.hid (K1.out.trans k2 (fun _ _ h => h)); clear k2 c0 c1 c2
  cases hf : few3 L with
  | false =>
    clear hf
    go_wp2_with fail
    refine (HAW.out _).mono ?_
    rintro e w4 ⟨rfl, k4⟩
    have K4 := Lib.hid ((KB.out.trans K2.out (fun _ _ h => h)).trans k4 (fun _ _ h => h)); clear k4
    go_wp2
    go_ret
    exact ⟨rfl, keeps_below7 K4.out⟩
  | true =>
    have HF := Lib.hid (few3_of hf)
    clear hf
    obtain ⟨c0, c1, c2⟩ := HBX.out _ K2.out
    go_wp2_with fail
    refine (HT3.out HF.out _ (KB.out.trans K2.out (fun _ _ h => h))).mono ?_
    rintro e w5 ⟨ok, P, X, rfl, k5, hdn⟩
    have K5 := Lib.hid ((KB.out.trans K2.out (fun _ _ h => h)).trans k5 (fun _ _ h => h)); have HDN := Lib.hid hdn
    clear k5 hdn c0 c1 c2
    unfold valS
    cases ok with
    | false =>
      go_wp2
      go_ret
      exact ⟨rfl, keeps_below7 ((K5.out.alloc _).alloc _)⟩
    | true =>
      have KC := Lib.hid (((Kept.refl (fun _ => False) w5).alloc (.cells #[.pointer (P 0), .pointer (P 1), .pointer (P 2)] 27)).alloc (.cells #[.slice (X 0).ao (X 0).es.length (X 0).cap, .slice (X 1).ao (X 1).es.length (X 1).cap, .slice (X 2).ao (X 2).es.length (X 2).cap] 23))
      have D0 := Lib.hid ((HDN.out rfl 0 (by omega)).keep KC.out)
      have D1 := Lib.hid ((HDN.out rfl 1 (by omega)).keep KC.out)
      have NL0 := Lib.hid (show (dds (X 0).es).length ≤ 500 by rw [dds_len]; have := done_len D0.out (HF.out 0 (by omega)); omega)
      have NL1 := Lib.hid (show (dds (X 1).es).length ≤ 500 by rw [dds_len]; have := done_len D1.out (HF.out 1 (by omega)); omega)
      have O5 := Lib.hid (show N10 w (.pointer (P 0)) (.pointer (P 1)) (dds (X 0).es) (dds (X 1).es) _ from ⟨D0.out.sn.keep (Kept.drew (Kept.refl _ _)), D1.out.sn.keep (Kept.drew (Kept.refl _ _)), (K5.out.trans KC.out (fun _ _ h => h)).trans (Kept.drew (Kept.refl (fun _ => False) _)) (fun _ _ h => h)⟩)
      have M1 := Lib.hid (fun (wx : World) (h : N10 w (.pointer (P 0)) (.pointer (P 1)) (dds (X 0).es) (dds (X 1).es) wx) => dmerge10_any (.pointer (P 0)) (.pointer (P 1)) (.pointer (P 0)) _ _ _ wx h.a h.b h.a NL0.out NL1.out NL0.out (by rw [(merge_ours ⟨h.a.rise, h.a.right⟩ ⟨h.b.rise, h.b.right⟩).1]; exact NL1.out))
      have M2 := Lib.hid (fun (wx : World) (h : N10 w (.pointer (P 0)) (.pointer (P 1)) (dds (X 0).es) (dds (X 1).es) wx) => dmerge10_any (.pointer (P 0)) (.pointer (P 1)) (.pointer (P 1)) _ _ _ wx h.a h.b h.b NL0.out NL1.out NL1.out (by rw [(merge_both (b := dds (X 0).es) ⟨h.b.rise, h.b.right⟩).1]; exact NL1.out))
      have M3 := Lib.hid (fun (wx : World) (h : N10 w (.pointer (P 0)) (.pointer (P 1)) (dds (X 0).es) (dds (X 1).es) wx) => dmerge10_any (.pointer (P 0)) (.pointer (P 0)) (.pointer (P 1)) _ _ _ wx h.a h.a h.b NL0.out NL0.out NL1.out (by rw [(merge_theirs ⟨h.a.rise, h.a.right⟩ ⟨h.b.rise, h.b.right⟩).1]; exact NL1.out))
      have S0 := Lib.hid (show Snp (dds (X 0).es) from ⟨O5.out.a.rise, O5.out.a.right⟩)
      have S1 := Lib.hid (show Snp (dds (X 1).es) from ⟨O5.out.b.rise, O5.out.b.right⟩)
      go_upto_region 6 with fail
      go_region
      all_goals clear D0 D1 KC HDN
      go_wp2_with fail
      refine (M1.out _ O5.out).mono ?_
      intro e w6 h6
      obtain ⟨s6, ao6, cap6, rfl, n6, k6⟩ := dm_none h6 (merge_ours S0.out S1.out).1 (merge_ours S0.out S1.out).2
      have O6 := Lib.hid (O5.out.keep k6); have N6 := Lib.hid n6
      clear h6 n6 k6
      go_wp2_with fail
      refine (M2.out _ O6.out).mono ?_
      intro e w7 h7
      obtain ⟨s7, ao7, cap7, rfl, n7, k7⟩ := dm_none h7 (merge_both S1.out).1 (merge_both S1.out).2
      have O7 := Lib.hid (O6.out.keep k7); have N7 := Lib.hid n7; have N67 := Lib.hid (N6.out.keep k7)
      clear h7 n7 k7
      go_wp2_with fail
      refine (M3.out _ O7.out).mono ?_
      intro e w8 h8
      obtain ⟨s8, ao8, cap8, rfl, n8, k8⟩ := dm_none h8 (merge_theirs S0.out S1.out).1 (merge_theirs S0.out S1.out).2
      have O8 := Lib.hid (O7.out.keep k8); have N8 := Lib.hid n8; have N68 := Lib.hid (N67.out.keep k8); have N78 := Lib.hid (N7.out.keep k8)
      clear h8 n8 k8
      have HSS := Lib.hid (show sameL (dds (X 1).es) (dds (X 1).es) = true from decide_eq_true rfl)
      have E1 := Lib.hid (ssame_any N68.out O8.out.b)
      have E2 := Lib.hid (fun (wx : World) (h : Kept (fun _ => False) w8 wx) => ssame_any (N78.out.keep h) (O8.out.b.keep h))
      have E3 := Lib.hid (fun (wx : World) (h : Kept (fun _ => False) w8 wx) => ssame_any (N8.out.keep h) (O8.out.b.keep h))
      rw [HSS.out] at E1 E2 E3
      go_wp2_with fail
      refine E1.out.mono ?_
      rintro e w9 ⟨rfl, k9⟩
      have K9 := Lib.hid k9; clear k9
      go_wp2_with fail
      refine (E2.out _ K9.out).mono ?_
      rintro e w10 ⟨rfl, k10⟩
      have K10 := Lib.hid (K9.out.trans k10 (fun _ _ h => h)); clear k10
      go_wp2_with fail
      refine (E3.out _ K10.out).mono ?_
      rintro e w11 ⟨rfl, k11⟩
      go_wp2
      go_ret
      exact ⟨rfl, keeps_below7 ((O8.out.k.trans K10.out (fun _ _ h => h)).trans k11 (fun _ _ h => h))⟩

end Go.Proofs.YtlnincdmdegaoaaGreat
