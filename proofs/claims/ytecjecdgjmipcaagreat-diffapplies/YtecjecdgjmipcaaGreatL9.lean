/-
  The laws of layer 9: awake; patches of bounded size.
-/
import Derived.Test.YtecjecdgjmipcaaGreatDz
import Derived.Test.YtecjecdgjmipcaaGreatGL7
import Derived.Test.YtecjecdgjmipcaaGreatGPp
namespace Go.Proofs.YtecjecdgjmipcaaGreat
open Go.RowKit Go.Mk Go.Maps

theorem Sn.snp {w : World} {v : Value} {l : List DD} (h : Sn w v l) : Snp l := ⟨h.rise, h.right⟩

theorem key_small {d : DD} (h : rightD d = true) : (keyD d).length ≤ 702 := by
  have h1 := right_small h
  have := h1.c; have := h1.s
  unfold keyD
  rw [if_pos h]
  split
  · simp; omega
  · omega

/-- The edits of a patch between snapshots are of bounded size. -/
theorem of_len9 {A B : List DD} (hA : Snp A) (hB : Snp B) {q : List EE} (hq : eds q = ofL A B) : ∀ e ∈ q, Len9 e := by
  intro e he
  have hm : edE e ∈ ofL A B := by rw [← hq]; exact List.mem_map_of_mem he
  obtain ⟨h1, h2, h3⟩ := mem_ofL.1 hm
  have hr := (rightE_iff.1 (ofL_rightE hA hB hm)).2
  have l1 := (sideB_iff.1 hr.1).1
  have l2 := (sideB_iff.1 hr.2.1).1
  simp only [edE, dds_len] at l1 l2
  have m1 : ∀ x ∈ e.old.es, rightD x.1 = true := fun x hx => by
    have : x.1 ∈ getK keyD e.key A := by
      have h0 : dds e.old.es = getK keyD e.key A := h1
      rw [← h0]; exact List.mem_map_of_mem hx
    exact hA.right _ (mem_getK.1 this).1
  have m2 : ∀ x ∈ e.new.es, rightD x.1 = true := fun x hx => by
    have : x.1 ∈ getK keyD e.key B := by
      have h0 : dds e.new.es = getK keyD e.key B := h2
      rw [← h0]; exact List.mem_map_of_mem hx
    exact hB.right _ (mem_getK.1 this).1
  refine ⟨?_, fun x hx => len8_right (m1 x hx), fun x hx => len8_right (m2 x hx), by omega, by omega⟩
  by_cases ho : e.old.es = []
  · by_cases hn : e.new.es = []
    · exact (h3 (by simp [edE, ho, hn])).elim
    · obtain ⟨x, hx⟩ := List.exists_mem_of_ne_nil _ hn
      have hk := (sideB_iff.1 hr.2.1).2 x.1 (List.mem_map_of_mem hx)
      have := key_small (m2 x hx)
      simp only [edE] at hk
      rw [← hk]; omega
  · obtain ⟨x, hx⟩ := List.exists_mem_of_ne_nil _ ho
    have hk := (sideB_iff.1 hr.1).2 x.1 (List.mem_map_of_mem hx)
    have := key_small (m1 x hx)
    simp only [edE] at hk
    rw [← hk]; omega

theorem ofL_len_le (A B : List DD) : (ofL A B).length ≤ A.length + B.length := by
  have h1 : (ofL A B).length ≤ (keysL (A ++ B)).length := List.length_filterMap_le _ _
  have h2 : ∀ (l : List DD) (s : List (List UInt8)), Rise id s → (l.foldl (fun s d => putK id (keyD d) s) s).length ≤ s.length + l.length := by
    intro l
    induction l with
    | nil => intro s _; simp
    | cons d r ih =>
      intro s hs
      rw [List.foldl_cons]
      have h3 := ih _ (rise_putK (a := keyD d) hs)
      have h4 := putK_le (a := keyD d) hs
      simp only [List.length_cons]
      omega
  have h3 := h2 (A ++ B) [] List.Pairwise.nil
  simp only [List.length_nil, List.length_append, Nat.zero_add] at h3
  unfold keysL at h1
  omega

theorem exa_new : newL (dds [(exA, none, 0)]) = (0, [exA]) := by decide +kernel
theorem exa_of : ofL [] [exA] = [⟨[65], [], [exA]⟩] := by decide +kernel
theorem exa_of2 : ofL [exA] [exA] = [] := by decide +kernel

theorem exa_ds (w : World) : Ds (w.alloc (.cells #[.int .i64 1, .string (bs [65]), .string (bs [79, 98, 106, 101, 99, 116]), .slice none 0 0, .string (bs []), .string (bs [])] 49)) (w.heap.size + 1) (some ⟨w.heap.size, 0, none⟩) [(exA, none, 0)] := by
  have h := sd_one w (exA, none, 0) 49 ⟨Lies.nil _ _ _, by decide⟩
  exact h.ds

set_option maxHeartbeats 1000000 in
set_option maxRecDepth 100000 in
theorem awake9_any (w : World) : Calls Tryz.prog 7 #[] w fun e w' => e = .returned (.bool true) ∧ Kept (fun _ => False) w w' := by
  have KA := Lib.hid ((Kept.refl (fun _ => False) w).alloc (.cells #[.int .i64 1, .string (bs [65]), .string (bs [79, 98, 106, 101, 99, 116]), .slice none 0 0, .string (bs []), .string (bs [])] 49))
  have HDS : Ds ((w.alloc (.cells #[.int .i64 1, .string (bs [65]), .string (bs [79, 98, 106, 101, 99, 116]), .slice none 0 0, .string (bs []), .string (bs [])] 49)).alloc (.cells #[.int .i64 1, .string (bs [65]), .string (bs [79, 98, 106, 101, 99, 116]), .slice none 0 0, .string (bs []), .string (bs [])] 49)) (w.heap.size + 2) (some ⟨w.heap.size + 1, 0, none⟩) [(exA, none, 0)] := by
    have h := exa_ds (w.alloc (.cells #[.int .i64 1, .string (bs [65]), .string (bs [79, 98, 106, 101, 99, 116]), .slice none 0 0, .string (bs []), .string (bs [])] 49))
    rw [World.size_alloc] at h
    exact h
  have HN := Lib.hid (snew_any (some ⟨w.heap.size + 1, 0, none⟩) 1 [(exA, none, 0)] _ _ (by rw [World.size_alloc, World.size_alloc]; omega) HDS (fun e he => ex_len e (by rw [List.mem_singleton] at he; rw [he]; simp)) (by decide))
  rw [exa_new] at HN
  clear HDS
  go_enter Tryz.func7, Tryz.ntmps7
  go_wp2_with fail
  refine HN.out.mono ?_
  rintro e w1 ⟨v, rfl, hv, _, hs, k1⟩
  obtain ⟨s, rfl⟩ := hv rfl
  have HS := Lib.hid hs; have K1 := Lib.hid ((KA.out.alloc _).trans k1 (fun _ _ h => h))
  clear hs k1 hv
  dsimp only at HS
  have HO := Lib.hid (dof_any (.pointer none) (.pointer (some ⟨s, 0, none⟩)) [] [exA] w1 (sn_nil _) HS.out (by decide) (by decide))
  rw [exa_of] at HO
  go_wp2_with fail
  refine HO.out.mono ?_
  rintro e w2 ⟨pa, pc, q, rfl, hq, he2, k2⟩
  obtain ⟨e0, rfl⟩ : ∃ e0, q = [e0] := List.length_eq_one_iff.1 (by have := congrArg List.length hq; rw [eds_len] at this; exact this)
  obtain ⟨key, ⟨oao, ocap, oes⟩, ⟨nao, ncap, nes⟩⟩ := e0
  simp only [eds, edE, List.map_cons, List.map_nil, List.cons.injEq, ED.mk.injEq, and_true] at hq
  obtain ⟨rfl, ho, hn⟩ := hq
  have ho2 : oes.length = 0 := by rw [← dds_len, ho]; rfl
  have hn2 : nes.length = 1 := by rw [← dds_len, hn]; rfl
  obtain ⟨b, off, rfl, hb, hc⟩ := he2.row (by simp)
  obtain ⟨c0, c1, c2⟩ := hc 0 (by simp)
  simp only [List.getElem_cons_zero, Nat.zero_mul, Nat.add_zero, ho2, hn2] at c0 c1 c2
  have K2 := Lib.hid (K1.out.trans k2 (fun _ _ h => h))
  have HP := Lib.hid (dof_any (.pointer (some ⟨s, 0, none⟩)) (.pointer (some ⟨s, 0, none⟩)) [exA] [exA] w2 (HS.out.keep k2) (HS.out.keep k2) (by decide) (by decide))
  rw [exa_of2] at HP
  have hk1 : ((bs [65]).toList == [65]) = true := by rw [bs_list]; rfl
  clear k2 hc he2 ho hn ho2 hn2 hb
  go_wp2_with fail
  refine HP.out.mono ?_
  rintro e w3 ⟨pa3, pc3, q3, rfl, hq3, _, k3⟩
  have hq4 : q3.length = 0 := by have := congrArg List.length hq3; rw [eds_len] at this; exact this
  obtain rfl : q3 = [] := List.eq_nil_of_length_eq_zero hq4
  have K3 := Lib.hid (K2.out.trans k3 (fun _ _ h => h))
  clear hq3 hq4 k3
  go_wp2
  go_ret
  exact ⟨rfl, K3.out⟩

end Go.Proofs.YtecjecdgjmipcaaGreat
