/-
  Lemmas towards the claim of this folder: contracts of the functions that the law reaches; joined texts.
-/
import Derived.Test.YtecjecdgjmipcaaGreatGDg
import Derived.Test.YtecjecdgjmipcaaGreatGR6
import Derived.Test.YtecjecdgjmipcaaGreatDj
import Derived.Test.YtecjecdgjmipcaaGreatGPn
import Derived.Test.YtecjecdgjmipcaaGreatGNc
/-
  CONTRACTS of the reference of layer 7: Right.
-/
namespace Go.Proofs.YtecjecdgjmipcaaGreat
open Go.RowKit Go.Mk

theorem rr_class {d : DD} (h : isCl d.c = false) : rightD d = false := by
  unfold rightD rightC rightM ownCl
  rw [h]
  simp
theorem rr_vars {d : DD} (h : d.k = 1) (hv : varsL d.vs = false) : rightD d = false := by
  rw [rightD_one h]; unfold rightC areVars; rw [hv]; simp
theorem rr_rest {d : DD} (h : d.k = 1) (hc : isCl d.c = true) (hv : varsL d.vs = true) : rightD d = (!builtins.contains d.c && isCl d.p && decide (d.vs.length ≤ 20) && d.s.isEmpty && d.t.isEmpty) := by
  rw [rightD_one h]; unfold rightC areVars ownCl; rw [hv, hc]; simp
theorem rr_meth {d : DD} (h : d.k = 2) (hc : isCl d.c = true) : rightD d = (isSel d.s && decide (d.t.length ≤ 4000) && d.p.isEmpty && d.vs.isEmpty) := by
  rw [rightD_two h]; unfold rightM; rw [hc]; simp

set_option maxHeartbeats 2000000 in
set_option maxRecDepth 100000 in
theorem rright_class (d : DD) (ao : Option Addr) (cap : Nat) (B : Nat) (w : World) (hcl : isCl d.c = true) (hk : d.k = 1) (hA : Lies w B ao (strs d.vs)) (hc : d.vs.length ≤ cap) (hl : d.vs.length ≤ 1099511627776) :
    Calls Tryz.prog 73 #[.agg #[.int .i64 d.k, .string (bs d.c), .string (bs d.p), .slice ao d.vs.length cap, .string (bs d.s), .string (bs d.t)]] w fun e w' => e = .returned (.bool (rightD d)) ∧ Kept (fun _ => False) w w' := by
  have hbx := bx_new w ao cap d 49
  have hk0 := (Kept.refl (fun _ => False) w).alloc (.cells #[.int .i64 d.k, .string (bs d.c), .string (bs d.p), .slice ao d.vs.length cap, .string (bs d.s), .string (bs d.t)] 49)
  have hv0 := fun h => rr_vars (d := d) hk h
  have hv1 := fun h => rr_rest (d := d) hk hcl h
  have h1 := fun w => rcl_any d.c w
  rw [hcl] at h1
  obtain ⟨k, c, p, vs, s, t⟩ := d
  dsimp only at *
  subst hk
  generalize rightD ⟨1, c, p, vs, s, t⟩ = res at *
  have h2 := fun w => rcl_any p w
  have h3 := fun w => ralw_any c w
  have H1 := Lib.hid h1; have H2 := Lib.hid h2; have H3 := Lib.hid h3; have HB := Lib.hid hbx; have HK0 := Lib.hid hk0; have HA := Lib.hid hA; have HV0 := Lib.hid hv0; have HV1 := Lib.hid hv1
  clear h1 h2 h3 hbx hk0 hA hcl hv0 hv1
  have z1 := bs_list s
  have z2 := bs_list t
  go_enter Tryz.func73, Tryz.ntmps73
  go_wp2_with fail
  refine (H1.out _).mono ?_; rintro e w1 ⟨rfl, rfl⟩
  go_wp2
  go_loopg [3] vs.length (fun k v wr => ∃ j : Nat, k = vs.length - j ∧ v = .int .i64 (j : Int) ∧ j ≤ vs.length ∧ varsTo vs j = true ∧ Bx wr w.heap.size ao cap ⟨1, c, p, vs, s, t⟩ ∧ Kept (fun _ => False) w wr)
  case atStart => exact ⟨0, rfl, rfl, Nat.zero_le _, rfl, HB.out, HK0.out⟩
  case round =>
    obtain ⟨j, hk, rfl, hj, hev, hb, hkp⟩ := hrel
    have HK := Lib.hid hk; have HEV := Lib.hid hev; have HKP := Lib.hid hkp; have HBR := Lib.hid hb; clear hk hev hkp
    obtain ⟨c0, c1, c2, c3, c4, c5⟩ := hb
    dsimp only at c0 c1 c2 c3 c4 c5
    by_cases hlt : j < vs.length
    · have hA1 := HA.out.kept HKP.out (fun _ _ _ h => h)
      obtain ⟨xb, xo, rfl, hxb, hc'⟩ := hA1 (by intro h; simp [strs] at h; rw [h] at hlt; simp at hlt)
      have hx : wr.cell? ⟨xb, xo + j, none⟩ = some (.string (bs vs[j])) := hc' j _ (by simp [strs, hlt])
      clear hc'
      have i1 : (j : Int) < (vs.length : Int) := by omega
      have i2 : (j : Int) ≤ (cap : Int) := by omega
      have hv := fun w => rvar_any vs[j] w
      have htl : j = (vs.take j).length := by rw [List.length_take]; omega
      have hcn := fun (w1 : World) (h : Kept (fun _ => False) wr w1) => rin_any (some ⟨xb, xo, none⟩) cap (vs.take j) vs[j] B w1 (by rw [strs_take]; exact (hA1.kept h (fun _ _ _ h => h)).take j) (by omega)
      rw [← htl] at hcn
      have hxk := fun (w1 : World) (h : Kept (fun _ => False) wr w1) => (h.cell (p := ⟨xb, xo + j, none⟩) (World.block_lt_of_cell? _ _ hx) (fun h => h)).trans hx
      have hva := varAt_lt hlt
      have hno := fun h => varsL_no hlt h
      have hsu := varsTo_succ vs j
      have HC := Lib.hid hcn; have HV := Lib.hid hv; have HVA := Lib.hid hva; have HNO := Lib.hid hno; have HSU := Lib.hid hsu; have HXK := Lib.hid hxk; clear hcn hv hva hno hsu hA1 htl hxk
      generalize (vs.take j).contains vs[j] = r2 at *
      generalize isVa vs[j] = r1 at *
      generalize vs[j] = x at *
      cases r1 with
      | false =>
        go_wp2_with fail
        refine wp_region_any (by kernel_rfl) ?_
        change wpAny _ _ _ _ _ _ _ (World.drew _)
        refine wpAny_take (i := 0) (oi := { dst := some 18, op := .fieldAddr 49 (.tmp 1) 3, type := _, pos := _, after := _, guard := none }) (v := .pointer (some ⟨w.heap.size, 3, none⟩)) rfl (by kernel_rfl) (by kernel_rfl) (by kernel_rfl) (fun _ _ _ h => h) (Or.inl ⟨by rfl, by intro w; go_simp⟩) ?_; simp only [Act.put, List.setIfInBounds_toArray, List.set_cons_zero, List.set_cons_succ]
        refine wpAny_take (i := 2) (oi := { dst := some 20, op := .move (.tmp 3), type := _, pos := _, after := _, guard := none }) (v := .int .i64 (j : Int)) rfl (by kernel_rfl) (by kernel_rfl) (by kernel_rfl) (fun _ _ _ h => h) (Or.inl ⟨by rfl, by intro w; go_simp⟩) ?_; simp only [Act.put, List.setIfInBounds_toArray, List.set_cons_zero, List.set_cons_succ]
        refine wpAny_ready (rs := [1]) (by kernel_rfl) (by simp) ?_; refine (AllReady.cons (o := { dst := some 19, op := .load 39 (.tmp 18), type := _, pos := _, after := _, guard := none }) rfl (fun K hK => ?_) AllReady.nil); go_simp; refine hK _ _ ?_; clear hK K; try simp only [Act.put, List.setIfInBounds_toArray, List.set_cons_zero, List.set_cons_succ]
        refine wpAny_take (i := 3) (oi := { dst := some 21, op := .indexAddr 39 (.tmp 19) (.tmp 20), type := _, pos := _, after := _, guard := none }) (v := .pointer (some ⟨xb, xo + j, none⟩)) rfl (by kernel_rfl) (by kernel_rfl) (by kernel_rfl) (fun _ _ _ h => h) (Or.inl ⟨by rfl, by intro w; go_simp⟩) ?_; simp only [Act.put, List.setIfInBounds_toArray, List.set_cons_zero, List.set_cons_succ]
        refine wpAny_ready (rs := [4]) (by kernel_rfl) (by simp) ?_; refine (AllReady.cons (o := { dst := some 22, op := .load 9 (.tmp 21), type := _, pos := _, after := _, guard := none }) rfl (fun K hK => ?_) AllReady.nil); go_simp; refine hK _ _ ?_; clear hK K; try simp only [Act.put, List.setIfInBounds_toArray, List.set_cons_zero, List.set_cons_succ]
        refine wpAny_ready (rs := [5]) (by kernel_rfl) (by simp) ?_; refine (AllReady.cons (o := { dst := some 23, op := .call { callee := .value (.func 105), args := #[.tmp 22], argTypes := #[9] }, type := _, pos := _, after := _, guard := none }) rfl (fun K hK => ?_) AllReady.nil); go_simp
        go_wp2_with (go_at_call 105; refine (HV.out _).mono ?_; rintro e w2 ⟨rfl, k2⟩)
        try simp only [Act.put, List.setIfInBounds_toArray, List.set_cons_zero, List.set_cons_succ]
        refine wpAny_take (i := 6) (oi := { dst := some 24, op := .unOp .not 4 (.tmp 23), type := _, pos := _, after := _, guard := none }) (v := .bool true) rfl (by kernel_rfl) (by kernel_rfl) (by kernel_rfl) (fun _ _ _ h => h) (Or.inl ⟨by rfl, by intro w; go_simp⟩) ?_; simp only [Act.put, List.setIfInBounds_toArray, List.set_cons_zero, List.set_cons_succ]
        refine wpAny_take (i := 7) (oi := { dst := some 25, op := .move (.tmp 24), type := _, pos := _, after := _, guard := none }) (v := .bool true) rfl (by kernel_rfl) (by kernel_rfl) (by kernel_rfl) (fun _ _ _ h => h) (Or.inl ⟨by rfl, by intro w; go_simp⟩) ?_; simp only [Act.put, List.setIfInBounds_toArray, List.set_cons_zero, List.set_cons_succ]
        refine wpAny_take (i := 8) (oi := { dst := some 26, op := _, type := _, pos := _, after := _, guard := some (7, false) }) (v := undef) rfl (by kernel_rfl) (by kernel_rfl) (by kernel_rfl) (fun _ _ _ h => h) (Or.inr ⟨by rfl, rfl⟩) ?_; simp only [Act.put, List.setIfInBounds_toArray, List.set_cons_zero, List.set_cons_succ]
        refine wpAny_take (i := 9) (oi := { dst := some 27, op := _, type := _, pos := _, after := _, guard := some (7, false) }) (v := undef) rfl (by kernel_rfl) (by kernel_rfl) (by kernel_rfl) (fun _ _ _ h => h) (Or.inr ⟨by rfl, rfl⟩) ?_; simp only [Act.put, List.setIfInBounds_toArray, List.set_cons_zero, List.set_cons_succ]
        refine wpAny_take (i := 10) (oi := { dst := some 28, op := _, type := _, pos := _, after := _, guard := some (7, false) }) (v := undef) rfl (by kernel_rfl) (by kernel_rfl) (by kernel_rfl) (fun _ _ _ h => h) (Or.inr ⟨by rfl, rfl⟩) ?_; simp only [Act.put, List.setIfInBounds_toArray, List.set_cons_zero, List.set_cons_succ]
        refine wpAny_take (i := 11) (oi := { dst := some 29, op := _, type := _, pos := _, after := _, guard := some (7, false) }) (v := undef) rfl (by kernel_rfl) (by kernel_rfl) (by kernel_rfl) (fun _ _ _ h => h) (Or.inr ⟨by rfl, rfl⟩) ?_; simp only [Act.put, List.setIfInBounds_toArray, List.set_cons_zero, List.set_cons_succ]
        refine wpAny_take (i := 12) (oi := { dst := some 30, op := _, type := _, pos := _, after := _, guard := some (7, false) }) (v := undef) rfl (by kernel_rfl) (by kernel_rfl) (by kernel_rfl) (fun _ _ _ h => h) (Or.inr ⟨by rfl, rfl⟩) ?_; simp only [Act.put, List.setIfInBounds_toArray, List.set_cons_zero, List.set_cons_succ]
        refine wpAny_take (i := 13) (oi := { dst := some 31, op := _, type := _, pos := _, after := _, guard := some (7, false) }) (v := undef) rfl (by kernel_rfl) (by kernel_rfl) (by kernel_rfl) (fun _ _ _ h => h) (Or.inr ⟨by rfl, rfl⟩) ?_; simp only [Act.put, List.setIfInBounds_toArray, List.set_cons_zero, List.set_cons_succ]
        refine wpAny_take (i := 14) (oi := { dst := some 32, op := _, type := _, pos := _, after := _, guard := some (7, false) }) (v := undef) rfl (by kernel_rfl) (by kernel_rfl) (by kernel_rfl) (fun _ _ _ h => h) (Or.inr ⟨by rfl, rfl⟩) ?_; simp only [Act.put, List.setIfInBounds_toArray, List.set_cons_zero, List.set_cons_succ]
        refine wpAny_take (i := 15) (oi := { dst := some 33, op := _, type := _, pos := _, after := _, guard := some (7, false) }) (v := undef) rfl (by kernel_rfl) (by kernel_rfl) (by kernel_rfl) (fun _ _ _ h => h) (Or.inr ⟨by rfl, rfl⟩) ?_; simp only [Act.put, List.setIfInBounds_toArray, List.set_cons_zero, List.set_cons_succ]
        refine wpAny_take (i := 16) (oi := { dst := some 34, op := _, type := _, pos := _, after := _, guard := some (7, false) }) (v := undef) rfl (by kernel_rfl) (by kernel_rfl) (by kernel_rfl) (fun _ _ _ h => h) (Or.inr ⟨by rfl, rfl⟩) ?_; simp only [Act.put, List.setIfInBounds_toArray, List.set_cons_zero, List.set_cons_succ]
        refine wpAny_take (i := 17) (oi := { dst := some 35, op := _, type := _, pos := _, after := _, guard := some (7, false) }) (v := undef) rfl (by kernel_rfl) (by kernel_rfl) (by kernel_rfl) (fun _ _ _ h => h) (Or.inr ⟨by rfl, rfl⟩) ?_; simp only [Act.put, List.setIfInBounds_toArray, List.set_cons_zero, List.set_cons_succ]
        refine wpAny_take (i := 18) (oi := { dst := some 36, op := .pick (.tmp 25) (.const (.bool true)) (.tmp 35), type := _, pos := _, after := _, guard := none }) (v := .bool true) rfl (by kernel_rfl) (by kernel_rfl) (by kernel_rfl) (fun _ _ _ h => h) (Or.inl ⟨by rfl, by intro w; go_simp⟩) ?_; simp only [Act.put, List.setIfInBounds_toArray, List.set_cons_zero, List.set_cons_succ]
        refine wpAny_done (by kernel_rfl) ?_ _
        all_goals go_wp2
        all_goals go_ret
        all_goals exact ⟨by rw [HV0.out (HNO.out (by rw [HVA.out]; rfl))]; rfl, HKP.out.drew.trans k2 (fun _ _ h => h)⟩
      | true =>
        go_wp2_with fail
        go_region_with (first
          | (go_at_call 105; refine (HV.out _).mono ?_; rintro e w2 ⟨rfl, k2⟩; have K2 := Lib.hid (Mk.Kept.of_drew k2); have hx2 := HXK.out _ K2.out; have hb2 := HBR.out.kept K2.out (fun h => h); have HB2 := Lib.hid hb2; have e3 := hb2.c3; dsimp only at e3; clear k2 hb2)
          | (go_at_call 106; go_must (refine (HC.out _ K2.out).mono ?_; rintro e w3 ⟨rfl, rfl⟩)))
        all_goals cases r2 with
          | true =>
            go_wp2
            go_ret
            exact ⟨by rw [HV0.out (HNO.out (by rw [HVA.out]; rfl))]; rfl, HKP.out.trans K2.out (fun _ _ h => h)⟩
          | false =>
            go_wp2
            go_roundg (vs.length - (j + 1))
            case measure => have := HK.out; omega
            case rel => exact ⟨j + 1, rfl, by go_num, by omega, by rw [HSU.out, HEV.out, HVA.out]; rfl, HB2.out, HKP.out.trans K2.out (fun _ _ h => h)⟩
    · obtain rfl : j = vs.length := by omega
      have hres := HV1.out HEV.out
      clear HV0 HV1 HEV HK
      generalize hlen : vs.length = n at *
      generalize builtins.contains c = r1 at *
      generalize isCl p = r2 at *
      have HR := Lib.hid hres; clear hres
      have HN := Lib.hid hlen; clear hlen
      cases r1 with
      | true =>
        go_wp2_with fail
        refine (H3.out _).mono ?_; rintro e w1 ⟨rfl, k1⟩
        go_wp2
        go_ret
        exact ⟨by rw [HR.out]; rfl, HKP.out.trans k1 (fun _ _ h => h)⟩
      | false =>
        go_wp2_with fail
        refine (H3.out _).mono ?_; rintro e w1 ⟨rfl, k1⟩
        have HB1 := Lib.hid (HBR.out.kept (S := fun _ => False) k1 (fun h => h))
        clear c0 c1 c2 c3 c4 c5
        obtain ⟨_, _, c2, c3, c4, c5⟩ := HB1.out
        dsimp only at c2 c3 c4 c5
        rw [HN.out] at c3
        have K1 := Lib.hid (HKP.out.trans k1 (fun _ _ h => h)); clear k1
        go_wp2_with fail
        refine (H2.out _).mono ?_; rintro e w2 ⟨rfl, rfl⟩
        cases r2 with
        | false =>
          go_wp2
          go_ret
          exact ⟨by rw [HR.out]; rfl, K1.out⟩
        | true =>
          by_cases hn : n ≤ 20
          · have hn1 : (n : Int) ≤ 20 := by omega
            have HN1 := Lib.hid (decide_eq_true hn); clear hn
            cases s with
            | cons b s =>
              go_wp2
              go_ret
              exact ⟨by rw [HR.out]; simp, K1.out⟩
            | nil =>
              go_wp2
              go_ret
              exact ⟨by rw [HR.out, HN1.out]; simp, K1.out⟩
          · have hn1 : ¬ (n : Int) ≤ 20 := by omega
            have HN1 := Lib.hid (decide_eq_false hn); clear hn
            go_wp2
            go_ret
            exact ⟨by rw [HR.out, HN1.out]; simp, K1.out⟩

set_option maxHeartbeats 2000000 in
set_option maxRecDepth 100000 in
theorem rright_method (d : DD) (ao : Option Addr) (cap : Nat) (w : World) (hcl : isCl d.c = true) (hk : d.k = 2) (hl : d.s.length ≤ 1099511627776) :
    Calls Tryz.prog 73 #[.agg #[.int .i64 d.k, .string (bs d.c), .string (bs d.p), .slice ao d.vs.length cap, .string (bs d.s), .string (bs d.t)]] w fun e w' => e = .returned (.bool (rightD d)) ∧ Kept (fun _ => False) w w' := by
  have hbx := bx_new w ao cap d 49
  have hk0 := (Kept.refl (fun _ => False) w).alloc (.cells #[.int .i64 d.k, .string (bs d.c), .string (bs d.p), .slice ao d.vs.length cap, .string (bs d.s), .string (bs d.t)] 49)
  have hv1 := rr_meth (d := d) hk hcl
  have h1 := fun w => rcl_any d.c w
  rw [hcl] at h1
  obtain ⟨k, c, p, vs, s, t⟩ := d
  dsimp only at *
  subst hk
  generalize rightD ⟨2, c, p, vs, s, t⟩ = res at *
  have h2 := fun w => rkind_any s w hl
  have hsel : isSel s = decide (0 < (kindL s : Int)) := by
    unfold isSel
    by_cases h : kindL s = 0
    · simp [h]
    · rw [decide_eq_true h, decide_eq_true (by omega)]
  rw [hsel] at hv1
  generalize kindL s = n at *
  have H1 := Lib.hid h1; have H2 := Lib.hid h2; have HB := Lib.hid hbx; have HK0 := Lib.hid hk0; have HV1 := Lib.hid hv1
  clear h1 h2 hbx hk0 hcl hv1 hsel
  have z0 : (bs t).size = t.length := rfl
  have z1 := bs_list p
  go_enter Tryz.func73, Tryz.ntmps73
  go_wp2_with fail
  refine (H1.out _).mono ?_; rintro e w1 ⟨rfl, rfl⟩
  go_wp2_with fail
  refine (H2.out _).mono ?_; rintro e w2 ⟨rfl, k2⟩
  obtain ⟨_, _, c2, c3, c4, c5⟩ := HB.out.kept k2 (fun h => h)
  dsimp only at c2 c3 c4 c5
  have K2 := Lib.hid (HK0.out.trans k2 (fun _ _ h => h)); clear k2
  by_cases hn : 0 < (n : Int)
  · have E0 := Lib.hid (decide_eq_true hn)
    by_cases ht : t.length ≤ 4000
    · have ht1 : (t.length : Int) ≤ 4000 := by omega
      have E1 := Lib.hid (decide_eq_true ht); clear ht
      cases p with
      | cons b p =>
        go_wp2
        go_ret
        exact ⟨by rw [HV1.out, E0.out, E1.out]; rfl, K2.out⟩
      | nil =>
        cases vs with
        | nil =>
          go_wp2
          go_ret
          exact ⟨by rw [HV1.out, E0.out, E1.out]; rfl, K2.out⟩
        | cons v vs =>
          have hn : ((((v :: vs).length : Nat) : Int) == 0) = false := by rw [beq_eq_false_iff_ne]; simp only [List.length_cons]; omega
          go_wp2
          go_ret
          exact ⟨by rw [HV1.out, E0.out, E1.out]; rfl, K2.out⟩
    · have ht1 : ¬ (t.length : Int) ≤ 4000 := by omega
      have E1 := Lib.hid (decide_eq_false ht); clear ht
      go_wp2
      go_ret
      exact ⟨by rw [HV1.out, E0.out, E1.out]; rfl, K2.out⟩
  · have E0 := Lib.hid (decide_eq_false hn)
    go_wp2
    go_ret
    exact ⟨by rw [HV1.out, E0.out]; rfl, K2.out⟩

set_option maxHeartbeats 400000 in
theorem rright_any (d : DD) (ao : Option Addr) (cap : Nat) (B : Nat) (w : World) (hA : Lies w B ao (strs d.vs)) (hc : d.vs.length ≤ cap) (hl : d.vs.length ≤ 1099511627776) (hl2 : d.s.length ≤ 1099511627776) :
    Calls Tryz.prog 73 #[.agg #[.int .i64 d.k, .string (bs d.c), .string (bs d.p), .slice ao d.vs.length cap, .string (bs d.s), .string (bs d.t)]] w fun e w' => e = .returned (.bool (rightD d)) ∧ Kept (fun _ => False) w w' := by
  have hk0 := (Kept.refl (fun _ => False) w).alloc (.cells #[.int .i64 d.k, .string (bs d.c), .string (bs d.p), .slice ao d.vs.length cap, .string (bs d.s), .string (bs d.t)] 49)
  have HK0 := Lib.hid hk0; clear hk0
  have h1 := fun w => rcl_any d.c w
  cases hcl : isCl d.c with
  | false =>
    rw [rr_class hcl]
    rw [hcl] at h1
    have H1 := Lib.hid h1; clear h1 hcl hA
    go_enter Tryz.func73, Tryz.ntmps73
    go_wp2_with fail
    refine (H1.out _).mono ?_; rintro e w1 ⟨rfl, rfl⟩
    go_wp2
    go_ret
    exact ⟨rfl, HK0.out⟩
  | true =>
    by_cases k1 : d.k = 1
    · exact rright_class d ao cap B w hcl k1 hA hc hl
    · by_cases k2 : d.k = 2
      · exact rright_method d ao cap w hcl k2 hl2
      · rw [rightD_no k1 k2]
        rw [hcl] at h1
        have b1 : (d.k == 1) = false := by simpa using k1
        have b2 : (d.k == 2) = false := by simpa using k2
        have H1 := Lib.hid h1; clear h1 hcl hA k1 k2
        go_enter Tryz.func73, Tryz.ntmps73
        go_wp2_with fail
        refine (H1.out _).mono ?_; rintro e w1 ⟨rfl, rfl⟩
        go_wp2
        go_ret
        exact ⟨rfl, HK0.out⟩

end Go.Proofs.YtecjecdgjmipcaaGreat

/-
  CONTRACTS of the reference of layer 7: Key, Same, Small.
-/
namespace Go.Proofs.YtecjecdgjmipcaaGreat
open Go.RowKit Go.Mk

set_option maxHeartbeats 1000000 in
set_option maxRecDepth 100000 in
theorem rsame7_any (a b : DD) (ao ao' : Option Addr) (cap cap' : Nat) (B : Nat) (w : World) (hA : Lies w B ao (strs a.vs)) (hB : Lies w B ao' (strs b.vs)) (hl : a.vs.length ≤ 1099511627776) (hl2 : b.vs.length ≤ 1099511627776) :
    Calls Tryz.prog 29 #[.agg #[.int .i64 a.k, .string (bs a.c), .string (bs a.p), .slice ao a.vs.length cap, .string (bs a.s), .string (bs a.t)], .agg #[.int .i64 b.k, .string (bs b.c), .string (bs b.p), .slice ao' b.vs.length cap', .string (bs b.s), .string (bs b.t)]] w fun e w' => e = .returned (.bool (sameB a b)) ∧ Kept (fun _ => False) w w' := by
  have hbx := bx_new2 w ao ao' cap cap' a b 49
  have hk0 := ((Kept.refl (fun _ => False) w).alloc (.cells #[.int .i64 a.k, .string (bs a.c), .string (bs a.p), .slice ao a.vs.length cap, .string (bs a.s), .string (bs a.t)] 49)).alloc (.cells #[.int .i64 b.k, .string (bs b.c), .string (bs b.p), .slice ao' b.vs.length cap', .string (bs b.s), .string (bs b.t)] 49)
  have h1 := fun (wx : World) (h : Kept (fun _ => False) w wx) => same_any ao cap a.vs ao' cap' b.vs B wx (hA.kept h (fun _ _ _ h => h)) (hB.kept h (fun _ _ _ h => h)) hl hl2
  have HK0 := Lib.hid hk0; have HB := Lib.hid hbx; have H1 := Lib.hid h1; clear hk0 hbx hA hB h1 hl hl2
  have hs : sameB a b = (a.k == b.k && a.c == b.c && a.p == b.p && a.s == b.s && a.t == b.t && a.vs == b.vs) := by unfold sameB; cases (a.k == b.k) <;> cases (a.c == b.c) <;> cases (a.p == b.p) <;> cases (a.vs == b.vs) <;> cases (a.s == b.s) <;> cases (a.t == b.t) <;> rfl
  rw [hs]; clear hs
  obtain ⟨ka, ca, pa, va, sa, ta⟩ := a
  obtain ⟨kb, cb, pb, vb, sb, tb⟩ := b
  dsimp only at *
  have z1 := bs_list ca; have z2 := bs_list pa; have z3 := bs_list sa; have z4 := bs_list ta
  have y1 := bs_list cb; have y2 := bs_list pb; have y3 := bs_list sb; have y4 := bs_list tb
  cases e1 : ka == kb with
  | false =>
    go_enter Tryz.func29, Tryz.ntmps29
    go_wp2
    go_ret
    exact ⟨rfl, HK0.out⟩
  | true =>
  cases e2 : ca == cb with
  | false =>
    go_enter Tryz.func29, Tryz.ntmps29
    go_wp2
    go_ret
    exact ⟨rfl, HK0.out⟩
  | true =>
  cases e3 : pa == pb with
  | false =>
    go_enter Tryz.func29, Tryz.ntmps29
    go_wp2
    go_ret
    exact ⟨rfl, HK0.out⟩
  | true =>
  cases e4 : sa == sb with
  | false =>
    go_enter Tryz.func29, Tryz.ntmps29
    go_wp2
    go_ret
    exact ⟨rfl, HK0.out⟩
  | true =>
  cases e5 : ta == tb with
  | false =>
    go_enter Tryz.func29, Tryz.ntmps29
    go_wp2
    go_ret
    exact ⟨rfl, HK0.out⟩
  | true =>
  generalize (va == vb) = r4 at *
  go_enter Tryz.func29, Tryz.ntmps29
  go_wp2_with fail
  refine (H1.out _ HK0.out).mono ?_; rintro e w1 ⟨rfl, k1⟩
  go_wp2
  go_ret
  exact ⟨by simp, HK0.out.trans k1 (fun _ _ h => h)⟩

set_option maxHeartbeats 1000000 in
theorem rkey_any (d : DD) (ao : Option Addr) (cap : Nat) (B : Nat) (w : World) (hA : Lies w B ao (strs d.vs)) (hc : d.vs.length ≤ cap) (hv : d.vs.length ≤ 1000000) (hl : d.s.length ≤ 1000000) (hl2 : d.c.length ≤ 1000000) :
    Calls Tryz.prog 38 #[.agg #[.int .i64 d.k, .string (bs d.c), .string (bs d.p), .slice ao d.vs.length cap, .string (bs d.s), .string (bs d.t)]] w fun e w' => e = .returned (.string (bs (keyD d))) ∧ Kept (fun _ => False) w w' := by
  have hbx := bx_new w ao cap d 49
  have hk0 := (Kept.refl (fun _ => False) w).alloc (.cells #[.int .i64 d.k, .string (bs d.c), .string (bs d.p), .slice ao d.vs.length cap, .string (bs d.s), .string (bs d.t)] 49)
  have h1 := fun (wx : World) (h : Kept (fun _ => False) w wx) => rright_any d ao cap B wx (hA.kept h (fun _ _ _ h => h)) hc (by omega) (by omega)
  have HK0 := Lib.hid hk0; have HB := Lib.hid hbx; clear hk0 hbx hA
  cases hr : rightD d with
  | false =>
    rw [hr] at h1
    have E : keyD d = [] := by simp [keyD, hr]
    rw [E]
    have H1 := Lib.hid h1; clear h1 hr E
    go_enter Tryz.func38, Tryz.ntmps38
    go_wp2_with fail
    refine (H1.out _ HK0.out).mono ?_; rintro e w1 ⟨rfl, k1⟩
    go_wp2
    go_ret
    exact ⟨rfl, HK0.out.trans k1 (fun _ _ h => h)⟩
  | true =>
    rw [hr] at h1
    rcases right_kind hr with hk | hk
    · have E : keyD d = d.c := by simp [keyD, hr, hk]
      rw [E]
      have hk1 : (d.k == 1) = true := by simp [hk]
      have H1 := Lib.hid h1; clear h1 hr hk E
      go_enter Tryz.func38, Tryz.ntmps38
      go_wp2_with fail
      refine (H1.out _ HK0.out).mono ?_; rintro e w1 ⟨rfl, k1⟩
      obtain ⟨c0, c1, c2, c3, c4, c5⟩ := HB.out.kept k1 (fun h => h)
      go_wp2
      go_ret
      exact ⟨rfl, HK0.out.trans k1 (fun _ _ h => h)⟩
    · have E : keyD d = d.c ++ [62, 62] ++ d.s := by simp [keyD, hr, hk]
      rw [E]
      have hk1 : (d.k == 1) = false := by simp [hk]
      have H1 := Lib.hid h1; clear h1 hr hk E
      have z1 : (bs d.c).size ≤ 1000000 := hl2
      have z2 : (bs d.s).size ≤ 1000000 := hl
      have z3 : (bs d.c ++ ⟨#[62, 62]⟩ : ByteArray).size ≤ 1000002 := by rw [ByteArray.size_append]; show d.c.length + 2 ≤ _; omega
      have z4 : (⟨#[62, 62]⟩ : ByteArray).size = 2 := rfl
      go_enter Tryz.func38, Tryz.ntmps38
      go_wp2_with fail
      refine (H1.out _ HK0.out).mono ?_; rintro e w1 ⟨rfl, k1⟩
      obtain ⟨c0, c1, c2, c3, c4, c5⟩ := HB.out.kept k1 (fun h => h)
      go_wp2
      go_ret
      exact ⟨by rw [← bs_append, ← bs_append]; rfl, HK0.out.trans k1 (fun _ _ h => h)⟩

/-- Is it not too great? -/
def smallD (d : DD) : Bool := decide (d.c.length ≤ 100) && decide (d.p.length ≤ 100) && decide (d.vs.length ≤ 30) && decide (d.s.length ≤ 600) && decide (d.t.length ≤ 5000) && d.vs.all (fun v => decide (v.length ≤ 100))

structure SmallD (d : DD) : Prop where
  c : d.c.length ≤ 100
  p : d.p.length ≤ 100
  n : d.vs.length ≤ 30
  s : d.s.length ≤ 600
  t : d.t.length ≤ 5000
  v : ∀ v ∈ d.vs, v.length ≤ 100

theorem smallD_of {d : DD} (h : smallD d = true) : SmallD d := by
  simp only [smallD, Bool.and_eq_true, decide_eq_true_eq, List.all_eq_true] at h
  obtain ⟨⟨⟨⟨⟨h1, h2⟩, h3⟩, h4⟩, h5⟩, h6⟩ := h
  exact ⟨h1, h2, h3, h4, h5, h6⟩

theorem small_no {d : DD} (h : 100 < d.c.length ∨ 100 < d.p.length ∨ 30 < d.vs.length ∨ 600 < d.s.length ∨ 5000 < d.t.length) : smallD d = false := by
  rw [Bool.eq_false_iff]
  intro e
  obtain ⟨h1, h2, h3, h4, h5, _⟩ := smallD_of e
  omega

set_option maxHeartbeats 1000000 in
set_option maxRecDepth 100000 in
theorem rsmall_any (d : DD) (ao : Option Addr) (cap : Nat) (B : Nat) (w : World) (hA : Lies w B ao (strs d.vs)) :
    Calls Tryz.prog 34 #[.agg #[.int .i64 d.k, .string (bs d.c), .string (bs d.p), .slice ao d.vs.length cap, .string (bs d.s), .string (bs d.t)]] w fun e w' => e = .returned (.bool (smallD d)) ∧ Kept (fun _ => False) w w' := by
  have hk0 := (Kept.refl (fun _ => False) w).alloc (.cells #[.int .i64 d.k, .string (bs d.c), .string (bs d.p), .slice ao d.vs.length cap, .string (bs d.s), .string (bs d.t)] 49)
  have hbx := bx_new w ao cap d 49
  have hA0 := hA.kept hk0 (fun _ _ _ h => h)
  have HK0 := Lib.hid hk0; have HA := Lib.hid hA0; have HB := Lib.hid hbx; clear hk0 hA hA0 hbx
  have s1 : (bs d.c).size = d.c.length := rfl
  have s2 : (bs d.p).size = d.p.length := rfl
  have s3 : (bs d.s).size = d.s.length := rfl
  have s4 : (bs d.t).size = d.t.length := rfl
  by_cases hbig : 100 < d.c.length ∨ 100 < d.p.length ∨ 30 < d.vs.length ∨ 600 < d.s.length ∨ 5000 < d.t.length
  · have E := Lib.hid (small_no hbig)
    have hw : (100 : Int) < (d.c.length : Int) ∨ (¬ (100 : Int) < (d.c.length : Int) ∧ (100 : Int) < (d.p.length : Int)) ∨ (¬ (100 : Int) < (d.c.length : Int) ∧ ¬ (100 : Int) < (d.p.length : Int) ∧ (30 : Int) < (d.vs.length : Int)) ∨
      (¬ (100 : Int) < (d.c.length : Int) ∧ ¬ (100 : Int) < (d.p.length : Int) ∧ ¬ (30 : Int) < (d.vs.length : Int) ∧ (600 : Int) < (d.s.length : Int)) ∨ (¬ (100 : Int) < (d.c.length : Int) ∧ ¬ (100 : Int) < (d.p.length : Int) ∧ ¬ (30 : Int) < (d.vs.length : Int) ∧ ¬ (600 : Int) < (d.s.length : Int) ∧ (5000 : Int) < (d.t.length : Int)) := by omega
    clear hbig
    rcases hw with h | ⟨h, h2⟩ | ⟨h, h2, h3⟩ | ⟨h, h2, h3, h4⟩ | ⟨h, h2, h3, h4, h5⟩
    all_goals
      go_enter Tryz.func34, Tryz.ntmps34
      go_wp2
      go_ret
      exact ⟨by rw [E.out]; rfl, HK0.out⟩
  · have h1 : ¬ (100 : Int) < (d.c.length : Int) := by omega
    have h2 : ¬ (100 : Int) < (d.p.length : Int) := by omega
    have h3 : ¬ (30 : Int) < (d.vs.length : Int) := by omega
    have h4 : ¬ (600 : Int) < (d.s.length : Int) := by omega
    have h5 : ¬ (5000 : Int) < (d.t.length : Int) := by omega
    have E : Hid (smallD d = d.vs.all (fun v => decide (v.length ≤ 100))) := by
      show _ = _
      unfold smallD
      rw [decide_eq_true (by omega), decide_eq_true (by omega), decide_eq_true (by omega), decide_eq_true (by omega), decide_eq_true (by omega)]
      simp
    have hn : d.vs.length ≤ 30 := by omega
    clear hbig
    go_enter Tryz.func34, Tryz.ntmps34
    go_wp2
    go_loopg [3] d.vs.length (fun k v wr => ∃ j : Nat, k = d.vs.length - j ∧ v = .int .i64 (j : Int) ∧ j ≤ d.vs.length ∧ (d.vs.take j).all (fun v => decide (v.length ≤ 100)) = true ∧ wr = (w.alloc (.cells #[.int .i64 d.k, .string (bs d.c), .string (bs d.p), .slice ao d.vs.length cap, .string (bs d.s), .string (bs d.t)] 49)))
    case atStart => exact ⟨0, rfl, rfl, Nat.zero_le _, rfl, rfl⟩
    case round =>
      obtain ⟨j, hk, rfl, hj, hev, rfl⟩ := hrel
      have HK := Lib.hid hk; have HEV := Lib.hid hev; clear hk hev
      by_cases hlt : j < d.vs.length
      · obtain ⟨xb, xo, rfl, hxb, hc⟩ := HA.out (by intro h; simp [strs] at h; rw [h] at hlt; simp at hlt)
        have hx := hc j (.string (bs d.vs[j])) (by simp [strs, hlt])
        have i1 : (j : Int) < (d.vs.length : Int) := by omega
        have b1 : (bs d.vs[j]).size = d.vs[j].length := rfl
        have htk : (d.vs.take (j + 1)).all (fun v => decide (v.length ≤ 100)) = ((d.vs.take j).all (fun v => decide (v.length ≤ 100)) && decide (d.vs[j].length ≤ 100)) := by
          have e : d.vs.take (j + 1) = d.vs.take j ++ [d.vs[j]] := by rw [List.take_add_one, List.getElem?_eq_getElem hlt]; rfl
          rw [e, List.all_append]; simp
        have hno : 100 < d.vs[j].length → d.vs.all (fun v => decide (v.length ≤ 100)) = false := fun h => by
          rw [List.all_eq_false]; exact ⟨_, List.getElem_mem hlt, by simpa using h⟩
        have HTK := Lib.hid htk; have HNO := Lib.hid hno; clear htk hno hc
        generalize d.vs[j] = x at *
        by_cases hbig : 100 < x.length
        · have hb1 : (100 : Int) < (x.length : Int) := by omega
          go_wp2
          go_ret
          exact ⟨by rw [E.out, HNO.out hbig]; rfl, HK0.out⟩
        · have hb1 : ¬ (100 : Int) < (x.length : Int) := by omega
          go_wp2
          go_roundg (d.vs.length - (j + 1))
          case measure => have := HK.out; omega
          case rel => exact ⟨j + 1, rfl, by go_num, by omega, by rw [HTK.out, HEV.out, decide_eq_true (by omega)]; rfl, rfl⟩
      · obtain rfl : j = d.vs.length := by omega
        have HEV2 := Lib.hid HEV.out
        rw [List.take_length] at HEV2
        go_wp2
        go_ret
        exact ⟨by rw [E.out, HEV2.out]; rfl, HK0.out⟩

end Go.Proofs.YtecjecdgjmipcaaGreat

/-
  CONTRACT of the reference of layer 7: Split.
-/
namespace Go.Proofs.YtecjecdgjmipcaaGreat
open Go.RowKit Go.Mk

set_option maxHeartbeats 2000000 in
set_option maxRecDepth 100000 in
theorem rsplit_any (l : List UInt8) (w : World) (hl : l.length ≤ 1000000) :
    Calls Tryz.prog 57 #[.string (bs l)] w fun e w' => e = .returned (.tuple #[.string (bs (splitD l).1), .string (bs (splitD l).2.1), .bool (splitD l).2.2]) ∧ Kept (fun _ => False) w w' := by
  have hS : (bs l).size = l.length := rfl
  have hR1 := fun w => rright_any ⟨1, l, [79, 98, 106, 101, 99, 116], [], [], []⟩ none 0 0 w (Lies.nil _ _ _) (by simp) (by simp) (by simp)
  have hc1 := fun h h2 => split_c (l := l) h h2
  have hc2 := fun h h2 => split_cno (l := l) h h2
  have HC1 := Lib.hid hc1; have HC2 := Lib.hid hc2; clear hc1 hc2
  generalize hres : splitD l = res at *
  generalize hr1 : rightD ⟨1, l, [79, 98, 106, 101, 99, 116], [], [], []⟩ = r1 at *
  dsimp only [List.length_nil] at hR1
  rw [show bs [79, 98, 106, 101, 99, 116] = ⟨#[79, 98, 106, 101, 99, 116]⟩ from rfl, show bs [] = ⟨#[]⟩ from rfl] at hR1
  have HR1 := Lib.hid hR1; have HRES := Lib.hid hres; have HRR := Lib.hid hr1; clear hR1 hres hr1
  go_enter Tryz.func57, Tryz.ntmps57
  go_wp2
  go_loopg [5] l.length (fun k v wr => ∃ j : Nat, k = l.length - j ∧ v = .int .i64 (j : Int) ∧ j ≤ l.length ∧ Lib.NoOcc l [62, 62] j ∧ w = wr)
  case atStart => exact ⟨0, rfl, rfl, Nat.zero_le _, Lib.NoOcc.zero _ _, rfl⟩
  case round =>
    obtain ⟨j, hk, rfl, hj, hev, rfl⟩ := hrel
    have HK := Lib.hid hk; have HEV := Lib.hid hev; clear hk hev
    by_cases hlt : j + 1 < l.length
    · have i1 : (j : Int) + 1 < (l.length : Int) := by omega
      have i3 : (j : Int) + 2 ≤ (l.length : Int) := by omega
      have i4 : IntKind.i64.wrap ((j : Int) + 2) = (j : Int) + 2 := by rw [IntKind.wrap_i64]; omega
      have i5 : ((j : Int) + 2).toNat = j + 2 := by omega
      have i0 : j < (bs l).size := by rw [bs_size]; omega
      have i2 : j + 1 < (bs l).size := by rw [bs_size]; omega
      have g0 : (bs l)[j]'i0 = l[j]'(by omega) := rfl
      have g1 : (bs l)[j + 1]'i2 = l[j + 1] := rfl
      have ho := occ2 hlt
      have x1 := bs_extract l 0 j
      have x2 := bs_extract l (j + 2) l.length
      rw [List.drop_zero] at x1
      rw [List.take_length] at x2
      have hR2 := fun w => rright_any ⟨2, l.take j, [], [], l.drop (j + 2), []⟩ none 0 0 w (Lies.nil _ _ _) (by simp) (by simp) (by simp; omega)
      have hm1 := fun ho h2 => split_m (l := l) (cut_at hlt HEV.out ho) h2
      have hm2 := fun ho h2 => split_mno (l := l) (cut_at hlt HEV.out ho) h2
      dsimp only [List.length_nil] at hR2
      rw [show bs [] = ⟨#[]⟩ from rfl] at hR2
      have HO := Lib.hid ho; have HR2 := Lib.hid hR2; have HM1 := Lib.hid hm1; have HM2 := Lib.hid hm2; clear ho hR2 hm1 hm2
      generalize l[j]'(by omega) = x at *
      generalize l[j + 1] = y at *
      cases hx : x == 62 with
      | false =>
        have hx1 : ((x.toNat : Int) != 62) = true := by
          have : x ≠ 62 := by simpa using hx
          rw [bne_iff_ne]
          intro e
          exact this (by apply UInt8.toNat.inj; show x.toNat = 62; omega)
        rw [hx] at HO
        go_wp2
        go_roundg (l.length - (j + 1))
        case measure => have := HK.out; omega
        case rel => exact ⟨j + 1, rfl, by go_num, by omega, HEV.out.succ HO.out, rfl⟩
      | true =>
        have hx1 : ((x.toNat : Int) != 62) = false := by
          have : x = 62 := by simpa using hx
          subst this; rfl
        cases hy : y == 62 with
        | false =>
          have hy1 : ((y.toNat : Int) != 62) = true := by
            have : y ≠ 62 := by simpa using hy
            rw [bne_iff_ne]
            intro e
            exact this (by apply UInt8.toNat.inj; show y.toNat = 62; omega)
          rw [hx, hy] at HO
          go_wp2
          go_roundg (l.length - (j + 1))
          case measure => have := HK.out; omega
          case rel => exact ⟨j + 1, rfl, by go_num, by omega, HEV.out.succ HO.out, rfl⟩
        | true =>
          have hy1 : ((y.toNat : Int) != 62) = false := by
            have : y = 62 := by simpa using hy
            subst this; rfl
          rw [hx, hy] at HO
          have hm1 := HM1.out HO.out
          have hm2 := HM2.out HO.out
          have hb := bx_new w.drew none 0 ⟨2, l.take j, [], [], l.drop (j + 2), []⟩ 49
          have HBB := Lib.hid hb; clear hb
          generalize hr2 : rightD ⟨2, l.take j, [], [], l.drop (j + 2), []⟩ = r2 at *
          have HX1 := Lib.hid hm1; have HX2 := Lib.hid hm2; clear hm1 hm2 hr2
          go_wp2_with fail
          go_region
          all_goals
            go_wp2_with fail
            refine (HR2.out _).mono ?_
            rintro e w1 ⟨rfl, k1⟩
            have hb1 : Bx w1 w.heap.size none 0 ⟨2, l.take j, [], [], l.drop (j + 2), []⟩ := HBB.out.kept (S := fun _ => False) k1 (fun h => h)
            obtain ⟨_, c1, _, _, c4, _⟩ := hb1
            dsimp only at c1 c4
            have K1 : Hid (Kept (fun _ => False) w w1) := Lib.hid (((Kept.refl (fun _ => False) w).alloc _).drew.trans k1 (fun _ _ h => h))
            clear k1
            cases r2 with
            | true =>
              go_wp2_with fail
              go_region
              all_goals
                go_wp2
                go_ret3
                have e := HRES.out.symm.trans (HX1.out (by simp))
                exact ⟨by rw [e]; rfl, K1.out.drew⟩
            | false =>
              go_wp2
              go_ret3
              have e := HRES.out.symm.trans (HX2.out (by simp))
              exact ⟨by rw [e]; rfl, K1.out⟩
    · have i1 : ¬ (j : Int) + 1 < (l.length : Int) := by omega
      have hcn := cut_none HEV.out (by omega)
      have HC1 := Lib.hid (HC1.out hcn); have HC2 := Lib.hid (HC2.out hcn); clear hcn
      cases r1 with
      | true =>
        go_wp2_with fail
        refine (HR1.out _).mono ?_; rintro e w1 ⟨rfl, k1⟩
        go_wp2
        go_ret3
        have e := HC1.out (by simp)
        exact ⟨by rw [e]; rfl, k1⟩
      | false =>
        go_wp2_with fail
        refine (HR1.out _).mono ?_; rintro e w1 ⟨rfl, k1⟩
        go_wp2
        go_ret3
        have e := HC2.out (by simp)
        exact ⟨by rw [e]; rfl, k1⟩

end Go.Proofs.YtecjecdgjmipcaaGreat
