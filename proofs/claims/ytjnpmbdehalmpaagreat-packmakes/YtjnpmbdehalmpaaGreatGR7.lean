/-
  Lemmas towards the claim of this folder: contracts of the functions that the law reaches; joined texts.
-/
import Derived.Test.YtjnpmbdehalmpaaGreatGDg
import Derived.Test.YtjnpmbdehalmpaaGreatGR6c
import Derived.Test.YtjnpmbdehalmpaaGreatGNb
import Derived.Lib.Builder
import Derived.Lib.UnsafeStr
import Derived.BigQuiet
import Derived.Deep.QuietTactic
/-
  CONTRACTS of the reference of layer 7: Right.
-/
namespace Go.Proofs.YtjnpmbdehalmpaaGreat
open Go.RowKit Go.Mk

theorem rr_class {d : DD} (h : isCl d.c = false) : rightD d = false := by
  unfold rightD rightC rightM ownCl
  rw [h]
  simp
theorem rr_vars {d : DD} (h : d.k = 1) (hv : varsL d.vs = false) : rightD d = false := by
  rw [rightD_one h]; unfold rightC areVars; rw [hv]; simp
theorem rr_rest {d : DD} (h : d.k = 1) (hc : isCl d.c = true) (hv : varsL d.vs = true) : rightD d = (!builtins.contains d.c && isCl d.p && decide (d.vs.length ≤ 20) && d.s.isEmpty && d.t.isEmpty) := by
  rw [rightD_one h]; unfold rightC areVars ownCl; rw [hv, hc]; simp
theorem rr_meth {d : DD} (h : d.k = 2) (hc : isCl d.c = true) : rightD d = (isSel d.s && decide (d.t.length ≤ 4000) && d.p.isEmpty && d.vs.isEmpty) := by
  rw [rightD_two h]; unfold rightM; rw [hc]; simp

set_option maxHeartbeats 2000000 in
set_option maxRecDepth 100000 in
theorem rright_class (d : DD) (ao : Option Addr) (cap : Nat) (B : Nat) (w : World) (hcl : isCl d.c = true) (hk : d.k = 1) (hA : Lies w B ao (strs d.vs)) (hc : d.vs.length ≤ cap) (hl : d.vs.length ≤ 1099511627776) :
    Calls Tryz.prog 22 #[.agg #[.int .i64 d.k, .string (bs d.c), .string (bs d.p), .slice ao d.vs.length cap, .string (bs d.s), .string (bs d.t)]] w fun e w' => e = .returned (.bool (rightD d)) ∧ Kept (fun _ => False) w w' := by
  have hbx := bx_new w ao cap d 46
  have hk0 := (Kept.refl (fun _ => False) w).alloc (.cells #[.int .i64 d.k, .string (bs d.c), .string (bs d.p), .slice ao d.vs.length cap, .string (bs d.s), .string (bs d.t)] 46)
  have hv0 := fun h => rr_vars (d := d) hk h
  have hv1 := fun h => rr_rest (d := d) hk hcl h
  have h1 := fun w => rcl_any d.c w
  rw [hcl] at h1
  obtain ⟨k, c, p, vs, s, t⟩ := d
  dsimp only at *
  subst hk
  generalize rightD ⟨1, c, p, vs, s, t⟩ = res at *
  have h2 := fun w => rcl_any p w
  have h3 := fun w => ralw_any c w
  have H1 := Lib.hid h1; have H2 := Lib.hid h2; have H3 := Lib.hid h3; have HB := Lib.hid hbx; have HK0 := Lib.hid hk0; have HA := Lib.hid hA; have HV0 := Lib.hid hv0; have HV1 := Lib.hid hv1
  clear h1 h2 h3 hbx hk0 hA hcl hv0 hv1
  have z1 := bs_list s
  have z2 := bs_list t
  go_enter Tryz.func22, Tryz.ntmps22
  go_wp2_with fail
  refine (H1.out _).mono ?_; rintro e w1 ⟨rfl, rfl⟩
  go_wp2
  go_loopg [3] vs.length (fun k v wr => ∃ j : Nat, k = vs.length - j ∧ v = .int .i64 (j : Int) ∧ j ≤ vs.length ∧ varsTo vs j = true ∧ Bx wr w.heap.size ao cap ⟨1, c, p, vs, s, t⟩ ∧ Kept (fun _ => False) w wr)
  case atStart => exact ⟨0, rfl, rfl, Nat.zero_le _, rfl, HB.out, HK0.out⟩
  case round =>
    obtain ⟨j, hk, rfl, hj, hev, hb, hkp⟩ := hrel
    have HK := Lib.hid hk; have HEV := Lib.hid hev; have HKP := Lib.hid hkp; have HBR := Lib.hid hb; clear hk hev hkp
    obtain ⟨c0, c1, c2, c3, c4, c5⟩ := hb
    dsimp only at c0 c1 c2 c3 c4 c5
    by_cases hlt : j < vs.length
    · have hA1 := HA.out.kept HKP.out (fun _ _ _ h => h)
      obtain ⟨xb, xo, rfl, hxb, hc'⟩ := hA1 (by intro h; simp [strs] at h; rw [h] at hlt; simp at hlt)
      have hx : wr.cell? ⟨xb, xo + j, none⟩ = some (.string (bs vs[j])) := hc' j _ (by simp [strs, hlt])
      clear hc'
      have i1 : (j : Int) < (vs.length : Int) := by omega
      have i2 : (j : Int) ≤ (cap : Int) := by omega
      have hv := fun w => rvar_any vs[j] w
      have htl : j = (vs.take j).length := by rw [List.length_take]; omega
      have hcn := fun (w1 : World) (h : Kept (fun _ => False) wr w1) => rin_any (some ⟨xb, xo, none⟩) cap (vs.take j) vs[j] B w1 (by rw [strs_take]; exact (hA1.kept h (fun _ _ _ h => h)).take j) (by omega)
      rw [← htl] at hcn
      have hxk := fun (w1 : World) (h : Kept (fun _ => False) wr w1) => (h.cell (p := ⟨xb, xo + j, none⟩) (World.block_lt_of_cell? _ _ hx) (fun h => h)).trans hx
      have hva := varAt_lt hlt
      have hno := fun h => varsL_no hlt h
      have hsu := varsTo_succ vs j
      have HC := Lib.hid hcn; have HV := Lib.hid hv; have HVA := Lib.hid hva; have HNO := Lib.hid hno; have HSU := Lib.hid hsu; have HXK := Lib.hid hxk; clear hcn hv hva hno hsu hA1 htl hxk
      generalize (vs.take j).contains vs[j] = r2 at *
      generalize isVa vs[j] = r1 at *
      generalize vs[j] = x at *
      cases r1 with
      | false =>
        go_wp2_with fail
        refine wp_region_any (by kernel_rfl) ?_
        change wpAny _ _ _ _ _ _ _ (World.drew _)
        refine wpAny_take (i := 0) (oi := { dst := some 18, op := .fieldAddr 46 (.tmp 1) 3, type := _, pos := _, after := _, guard := none }) (v := .pointer (some ⟨w.heap.size, 3, none⟩)) rfl (by kernel_rfl) (by kernel_rfl) (by kernel_rfl) (fun _ _ _ h => h) (Or.inl ⟨by rfl, by intro w; go_simp⟩) ?_; simp only [Act.put, List.setIfInBounds_toArray, List.set_cons_zero, List.set_cons_succ]
        refine wpAny_take (i := 2) (oi := { dst := some 20, op := .move (.tmp 3), type := _, pos := _, after := _, guard := none }) (v := .int .i64 (j : Int)) rfl (by kernel_rfl) (by kernel_rfl) (by kernel_rfl) (fun _ _ _ h => h) (Or.inl ⟨by rfl, by intro w; go_simp⟩) ?_; simp only [Act.put, List.setIfInBounds_toArray, List.set_cons_zero, List.set_cons_succ]
        refine wpAny_ready (rs := [1]) (by kernel_rfl) (by simp) ?_; refine (AllReady.cons (o := { dst := some 19, op := .load 22 (.tmp 18), type := _, pos := _, after := _, guard := none }) rfl (fun K hK => ?_) AllReady.nil); go_simp; refine hK _ _ ?_; clear hK K; try simp only [Act.put, List.setIfInBounds_toArray, List.set_cons_zero, List.set_cons_succ]
        refine wpAny_take (i := 3) (oi := { dst := some 21, op := .indexAddr 22 (.tmp 19) (.tmp 20), type := _, pos := _, after := _, guard := none }) (v := .pointer (some ⟨xb, xo + j, none⟩)) rfl (by kernel_rfl) (by kernel_rfl) (by kernel_rfl) (fun _ _ _ h => h) (Or.inl ⟨by rfl, by intro w; go_simp⟩) ?_; simp only [Act.put, List.setIfInBounds_toArray, List.set_cons_zero, List.set_cons_succ]
        refine wpAny_ready (rs := [4]) (by kernel_rfl) (by simp) ?_; refine (AllReady.cons (o := { dst := some 22, op := .load 9 (.tmp 21), type := _, pos := _, after := _, guard := none }) rfl (fun K hK => ?_) AllReady.nil); go_simp; refine hK _ _ ?_; clear hK K; try simp only [Act.put, List.setIfInBounds_toArray, List.set_cons_zero, List.set_cons_succ]
        refine wpAny_ready (rs := [5]) (by kernel_rfl) (by simp) ?_; refine (AllReady.cons (o := { dst := some 23, op := .call { callee := .value (.func 62), args := #[.tmp 22], argTypes := #[9] }, type := _, pos := _, after := _, guard := none }) rfl (fun K hK => ?_) AllReady.nil); go_simp
        go_wp2_with (go_at_call 62; refine (HV.out _).mono ?_; rintro e w2 ⟨rfl, k2⟩)
        try simp only [Act.put, List.setIfInBounds_toArray, List.set_cons_zero, List.set_cons_succ]
        refine wpAny_take (i := 6) (oi := { dst := some 24, op := .unOp .not 4 (.tmp 23), type := _, pos := _, after := _, guard := none }) (v := .bool true) rfl (by kernel_rfl) (by kernel_rfl) (by kernel_rfl) (fun _ _ _ h => h) (Or.inl ⟨by rfl, by intro w; go_simp⟩) ?_; simp only [Act.put, List.setIfInBounds_toArray, List.set_cons_zero, List.set_cons_succ]
        refine wpAny_take (i := 7) (oi := { dst := some 25, op := .move (.tmp 24), type := _, pos := _, after := _, guard := none }) (v := .bool true) rfl (by kernel_rfl) (by kernel_rfl) (by kernel_rfl) (fun _ _ _ h => h) (Or.inl ⟨by rfl, by intro w; go_simp⟩) ?_; simp only [Act.put, List.setIfInBounds_toArray, List.set_cons_zero, List.set_cons_succ]
        refine wpAny_take (i := 8) (oi := { dst := some 26, op := _, type := _, pos := _, after := _, guard := some (7, false) }) (v := undef) rfl (by kernel_rfl) (by kernel_rfl) (by kernel_rfl) (fun _ _ _ h => h) (Or.inr ⟨by rfl, rfl⟩) ?_; simp only [Act.put, List.setIfInBounds_toArray, List.set_cons_zero, List.set_cons_succ]
        refine wpAny_take (i := 9) (oi := { dst := some 27, op := _, type := _, pos := _, after := _, guard := some (7, false) }) (v := undef) rfl (by kernel_rfl) (by kernel_rfl) (by kernel_rfl) (fun _ _ _ h => h) (Or.inr ⟨by rfl, rfl⟩) ?_; simp only [Act.put, List.setIfInBounds_toArray, List.set_cons_zero, List.set_cons_succ]
        refine wpAny_take (i := 10) (oi := { dst := some 28, op := _, type := _, pos := _, after := _, guard := some (7, false) }) (v := undef) rfl (by kernel_rfl) (by kernel_rfl) (by kernel_rfl) (fun _ _ _ h => h) (Or.inr ⟨by rfl, rfl⟩) ?_; simp only [Act.put, List.setIfInBounds_toArray, List.set_cons_zero, List.set_cons_succ]
        refine wpAny_take (i := 11) (oi := { dst := some 29, op := _, type := _, pos := _, after := _, guard := some (7, false) }) (v := undef) rfl (by kernel_rfl) (by kernel_rfl) (by kernel_rfl) (fun _ _ _ h => h) (Or.inr ⟨by rfl, rfl⟩) ?_; simp only [Act.put, List.setIfInBounds_toArray, List.set_cons_zero, List.set_cons_succ]
        refine wpAny_take (i := 12) (oi := { dst := some 30, op := _, type := _, pos := _, after := _, guard := some (7, false) }) (v := undef) rfl (by kernel_rfl) (by kernel_rfl) (by kernel_rfl) (fun _ _ _ h => h) (Or.inr ⟨by rfl, rfl⟩) ?_; simp only [Act.put, List.setIfInBounds_toArray, List.set_cons_zero, List.set_cons_succ]
        refine wpAny_take (i := 13) (oi := { dst := some 31, op := _, type := _, pos := _, after := _, guard := some (7, false) }) (v := undef) rfl (by kernel_rfl) (by kernel_rfl) (by kernel_rfl) (fun _ _ _ h => h) (Or.inr ⟨by rfl, rfl⟩) ?_; simp only [Act.put, List.setIfInBounds_toArray, List.set_cons_zero, List.set_cons_succ]
        refine wpAny_take (i := 14) (oi := { dst := some 32, op := _, type := _, pos := _, after := _, guard := some (7, false) }) (v := undef) rfl (by kernel_rfl) (by kernel_rfl) (by kernel_rfl) (fun _ _ _ h => h) (Or.inr ⟨by rfl, rfl⟩) ?_; simp only [Act.put, List.setIfInBounds_toArray, List.set_cons_zero, List.set_cons_succ]
        refine wpAny_take (i := 15) (oi := { dst := some 33, op := _, type := _, pos := _, after := _, guard := some (7, false) }) (v := undef) rfl (by kernel_rfl) (by kernel_rfl) (by kernel_rfl) (fun _ _ _ h => h) (Or.inr ⟨by rfl, rfl⟩) ?_; simp only [Act.put, List.setIfInBounds_toArray, List.set_cons_zero, List.set_cons_succ]
        refine wpAny_take (i := 16) (oi := { dst := some 34, op := _, type := _, pos := _, after := _, guard := some (7, false) }) (v := undef) rfl (by kernel_rfl) (by kernel_rfl) (by kernel_rfl) (fun _ _ _ h => h) (Or.inr ⟨by rfl, rfl⟩) ?_; simp only [Act.put, List.setIfInBounds_toArray, List.set_cons_zero, List.set_cons_succ]
        refine wpAny_take (i := 17) (oi := { dst := some 35, op := _, type := _, pos := _, after := _, guard := some (7, false) }) (v := undef) rfl (by kernel_rfl) (by kernel_rfl) (by kernel_rfl) (fun _ _ _ h => h) (Or.inr ⟨by rfl, rfl⟩) ?_; simp only [Act.put, List.setIfInBounds_toArray, List.set_cons_zero, List.set_cons_succ]
        refine wpAny_take (i := 18) (oi := { dst := some 36, op := .pick (.tmp 25) (.const (.bool true)) (.tmp 35), type := _, pos := _, after := _, guard := none }) (v := .bool true) rfl (by kernel_rfl) (by kernel_rfl) (by kernel_rfl) (fun _ _ _ h => h) (Or.inl ⟨by rfl, by intro w; go_simp⟩) ?_; simp only [Act.put, List.setIfInBounds_toArray, List.set_cons_zero, List.set_cons_succ]
        refine wpAny_done (by kernel_rfl) ?_ _
        all_goals go_wp2
        all_goals go_ret
        all_goals exact ⟨by rw [HV0.out (HNO.out (by rw [HVA.out]; rfl))]; rfl, HKP.out.drew.trans k2 (fun _ _ h => h)⟩
      | true =>
        go_wp2_with fail
        go_region_with (first
          | (go_at_call 62; refine (HV.out _).mono ?_; rintro e w2 ⟨rfl, k2⟩; have K2 := Lib.hid (Mk.Kept.of_drew k2); have hx2 := HXK.out _ K2.out; have hb2 := HBR.out.kept K2.out (fun h => h); have HB2 := Lib.hid hb2; have e3 := hb2.c3; dsimp only at e3; clear k2 hb2)
          | (go_at_call 63; go_must (refine (HC.out _ K2.out).mono ?_; rintro e w3 ⟨rfl, rfl⟩)))
        all_goals cases r2 with
          | true =>
            go_wp2
            go_ret
            exact ⟨by rw [HV0.out (HNO.out (by rw [HVA.out]; rfl))]; rfl, HKP.out.trans K2.out (fun _ _ h => h)⟩
          | false =>
            go_wp2
            go_roundg (vs.length - (j + 1))
            case measure => have := HK.out; omega
            case rel => exact ⟨j + 1, rfl, by go_num, by omega, by rw [HSU.out, HEV.out, HVA.out]; rfl, HB2.out, HKP.out.trans K2.out (fun _ _ h => h)⟩
    · obtain rfl : j = vs.length := by omega
      have hres := HV1.out HEV.out
      clear HV0 HV1 HEV HK
      generalize hlen : vs.length = n at *
      generalize builtins.contains c = r1 at *
      generalize isCl p = r2 at *
      have HR := Lib.hid hres; clear hres
      have HN := Lib.hid hlen; clear hlen
      cases r1 with
      | true =>
        go_wp2_with fail
        refine (H3.out _).mono ?_; rintro e w1 ⟨rfl, k1⟩
        go_wp2
        go_ret
        exact ⟨by rw [HR.out]; rfl, HKP.out.trans k1 (fun _ _ h => h)⟩
      | false =>
        go_wp2_with fail
        refine (H3.out _).mono ?_; rintro e w1 ⟨rfl, k1⟩
        have HB1 := Lib.hid (HBR.out.kept (S := fun _ => False) k1 (fun h => h))
        clear c0 c1 c2 c3 c4 c5
        obtain ⟨_, _, c2, c3, c4, c5⟩ := HB1.out
        dsimp only at c2 c3 c4 c5
        rw [HN.out] at c3
        have K1 := Lib.hid (HKP.out.trans k1 (fun _ _ h => h)); clear k1
        go_wp2_with fail
        refine (H2.out _).mono ?_; rintro e w2 ⟨rfl, rfl⟩
        cases r2 with
        | false =>
          go_wp2
          go_ret
          exact ⟨by rw [HR.out]; rfl, K1.out⟩
        | true =>
          by_cases hn : n ≤ 20
          · have hn1 : (n : Int) ≤ 20 := by omega
            have HN1 := Lib.hid (decide_eq_true hn); clear hn
            cases s with
            | cons b s =>
              go_wp2
              go_ret
              exact ⟨by rw [HR.out]; simp, K1.out⟩
            | nil =>
              go_wp2
              go_ret
              exact ⟨by rw [HR.out, HN1.out]; simp, K1.out⟩
          · have hn1 : ¬ (n : Int) ≤ 20 := by omega
            have HN1 := Lib.hid (decide_eq_false hn); clear hn
            go_wp2
            go_ret
            exact ⟨by rw [HR.out, HN1.out]; simp, K1.out⟩

set_option maxHeartbeats 2000000 in
set_option maxRecDepth 100000 in
theorem rright_method (d : DD) (ao : Option Addr) (cap : Nat) (w : World) (hcl : isCl d.c = true) (hk : d.k = 2) (hl : d.s.length ≤ 1099511627776) :
    Calls Tryz.prog 22 #[.agg #[.int .i64 d.k, .string (bs d.c), .string (bs d.p), .slice ao d.vs.length cap, .string (bs d.s), .string (bs d.t)]] w fun e w' => e = .returned (.bool (rightD d)) ∧ Kept (fun _ => False) w w' := by
  have hbx := bx_new w ao cap d 46
  have hk0 := (Kept.refl (fun _ => False) w).alloc (.cells #[.int .i64 d.k, .string (bs d.c), .string (bs d.p), .slice ao d.vs.length cap, .string (bs d.s), .string (bs d.t)] 46)
  have hv1 := rr_meth (d := d) hk hcl
  have h1 := fun w => rcl_any d.c w
  rw [hcl] at h1
  obtain ⟨k, c, p, vs, s, t⟩ := d
  dsimp only at *
  subst hk
  generalize rightD ⟨2, c, p, vs, s, t⟩ = res at *
  have h2 := fun w => rkind_any s w hl
  have hsel : isSel s = decide (0 < (kindL s : Int)) := by
    unfold isSel
    by_cases h : kindL s = 0
    · simp [h]
    · rw [decide_eq_true h, decide_eq_true (by omega)]
  rw [hsel] at hv1
  generalize kindL s = n at *
  have H1 := Lib.hid h1; have H2 := Lib.hid h2; have HB := Lib.hid hbx; have HK0 := Lib.hid hk0; have HV1 := Lib.hid hv1
  clear h1 h2 hbx hk0 hcl hv1 hsel
  have z0 : (bs t).size = t.length := rfl
  have z1 := bs_list p
  go_enter Tryz.func22, Tryz.ntmps22
  go_wp2_with fail
  refine (H1.out _).mono ?_; rintro e w1 ⟨rfl, rfl⟩
  go_wp2_with fail
  refine (H2.out _).mono ?_; rintro e w2 ⟨rfl, k2⟩
  obtain ⟨_, _, c2, c3, c4, c5⟩ := HB.out.kept k2 (fun h => h)
  dsimp only at c2 c3 c4 c5
  have K2 := Lib.hid (HK0.out.trans k2 (fun _ _ h => h)); clear k2
  by_cases hn : 0 < (n : Int)
  · have E0 := Lib.hid (decide_eq_true hn)
    by_cases ht : t.length ≤ 4000
    · have ht1 : (t.length : Int) ≤ 4000 := by omega
      have E1 := Lib.hid (decide_eq_true ht); clear ht
      cases p with
      | cons b p =>
        go_wp2
        go_ret
        exact ⟨by rw [HV1.out, E0.out, E1.out]; rfl, K2.out⟩
      | nil =>
        cases vs with
        | nil =>
          go_wp2
          go_ret
          exact ⟨by rw [HV1.out, E0.out, E1.out]; rfl, K2.out⟩
        | cons v vs =>
          have hn : ((((v :: vs).length : Nat) : Int) == 0) = false := by rw [beq_eq_false_iff_ne]; simp only [List.length_cons]; omega
          go_wp2
          go_ret
          exact ⟨by rw [HV1.out, E0.out, E1.out]; rfl, K2.out⟩
    · have ht1 : ¬ (t.length : Int) ≤ 4000 := by omega
      have E1 := Lib.hid (decide_eq_false ht); clear ht
      go_wp2
      go_ret
      exact ⟨by rw [HV1.out, E0.out, E1.out]; rfl, K2.out⟩
  · have E0 := Lib.hid (decide_eq_false hn)
    go_wp2
    go_ret
    exact ⟨by rw [HV1.out, E0.out]; rfl, K2.out⟩

set_option maxHeartbeats 400000 in
theorem rright_any (d : DD) (ao : Option Addr) (cap : Nat) (B : Nat) (w : World) (hA : Lies w B ao (strs d.vs)) (hc : d.vs.length ≤ cap) (hl : d.vs.length ≤ 1099511627776) (hl2 : d.s.length ≤ 1099511627776) :
    Calls Tryz.prog 22 #[.agg #[.int .i64 d.k, .string (bs d.c), .string (bs d.p), .slice ao d.vs.length cap, .string (bs d.s), .string (bs d.t)]] w fun e w' => e = .returned (.bool (rightD d)) ∧ Kept (fun _ => False) w w' := by
  have hk0 := (Kept.refl (fun _ => False) w).alloc (.cells #[.int .i64 d.k, .string (bs d.c), .string (bs d.p), .slice ao d.vs.length cap, .string (bs d.s), .string (bs d.t)] 46)
  have HK0 := Lib.hid hk0; clear hk0
  have h1 := fun w => rcl_any d.c w
  cases hcl : isCl d.c with
  | false =>
    rw [rr_class hcl]
    rw [hcl] at h1
    have H1 := Lib.hid h1; clear h1 hcl hA
    go_enter Tryz.func22, Tryz.ntmps22
    go_wp2_with fail
    refine (H1.out _).mono ?_; rintro e w1 ⟨rfl, rfl⟩
    go_wp2
    go_ret
    exact ⟨rfl, HK0.out⟩
  | true =>
    by_cases k1 : d.k = 1
    · exact rright_class d ao cap B w hcl k1 hA hc hl
    · by_cases k2 : d.k = 2
      · exact rright_method d ao cap w hcl k2 hl2
      · rw [rightD_no k1 k2]
        rw [hcl] at h1
        have b1 : (d.k == 1) = false := by simpa using k1
        have b2 : (d.k == 2) = false := by simpa using k2
        have H1 := Lib.hid h1; clear h1 hcl hA k1 k2
        go_enter Tryz.func22, Tryz.ntmps22
        go_wp2_with fail
        refine (H1.out _).mono ?_; rintro e w1 ⟨rfl, rfl⟩
        go_wp2
        go_ret
        exact ⟨rfl, HK0.out⟩

end Go.Proofs.YtjnpmbdehalmpaaGreat

/-
  CONTRACTS of strings.Builder (one that the call made itself): WriteString, String.
-/
namespace Go.Proofs.YtjnpmbdehalmpaaGreat
open Go.RowKit Go.Mk

/-- append(nil, ""...). -/
theorem app_nil (w : World) (ty : TypeId) : (Builtin.append_ #[28, 9] ty #[.slice none 0 0, .string (bs [])]).run Tryz.prog w = .ok (.slice none 0 0) w := by
  obtain ⟨i0, hi, hz0, hz1, hz2⟩ := info_parts Tryz.infoByte
  have hs := Src.ofString (P := Tryz.prog) w Tryz.underlying9 (bs [])
  rcases hs.kind with ⟨e', hk⟩ | hk <;> simp [Builtin.append_, run_underlying Tryz.underlying28, run_underlying hk, sizeOf, typeInfo, hi, hs.len] <;> rfl

end Go.Proofs.YtjnpmbdehalmpaaGreat

/-
  CONTRACT of the reference's Same: two lists of texts.
-/
namespace Go.Proofs.YtjnpmbdehalmpaaGreat
open Go.RowKit Go.Mk

theorem kept_drewN {S : Nat → Prop} {a w : World} (h : Kept S a w) (n : Nat) : Kept S a (w.drewN n) := ⟨h.os, h.tape, h.output, h.size, h.block⟩
theorem lies_drewN {w : World} {B : Nat} {ao : Option Addr} {vs : List Value} (h : Lies w B ao vs) (n : Nat) : Lies (w.drewN n) B ao vs := h

set_option maxHeartbeats 400000 in
theorem same_any (aa : Option Addr) (ca : Nat) (la : List (List UInt8)) (ba : Option Addr) (cb : Nat) (lb : List (List UInt8)) (B : Nat) (w : World) (hA : Lies w B aa (strs la)) (hB : Lies w B ba (strs lb)) (hl : la.length ≤ 1099511627776) (hl2 : lb.length ≤ 1099511627776) :
    Calls Tryz.prog 36 #[.slice aa la.length ca, .slice ba lb.length cb] w fun e w' => e = .returned (.bool (la == lb)) ∧ Kept (fun _ => False) w w' := by
  have HA := Lib.hid hA; have HB := Lib.hid hB; clear hA hB
  by_cases hlen : la.length = lb.length
  · have hne : ((la.length : Int) != (lb.length : Int)) = false := by simp [hlen]
    have HLEN := Lib.hid hlen; clear hlen
    go_enter Tryz.func36, Tryz.ntmps36
    go_wp2
    go_loopg [5] la.length (fun k c wr => ∃ j, k = la.length - j ∧ j ≤ la.length ∧ c = .int .i64 (j : Int) ∧ la.take j = lb.take j ∧ Kept (fun _ => False) w wr)
    case atStart => exact ⟨0, rfl, Nat.zero_le _, rfl, rfl, Kept.refl _ _⟩
    case round =>
      obtain ⟨j, hk, hj, rfl, hpre, hkp⟩ := hrel
      have HK := Lib.hid hk; have HPRE := Lib.hid hpre; have HKP := Lib.hid hkp; clear hk hpre hkp
      by_cases hlt : j < la.length
      · have hlt2 : j < lb.length := by rw [← HLEN.out]; exact hlt
        obtain ⟨xb, xo, rfl, hxb, hc⟩ := (HA.out.kept HKP.out (fun _ _ _ h => h)) (by intro h; simp [strs] at h; rw [h] at hlt; simp at hlt)
        obtain ⟨yb, yo, rfl, hyb, hc2⟩ := (HB.out.kept HKP.out (fun _ _ _ h => h)) (by intro h; simp [strs] at h; rw [h] at hlt2; simp at hlt2)
        have hx : wr.cell? ⟨xb, xo + j, none⟩ = some (.string (bs la[j])) := hc j _ (by simp [strs, hlt])
        have hy : wr.cell? ⟨yb, yo + j, none⟩ = some (.string (bs lb[j])) := hc2 j _ (by simp [strs, hlt2])
        clear hc hc2
        have i1 : (j : Int) < (la.length : Int) := by omega
        have i2 : (j : Int) < (lb.length : Int) := by omega
        have b1 := bs_list la[j]
        have b2 := bs_list lb[j]
        have htk : la.take (j + 1) = la.take j ++ [la[j]] := by rw [List.take_add_one, List.getElem?_eq_getElem hlt]; rfl
        have htk2 : lb.take (j + 1) = lb.take j ++ [lb[j]] := by rw [List.take_add_one, List.getElem?_eq_getElem hlt2]; rfl
        have hne2 : la[j] ≠ lb[j] → la ≠ lb := fun h e => h (by subst e; rfl)
        have HTK := Lib.hid htk; have HTK2 := Lib.hid htk2; have HNE2 := Lib.hid hne2; clear htk htk2 hne2
        generalize la[j] = x at *
        generalize lb[j] = y at *
        by_cases hxy : x = y
        · have hxy1 : (x == y) = true := by simp [hxy]
          have HXY := Lib.hid hxy; clear hxy
          go_wp2_with fail
          go_quiet (fail)
          go_wp2
          go_roundg (la.length - (j + 1))
          case measure => have := HK.out; omega
          case rel => exact ⟨j + 1, rfl, by omega, by go_num, by rw [HTK.out, HTK2.out, HPRE.out, HXY.out], kept_drewN HKP.out _⟩
        · have hxy1 : (x == y) = false := by simp [hxy]
          have HXY := Lib.hid hxy; clear hxy
          go_wp2_with fail
          go_quiet (fail)
          go_wp2
          go_ret
          have E : (la == lb) = false := by rw [beq_eq_false_iff_ne]; exact HNE2.out HXY.out
          exact ⟨by rw [E]; rfl, kept_drewN HKP.out _⟩
      · obtain rfl : j = la.length := by omega
        have e : la = lb := by
          have := HPRE.out
          rwa [List.take_length, HLEN.out, List.take_length] at this
        have E : Hid ((la == lb) = true) := by
          show _ = _
          rw [e]; simp
        clear e
        go_wp2
        go_ret
        exact ⟨by rw [E.out]; rfl, HKP.out⟩
  · have hne : ((la.length : Int) != (lb.length : Int)) = true := by simp; omega
    have e : (la == lb) = false := by
      rw [beq_eq_false_iff_ne]; intro e; exact hlen (by rw [e])
    have E := Lib.hid e; clear e hlen
    go_enter Tryz.func36, Tryz.ntmps36
    go_wp2
    go_ret
    exact ⟨by rw [E.out]; rfl, Kept.refl _ _⟩

end Go.Proofs.YtjnpmbdehalmpaaGreat
