/-
  ScanBlanks: the walk.
-/
import Derived.Test.YtofpnlmlenffnaaDoorL12j
namespace Go.Proofs.YtofpnlmlenffnaaDoor
open Go.RowKit Go.Mk

theorem blanks_awake (l m : List UInt8) (w : World) (h : 300 < l.length ∨ 20 < m.length) : Calls Tryd.prog 6 #[.string (bs l), .string (bs m)] w fun e w' => e = .returned (.bool true) ∧ Below w.heap.size w w' := by
  have HW := Lib.hid (fun w => awake12_any w)
  have hs := bs_size l
  have hs2 := bs_size m
  by_cases h5 : 300 < l.length
  · have h1 : (300 : Int) < ((bs l).size : Int) := by omega
    clear h5 hs hs2 h
    generalize bs l = s at *
    generalize bs m = t at *
    go_enter Tryd.func6, Tryd.ntmps6
    go_wp2_with fail
    refine (HW.out _).mono ?_
    rintro e w1 ⟨rfl, k1⟩
    go_wp2_with fail
    refine (HW.out _).mono ?_
    rintro e w2 ⟨rfl, k2⟩
    go_wp2
    go_ret
    exact ⟨rfl, keeps_below12 (k1.trans k2 (fun _ _ h => h))⟩
  · have h1 : ¬ (300 : Int) < ((bs l).size : Int) := by omega
    have h2 : (20 : Int) < ((bs m).size : Int) := by omega
    clear h5 hs hs2 h
    generalize bs l = s at *
    generalize bs m = t at *
    go_enter Tryd.func6, Tryd.ntmps6
    go_wp2_with fail
    refine (HW.out _).mono ?_
    rintro e w1 ⟨rfl, k1⟩
    go_wp2_with fail
    refine (HW.out _).mono ?_
    rintro e w2 ⟨rfl, k2⟩
    go_wp2
    go_ret
    exact ⟨rfl, keeps_below12 (k1.trans k2 (fun _ _ h => h))⟩

theorem blankT_take (rem : List UInt8) (es : List (TK × List UInt8)) (i : Nat) (h : i < es.length) : blankT rem (es.take (i + 1)) = blankT rem (es.take i) ++ (es[i].2 ++ sepL rem) := by
  unfold blankT
  rw [List.take_add_one, List.getElem?_eq_getElem h, Option.toList_some, List.map_append, List.flatten_append]
  simp

set_option maxHeartbeats 6000000 in
set_option maxRecDepth 100000 in
theorem blanks_walk (l m : List UInt8) (w : World) : Calls Tryd.prog 6 #[.string (bs l), .string (bs m)] w fun e w' => e = .returned (.bool true) ∧ Below w.heap.size w w' := by
  by_cases hlm : 300 < l.length ∨ 20 < m.length
  · exact blanks_awake l m w hlm
  · have HW := Lib.hid (fun w => awake12_any w)
    have hs := bs_size l
    have hs2 := bs_size m
    have h1 : ¬ (300 : Int) < ((bs l).size : Int) := by omega
    have h2 : ¬ (20 : Int) < ((bs m).size : Int) := by omega
    have hl3 : l.length ≤ 300 := by omega
    have hm3 : m.length ≤ 20 := by omega
    have HA := Lib.hid (fun w => r12all_any l w (by omega)); have HB := Lib.hid (fun w => dall12_any l w (by omega))
    have HC1 := Lib.hid (all_cnt l)
    clear hlm
    go_enter Tryd.func6, Tryd.ntmps6
    go_wp2_with fail
    refine (HW.out _).mono ?_
    rintro e w1 ⟨rfl, k1⟩
    have K1 := Lib.hid k1; clear k1
    go_wp2
    go_loopg [5] m.length (fun k v wr => ∃ j : Nat, k = m.length - j ∧ v = .int .i64 (j : Int) ∧ j ≤ m.length ∧ (∀ x ∈ m.take j, x ≠ 34) ∧ w1 = wr)
    case atStart => exact ⟨0, rfl, rfl, Nat.zero_le _, by simp, rfl⟩
    case round =>
      obtain ⟨j, hk, rfl, hj, hno, hwr⟩ := hrel
      have HK := Lib.hid hk; have HNO := Lib.hid hno
      subst hwr
      clear hk hno
      by_cases hlt : j < m.length
      · have hlt1 : (j : Int) < ((bs m).size : Int) := by omega
        have hgj : ∀ h : j < (bs m).size, (((bs m)[j]'h).toNat : Int) = ((m[j]'hlt).toNat : Int) := fun h => by rw [bs_get m j hlt]
        by_cases hc : ((m[j]'hlt).toNat : Int) = 34
        · rw [hc] at hgj
          go_wp2
          go_ret
          exact ⟨rfl, keeps_below12 K1.out⟩
        · have HN2 := Lib.hid (show ∀ x ∈ m.take (j + 1), x ≠ 34 from fun x hx => by
            rw [List.take_add_one, List.getElem?_eq_getElem hlt, Option.toList_some, List.mem_append] at hx
            rcases hx with hx | hx
            · exact HNO.out x hx
            · rw [List.mem_singleton] at hx
              rw [hx]
              intro h
              exact hc (by rw [h]; rfl))
          generalize ((m[j]'hlt).toNat : Int) = y at *
          have hy : (y == 34) = false := by simpa using hc
          go_wp2
          go_roundg (m.length - (j + 1))
          case measure => have := HK.out; omega
          case rel => exact ⟨j + 1, rfl, by go_num, by omega, HN2.out, rfl⟩
      · obtain rfl : j = m.length := by omega
        have hrem := HNO.out
        rw [List.take_length] at hrem
        have HBL := Lib.hid (fun ts (h : allL l = (0, 0, ts)) => all_blank (s := l) (rem := m) (by omega) hrem h)
        have HOK := Lib.hid (show (allL l).1 = 0 → (allL l).2.1 = 0 ∧ (allL l).2.2 ≠ [] from fun h => by
          unfold allL at h ⊢
          rw [if_neg (by omega)] at h ⊢
          exact go_ok l.length _ l 0 (Nat.le_refl _) h)
        have HTK := Lib.hid (fun (p : Nat) (wx : World) (h : p < l.length) => r12tok_any l p wx h (by omega))
        clear hrem hlt
        generalize hA : allL l = ra at *
        obtain ⟨ea, pa, ts⟩ := ra
        clear hA
        go_wp2_with fail
        refine (HA.out _).mono ?_
        rintro e w2 ⟨ao, ac, rfl, t2, k2, _⟩
        have K2 := Lib.hid (K1.out.trans k2 (fun _ _ h => h)); have TA := Lib.hid t2; clear k2 t2
        by_cases hea : ea = 0
        · subst hea
          obtain ⟨rfl, hne⟩ := HOK.out rfl
          obtain ⟨es, p, hts, hraw, hall⟩ := HBL.out ts rfl
          have hel : ts.length = es.length + 1 := by rw [hts]; simp
          have n1 : ts.length ≤ 301 := Nat.le_trans HC1.out (by omega)
          have HEL := Lib.hid hel
          have HRAW := Lib.hid hraw; have HALL := Lib.hid hall
          have HTE := Lib.hid (show ∀ j (h : j < es.length) (h' : j < ts.length), ts[j] = es[j].1 from fun j h h' => by
            subst hts
            rw [List.getElem_append_left (by simpa using h)]
            simp)
          clear hts hraw hall hne hel
          go_wp2
          go_loopg [12, 13] es.length (fun k u v wr => ∃ (j : Nat) (acc : List UInt8), k = es.length - j ∧ u = .string (bs acc) ∧ v = .int .i64 (j : Int) ∧ j ≤ es.length ∧ acc = blankT m (es.take j) ∧ acc.length ≤ j * 400 ∧ Kept (fun _ => False) w2 wr)
          case atStart => exact ⟨0, [], rfl, rfl, rfl, Nat.zero_le _, by simp [blankT], Nat.le_refl _, Kept.refl _ _⟩
          case round =>
            obtain ⟨j, acc, hk, rfl, rfl, hj, hacc, hal, hq⟩ := hrel
            have HK2 := Lib.hid hk; have HACC := Lib.hid hacc; have HQ := Lib.hid hq; have HAL := Lib.hid hal
            clear hk hacc hq
            have hjb : j ≤ 300 := by have := HEL.out; omega
            by_cases hlt : j < es.length
            · have htj : j < ts.length := by have := HEL.out; omega
              obtain ⟨b1, o1, rfl, _, hcb⟩ := (TA.out.keep HQ.out).at (by intro h; rw [h] at htj; simp at htj)
              obtain ⟨x0, x1, x2, x3⟩ := hcb j htj
              rw [HTE.out j hlt htj] at x0 x1 x2 x3
              obtain ⟨pp, mm, c, r, r1, r2, r3, r4, r5, r6⟩ := HRAW.out es[j] (List.getElem_mem hlt)
              have hpl : pp < l.length := by
                apply Classical.byContradiction
                intro h
                rw [List.drop_eq_nil_of_le (by omega)] at r2
                cases r2
              have hml := (tok_len r5).2
              rw [← r2, drop_len'] at hml
              have HT := Lib.hid (fun wx => HTK.out pp wx hpl)
              rw [r2, r5] at HT
              have HBT := Lib.hid (blankT_take m es j hlt)
              rw [r1] at x3
              obtain ⟨E, hE⟩ : ∃ E, pp + mm = E := ⟨_, rfl⟩
              have hx : (bs l).extract pp E = bs es[j].2 := by rw [bs_extract, ← hE, ← take_cut, r2, r6]
              have h2l : es[j].2.length ≤ 300 := by rw [r6, List.length_take, ← r2, drop_len']; omega
              have i1 : (j : Int) + 1 < (ts.length : Int) := by have := HEL.out; omega
              have i2 : (pp : Int) ≤ (E : Int) := by omega
              have i3 : (E : Int) ≤ ((bs l).size : Int) := by omega
              have HE := Lib.hid hE
              clear hcb r2 r3 r4 r5 r6 hE x0 x1 x2
              generalize es[j].2 = piece at *
              generalize es[j].1 = tk at *
              obtain ⟨tk0, tk1, tk2, tk3⟩ := tk
              have q1 : bs acc ++ bs piece ++ bs [10, 34] ++ bs m ++ bs [34, 32] = bs (acc ++ (piece ++ sepL m)) := by
                rw [bs_append, bs_append, bs_append, bs_append]
                simp [sepL]
              have z1 : (bs acc).size ≤ 120000 := by rw [bs_size]; omega
              have z2 : (bs piece).size ≤ 300 := by rw [bs_size]; exact h2l
              have z3 : (bs acc ++ bs piece).size ≤ 120300 := by rw [bs_append, bs_size, List.length_append]; rw [bs_size] at z1 z2; omega
              have z4 : (bs acc ++ bs piece ++ bs [10, 34]).size ≤ 120302 := by rw [bs_append, bs_append, bs_size]; rw [bs_size] at z1 z2; simp; omega
              have z5 : (bs acc ++ bs piece ++ bs [10, 34] ++ bs m).size ≤ 120322 := by rw [bs_append, bs_append, bs_append, bs_size]; rw [bs_size] at z1 z2; simp; omega
              have z6 : (bs [10, 34]).size = 2 := rfl
              have z7 : (bs [34, 32]).size = 2 := rfl
              go_wp2_with fail
              refine (HT.out _).mono ?_
              rintro e w4 ⟨rfl, k4⟩
              rw [HE.out]
              have K4 := Lib.hid (HQ.out.trans k4 (fun _ _ h => h))
              have x3' := (k4.cell (p := ⟨b1, o1 + j * 4 + 3, none⟩) (World.block_lt_of_cell? _ _ x3) (fun h => h)).trans x3
              have x3'' := (((Kept.refl (fun _ => False) w4).alloc (.cells #[.int .i64 tk0, .string (bs tk1), .int .i64 tk2, .int .i64 (pp : Int)] 35)).cell (p := ⟨b1, o1 + j * 4 + 3, none⟩) (World.block_lt_of_cell? _ _ x3') (fun h => h)).trans x3'
              clear k4
              unfold valT
              have K5 := Lib.hid (show Kept (fun _ => False) w2 (w4.alloc (.cells #[.int .i64 tk0, .string (bs tk1), .int .i64 tk2, .int .i64 (pp : Int)] 35)) from K4.out.alloc _)
              go_wp2
              go_roundg (es.length - (j + 1))
              case measure => have := HK2.out; omega
              case rel => exact ⟨j + 1, acc ++ (piece ++ sepL m), rfl, by rw [← q1]; rfl, by go_num, by omega, by rw [HBT.out, HACC.out], by have := HAL.out; simp [sepL]; omega, K5.out⟩
            · obtain rfl : j = es.length := by omega
              have hacc := HACC.out
              rw [List.take_length] at hacc
              subst hacc
              have hal2 := HAL.out
              have i1 : ¬ ((es.length : Nat) : Int) + 1 < (ts.length : Int) := by have := HEL.out; omega
              have HX := Lib.hid (fun w => dall12_any (blankT m es) w (by omega))
              have hsz : (bs (blankT m es)).size = (blankT m es).length := rfl
              by_cases h4 : 4000 < (blankT m es).length
              · have j1 : (4000 : Int) < ((bs (blankT m es)).size : Int) := by omega
                generalize allL (blankT m es) = rr at HX
                obtain ⟨ex, px, us⟩ := rr
                clear hsz h4 HACC hal2 hal
                generalize bs (blankT m es) = S at *
                go_wp2_with fail
                refine (HX.out _).mono ?_
                rintro e w5 ⟨uo, uc, rfl, t5, k5, _⟩
                have K5 := Lib.hid (K2.out.trans (HQ.out.trans k5 (fun _ _ h => h)) (fun _ _ h => h))
                clear t5 k5
                go_wp2
                go_ret
                exact ⟨rfl, keeps_below12 K5.out⟩
              · obtain ⟨us, hu1, hu2⟩ := HALL.out (by omega)
                rw [hu1] at HX
                have j1 : ¬ (4000 : Int) < ((bs (blankT m es)).size : Int) := by omega
                have hul : us.length = ts.length := by have := congrArg List.length hu2; simpa using this
                have HSM := Lib.hid (show ∀ j (h : j < us.length) (h' : j < ts.length), eqT false us[j] ts[j] from fun j h h' => by
                  have e := congrArg (fun l => l[j]?) hu2
                  simp only [List.getElem?_map, List.getElem?_eq_getElem h, List.getElem?_eq_getElem h', Option.map_some, Option.some.injEq] at e
                  unfold noAt at e
                  simp only [Prod.mk.injEq] at e
                  exact ⟨e.1, e.2.1, e.2.2, fun h => by cases h⟩)
                have HUL := Lib.hid hul
                clear hsz h4 HACC hal2 hal hu1 hu2 hul
                generalize bs (blankT m es) = S at *
                go_wp2_with fail
                refine (HX.out _).mono ?_
                rintro e w5 ⟨uo, uc, rfl, t5, k5, _⟩
                have K5 := Lib.hid (K2.out.trans (HQ.out.trans k5 (fun _ _ h => h)) (fun _ _ h => h))
                have HS := Lib.hid (r12same_yes uo ao uc ac us ts _ _ w5 t5 (TA.out.keep (HQ.out.trans k5 (fun _ _ h => h))) false HUL.out HSM.out (by have := HUL.out; omega))
                clear t5 k5
                go_wp2_with fail
                refine HS.out.mono ?_
                rintro e w6 ⟨rfl, k6⟩
                have K6 := Lib.hid (K5.out.trans k6 (fun _ _ h => h))
                clear k6
                go_wp2
                go_ret
                exact ⟨rfl, keeps_below12 K6.out⟩
        · have e1 : (ea != 0) = true := by simpa using hea
          have e2 : (ea == ea) = true := by simp
          go_wp2_with fail
          refine (HB.out _).mono ?_
          rintro e w3 ⟨bo, bc, rfl, t3, k3, _⟩
          have K3 := Lib.hid (K2.out.trans k3 (fun _ _ h => h)); clear k3 t3
          go_wp2
          go_ret
          exact ⟨rfl, keeps_below12 K3.out⟩

end Go.Proofs.YtofpnlmlenffnaaDoor
