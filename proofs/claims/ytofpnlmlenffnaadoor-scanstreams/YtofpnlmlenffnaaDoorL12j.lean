/-
  ScanJoins: the walk.
-/
import Derived.Test.YtofpnlmlenffnaaDoorL12q
namespace Go.Proofs.YtofpnlmlenffnaaDoor
open Go.RowKit Go.Mk

theorem go_at : ∀ (n f a : Nat) (l : List UInt8), l.length ≤ n → ∀ t ∈ (goAll f a l).2.2, 0 ≤ t.at_ ∧ t.at_ ≤ (a : Int) + l.length
  | _, 0, a, l, _, t, ht => by
    simp [goAll] at ht
    subst ht
    dsimp only
    omega
  | _, f + 1, a, [], _, t, ht => by
    simp [goAll] at ht
    subst ht
    dsimp only
    simp
  | n, f + 1, a, c :: r, hn, t, ht => by
    cases n with
    | zero => simp at hn
    | succ n =>
      simp only [List.length_cons] at hn
      rw [go_cons] at ht
      split at ht
      · have := go_at n f (a + 1) r (by omega) t ht
        simp only [List.length_cons]
        omega
      · split at ht
        · split at ht
          · simp at ht
          · rename_i hne
            have hw := while_le (p := (· != 34)) r
            have := go_at n f (a + (r.takeWhile (· != 34)).length + 2) (r.drop ((r.takeWhile (· != 34)).length + 1)) (by simp only [List.length_drop]; omega) t ht
            simp only [List.length_drop, List.length_cons] at this ⊢
            omega
        · cases htk : tokL (c :: r) with
          | none => rw [htk] at ht; simp at ht
          | some u =>
            obtain ⟨k, x, m, j⟩ := u
            obtain ⟨h1, h2⟩ := tok_len htk
            have ih := go_at n f (a + j) ((c :: r).drop j) (by simp only [List.length_drop, List.length_cons]; omega)
            simp only [List.length_drop, List.length_cons] at ih h2 ⊢
            rw [htk] at ht
            dsimp only at ht
            split at ht
            · rcases List.mem_cons.1 ht with rfl | ht
              · dsimp only; omega
              · have := ih t ht
                omega
            · have := ih t ht
              omega

theorem all_at {l : List UInt8} : ∀ t ∈ (allL l).2.2, 0 ≤ t.at_ ∧ t.at_ ≤ l.length := by
  intro t ht
  unfold allL at ht
  split at ht
  · simp at ht
  · have := go_at l.length _ _ l (Nat.le_refl _) t ht
    omega

theorem joins_awake (l m : List UInt8) (w : World) (h : 300 < l.length ∨ 300 < m.length) : Calls Tryd.prog 7 #[.string (bs l), .string (bs m)] w fun e w' => e = .returned (.bool true) ∧ Below w.heap.size w w' := by
  have HW := Lib.hid (fun w => awake12_any w)
  have hs := bs_size l
  have hs2 := bs_size m
  by_cases h5 : 300 < l.length
  · have h1 : (300 : Int) < ((bs l).size : Int) := by omega
    clear h5 hs hs2 h
    generalize bs l = s at *
    generalize bs m = t at *
    go_enter Tryd.func7, Tryd.ntmps7
    go_wp2_with fail
    refine (HW.out _).mono ?_
    rintro e w1 ⟨rfl, k1⟩
    go_wp2_with fail
    refine (HW.out _).mono ?_
    rintro e w2 ⟨rfl, k2⟩
    go_wp2
    go_ret
    exact ⟨rfl, keeps_below12 (k1.trans k2 (fun _ _ h => h))⟩
  · have h1 : ¬ (300 : Int) < ((bs l).size : Int) := by omega
    have h2 : (300 : Int) < ((bs m).size : Int) := by omega
    clear h5 hs hs2 h
    generalize bs l = s at *
    generalize bs m = t at *
    go_enter Tryd.func7, Tryd.ntmps7
    go_wp2_with fail
    refine (HW.out _).mono ?_
    rintro e w1 ⟨rfl, k1⟩
    go_wp2_with fail
    refine (HW.out _).mono ?_
    rintro e w2 ⟨rfl, k2⟩
    go_wp2
    go_ret
    exact ⟨rfl, keeps_below12 (k1.trans k2 (fun _ _ h => h))⟩

theorem cellsT_cons (t : TK) (ts : List TK) : cellsT (t :: ts) = cellsT1 t ++ cellsT ts := by simp [cellsT, List.flatMap_cons]

theorem cellsT_take : ∀ (ts : List TK) (k : Nat), cellsT (ts.take k) = (cellsT ts).take (k * 4)
  | [], k => by simp [cellsT]
  | t :: ts, 0 => by simp [cellsT]
  | t :: ts, k + 1 => by
    have ih := cellsT_take ts k
    have hl : (cellsT1 t).length = 4 := rfl
    have e1 : (cellsT1 t).take ((k + 1) * 4) = cellsT1 t := List.take_of_length_le (by omega)
    have e2 : (k + 1) * 4 - (cellsT1 t).length = k * 4 := by omega
    rw [List.take_succ_cons, cellsT_cons, cellsT_cons, ih, List.take_append, e1, e2]

theorem ts_take {w : World} {B : Nat} {ao : Option Addr} {ts : List TK} (h : Ts w B ao ts) (k : Nat) : Ts w B ao (ts.take k) := by
  show Lies w B ao (cellsT (ts.take k))
  rw [cellsT_take]
  exact Lies.take h _

/-- Two tokens that are one, held against each other. -/
theorem neq_tok (t : TK) (w : World) : (binOp .neq 35 (valT t) (valT t)).run Tryd.prog w = .ok (.bool false) w := by
  unfold valT
  go_simp

set_option maxHeartbeats 6000000 in
set_option maxRecDepth 100000 in
theorem joins_walk (l m : List UInt8) (w : World) : Calls Tryd.prog 7 #[.string (bs l), .string (bs m)] w fun e w' => e = .returned (.bool true) ∧ Below w.heap.size w w' := by
  by_cases hlm : 300 < l.length ∨ 300 < m.length
  · exact joins_awake l m w hlm
  · have HW := Lib.hid (fun w => awake12_any w)
    have hs := bs_size l
    have hs2 := bs_size m
    have h1 : ¬ (300 : Int) < ((bs l).size : Int) := by omega
    have h2 : ¬ (300 : Int) < ((bs m).size : Int) := by omega
    have h300 : (bs l).size ≤ 300 ∧ (bs m).size ≤ 300 := by omega
    have HA := Lib.hid (fun w => dall12_any l w (by omega)); have HB := Lib.hid (fun w => dall12_any m w (by omega))
    have HX := Lib.hid (fun w => dall12_any (l ++ 10 :: m) w (by simp; omega))
    have HJ := Lib.hid (fun ts (h : allL l = (0, 0, ts)) => all_join (a := l) (b := m) (by omega) (by omega) h)
    have HC1 := Lib.hid (all_cnt l); have HC2 := Lib.hid (all_cnt m)
    have HAT := Lib.hid (fun t => all_at (l := m) t)
    have HOK := Lib.hid (show (allL l).1 = 0 → (allL l).2.1 = 0 ∧ (allL l).2.2 ≠ [] from fun h => by
      unfold allL at h ⊢
      rw [if_neg (by omega)] at h ⊢
      exact go_ok l.length _ l 0 (Nat.le_refl _) h)
    have HOK2 := Lib.hid (show (allL m).1 = 0 → (allL m).2.1 = 0 ∧ (allL m).2.2 ≠ [] from fun h => by
      unfold allL at h ⊢
      rw [if_neg (by omega)] at h ⊢
      exact go_ok m.length _ m 0 (Nat.le_refl _) h)
    have hcat : bs l ++ bs [10] ++ bs m = bs (l ++ 10 :: m) := by rw [bs_append, bs_append]; simp
    have hc1 : (bs [10]).size = 1 := rfl
    have hc2 : (bs l ++ bs [10]).size = l.length + 1 := by rw [bs_append, bs_size]; simp
    have hnl : (⟨#[10]⟩ : ByteArray) = bs [10] := rfl
    generalize hA : allL l = ra at *
    generalize hB : allL m = rb at *
    generalize hX : allL (l ++ 10 :: m) = rx at *
    obtain ⟨ea, pa, ts⟩ := ra
    obtain ⟨eb, pb, us⟩ := rb
    obtain ⟨ex, px, xs⟩ := rx
    have HLA := Lib.hid hA; have HLB := Lib.hid hB; have HLX := Lib.hid hX
    clear hA hB hX hlm
    go_enter Tryd.func7, Tryd.ntmps7
    go_wp2_with fail
    refine (HW.out _).mono ?_
    rintro e w1 ⟨rfl, k1⟩
    have K1 := Lib.hid k1; clear k1
    go_wp2_with fail
    refine (HA.out _).mono ?_
    rintro e w2 ⟨ao, ac, rfl, t2, k2, hcA⟩
    have K2 := Lib.hid (K1.out.trans k2 (fun _ _ h => h)); have TA := Lib.hid t2; clear k2 t2
    go_wp2_with fail
    refine (HB.out _).mono ?_
    rintro e w3 ⟨bo, bc, rfl, t3, k3, _⟩
    have K3 := Lib.hid (K2.out.trans k3 (fun _ _ h => h)); have TB := Lib.hid t3; have TA3 := Lib.hid (TA.out.keep k3); clear k3 t3
    go_wp2_with fail
    refine (HX.out _).mono ?_
    rintro e w4 ⟨xo, xc, rfl, t4, k4, hcX⟩
    have K4 := Lib.hid (K3.out.trans k4 (fun _ _ h => h)); have TX := Lib.hid t4; have TA4 := Lib.hid (TA3.out.keep k4); have TB4 := Lib.hid (TB.out.keep k4); clear k4 t4
    clear hcat hc1 hc2 hnl
    by_cases hea : ea = 0
    · subst hea
      obtain ⟨rfl, hne⟩ := HOK.out rfl
      obtain ⟨J1, J2⟩ := HJ.out ts rfl
      by_cases heb : eb = 0
      · subst heb
        have hx := J1 rfl
        obtain ⟨rfl, rfl, hxs⟩ : ex = 0 ∧ px = 0 ∧ xs = ts.dropLast ++ us.map (shT (l.length + 1)) := by
          simp only [Prod.mk.injEq] at hx
          exact hx
        have htl : 1 ≤ ts.length := List.length_pos_iff.2 hne
        have HUL := Lib.hid (show 1 ≤ us.length from List.length_pos_iff.2 (HOK2.out rfl).2)
        obtain ⟨T, hT⟩ : ∃ T, ts.length = T + 1 := ⟨ts.length - 1, by omega⟩
        have hT1 : (ts.length : Int) - 1 = (T : Int) := by omega
        have hxl : xs.length = T + us.length := by rw [hxs]; simp [hT]
        have n1 : ts.length ≤ 301 := Nat.le_trans HC1.out (by omega)
        have n2 : us.length ≤ 301 := Nat.le_trans HC2.out (by omega)
        have e0 : ((ts.length : Int) == 0) = false := by simp; intro h; rw [h] at htl; simp at htl
        have e1 : ((xs.length : Int) != (T : Int) + (us.length : Int)) = false := by rw [hxl]; simp
        have HXJ := Lib.hid (show ∀ j (h : j < us.length) (h' : T + j < xs.length), xs[T + j] = shT (l.length + 1) us[j] from fun j h h' => by
          subst hxs
          rw [List.getElem_append_right (by simp [hT])]
          simp [hT])
        have HXT := Lib.hid (show ∀ j (h : j < T) (h' : j < xs.length) (h2 : j < ts.length), xs[j] = ts[j] from fun j h h' h2 => by
          subst hxs
          rw [List.getElem_append_left (by simp [hT]; exact h)]
          rw [List.getElem_dropLast])
        have HT := Lib.hid hT; have HXL := Lib.hid hxl
        have hTb : T ≤ 300 := by omega
        have hxb : xs.length ≤ 602 := by omega
        clear J1 J2 hx hxs hne htl hT hxl
        go_wp2
        go_loopg [14] us.length (fun k v wr => ∃ j : Nat, k = us.length - j ∧ v = .int .i64 (j : Int) ∧ j ≤ us.length ∧ Kept (fun _ => False) w4 wr)
        case atStart => exact ⟨0, rfl, rfl, Nat.zero_le _, Kept.refl _ _⟩
        case round =>
          obtain ⟨j, hk, rfl, hj, hq⟩ := hrel
          have HK := Lib.hid hk; have HQ := Lib.hid hq
          clear hk hq
          by_cases hlt : j < us.length
          · have hxj : T + j < xs.length := by have := HXL.out; omega
            obtain ⟨b1, o1, rfl, _, hcb⟩ := (TB4.out.keep HQ.out).at (by intro h; rw [h] at hlt; simp at hlt)
            obtain ⟨x0, x1, x2, x3⟩ := hcb j hlt
            have hex := HXJ.out j hlt hxj
            have hat := HAT.out us[j] (List.getElem_mem hlt)
            obtain ⟨q, hq⟩ : ∃ q, T + j = q := ⟨_, rfl⟩
            have hqi : (T : Int) + (j : Int) = (q : Int) := by omega
            have hql : (q : Int) < (xs.length : Int) := by omega
            have i1 : (j : Int) < (us.length : Int) := by omega
            obtain ⟨y, hy⟩ : ∃ y, xs[T + j] = y := ⟨_, rfl⟩
            rw [hy] at hex
            generalize us[j] = t at *
            obtain ⟨tk, tx, tn, ta⟩ := t
            unfold shT at hex
            dsimp only at x0 x1 x2 x3 hex hat
            obtain ⟨W, hW⟩ : ∃ W, (wr.alloc (.cells #[.int .i64 tk, .string (bs tx), .int .i64 tn, .int .i64 (ta + (l.length : Int) + 1)] 35)) = W := ⟨_, rfl⟩
            have KW := Lib.hid (show Kept (fun _ => False) w4 W by rw [← hW]; exact HQ.out.alloc _)
            have hW2 := bt_new wr ⟨tk, tx, tn, ta + (l.length : Int) + 1⟩ 35
            dsimp only at hW2
            rw [hW] at hW2
            have hm3 : m.length ≤ 300 := by omega
            have hl3 : l.length ≤ 300 := by omega
            have BW := Lib.hid (hW2.kept (S := fun _ => False) (Kept.drew (Kept.refl (fun _ => False) W)) (fun h => h))
            obtain ⟨z0, z1, z2, z3, _, _, _, _⟩ := BW.out
            dsimp only at z0 z1 z2 z3
            obtain ⟨b2, o2, hxo, _, hcx⟩ := (TX.out.keep (Kept.drew KW.out)).at (by intro h; rw [h] at hxj; simp at hxj)
            obtain ⟨y0, y1, y2, y3⟩ := hcx (T + j) hxj
            rw [hy, hex] at y0 y1 y2 y3
            rw [hq] at y0 y1 y2 y3
            have eat : ta + ((l.length + 1 : Nat) : Int) = ta + (l.length : Int) + 1 := by omega
            dsimp only at y0 y1 y2 y3
            rw [eat] at y3
            subst hxo
            have s1 : ((bs tx).toList == (bs tx).toList) = true := by simp
            have KD := Lib.hid (Kept.drew KW.out)
            clear hcb hcx hex hy hq eat
            go_wp2_with fail
            go_region
            all_goals go_wp2
            all_goals go_roundg (us.length - (j + 1))
            case measure => have := HK.out; omega
            case rel => exact ⟨j + 1, rfl, by go_num, by omega, KD.out⟩
          · obtain rfl : j = us.length := by omega
            obtain ⟨xb, xf, hxo, _, _⟩ := TX.out.at (by intro h; have := HXL.out; rw [h] at this; have := HUL.out; simp at *; omega)
            obtain ⟨ab, af, hao, _, _⟩ := TA4.out.at (by intro h; have := HT.out; rw [h] at this; simp at this)
            subst hxo hao
            have HS := Lib.hid (fun (wx : World) (h : Kept (fun _ => False) w4 wx) => show Calls Tryd.prog 11 #[.slice (some ⟨xb, xf, none⟩) T xc, .slice (some ⟨ab, af, none⟩) T ac, .bool true] wx fun e w' => e = .returned (.bool true) ∧ Kept (fun _ => False) wx w' by
              have l1 : (xs.take T).length = T := by rw [List.length_take]; have := HXL.out; omega
              have l2 : (ts.take T).length = T := by rw [List.length_take]; have := HT.out; omega
              have hsm := r12same_yes _ _ xc ac (xs.take T) (ts.take T) _ _ wx (ts_take (TX.out.keep h) T) (ts_take (TA4.out.keep h) T) true (by rw [l1, l2]) (fun j h1 h2 => by
                rw [l1] at h1
                rw [List.getElem_take, List.getElem_take, HXT.out j h1 (by have := HXL.out; omega) (by have := HT.out; omega)]
                exact ⟨rfl, rfl, rfl, fun _ => rfl⟩) (by rw [l1]; omega)
              rw [l1, l2] at hsm
              exact hsm)
            have hT2 : (T : Int) ≤ (xc : Int) := by have := HXL.out; have h : xs.length ≤ xc := hcX; omega
            have wT : IntKind.i64.wrap ((ts.length : Int) - 1) = (T : Int) := by rw [IntKind.wrap_i64]; have := HT.out; omega
            have wT2 : IntKind.i64.wrap (T : Int) = (T : Int) := by rw [IntKind.wrap_i64]; omega
            have hT0 : (0 : Int) ≤ (T : Int) := by omega
            have hz1 : ¬ xc = 0 := by have := HXL.out; have := HUL.out; have h : xs.length ≤ xc := hcX; omega
            have hz2 : ¬ ac = 0 := by have := HT.out; have h : ts.length ≤ ac := hcA; omega
            have hT3 : (T : Int) ≤ (ac : Int) := by have := HT.out; have h : ts.length ≤ ac := hcA; omega
            go_wp2_with fail
            go_region_with (first
              | (go_at_call 11; refine (HS.out _ (Kept.drew HQ.out)).mono ?_; rintro e w6 ⟨rfl, k6⟩; have K6 := Lib.hid (K4.out.trans ((Kept.drew HQ.out).trans k6 (fun _ _ h => h)) (fun _ _ h => h))))
            all_goals go_wp2
            all_goals go_ret
            all_goals exact ⟨rfl, keeps_below12 K6.out⟩
      · have hx := J2 heb
        obtain ⟨rfl, hpx⟩ := hx
        have e1 : (ex != 0) = true := by simpa using heb
        have e2 : (ex == ex) = true := by simp
        have e3 : ((bs l).size : Int) < px := by rw [hs]; exact hpx
        clear J1 J2
        go_wp2
        go_ret
        exact ⟨rfl, keeps_below12 K4.out⟩
    · have e1 : (ea != 0) = true := by simpa using hea
      go_wp2
      go_ret
      exact ⟨rfl, keeps_below12 K4.out⟩

end Go.Proofs.YtofpnlmlenffnaaDoor
