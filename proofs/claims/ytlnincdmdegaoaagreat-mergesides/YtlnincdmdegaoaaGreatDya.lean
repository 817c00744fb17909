/-
  CONTRACTS of package merge: differing, has, Conflicts.
-/
import Derived.Test.YtlnincdmdegaoaaGreatGMgp
import Derived.Test.YtlnincdmdegaoaaGreatGL9
import Derived.Test.YtlnincdmdegaoaaGreatUk
namespace Go.Proofs.YtlnincdmdegaoaaGreat
open Go.RowKit Go.Mk Go.Maps Go.Shelf

theorem RU_inv {v : Value} {y : DataW Value × List MemPlace} (h : RU v = some y) : v = .agg #[] ∧ y = (.held (.agg #[]), []) := by
  unfold RU at h
  split at h
  · rename_i cs
    split at h
    · rename_i hcs
      cases h
      refine ⟨?_, rfl⟩
      have : cs = #[] := by apply Array.toList_inj.1; rw [hcs]
      rw [this]
    · cases h
  · cases h

theorem dat_hasU (k : List UInt8) (l : List (List UInt8)) : Maps.has (datU l) (.string k) = decide (k ∈ l) := by
  show (l.map fun e => ((Lit.string e, DataW.held (.agg #[])) : Lit × DataW Value)).any (fun p => p.1.sameKey (Lit.string k)) = _
  rw [List.any_map, Bool.eq_iff_iff, List.any_eq_true, decide_eq_true_eq]
  constructor
  · rintro ⟨x, hx, h⟩
    simp [same_str] at h
    exact h ▸ hx
  · intro h
    exact ⟨k, h, by simp [same_str]⟩

theorem Tryz.zeroUnit (w : World) : (zeroValue 70).run Tryz.prog w = .ok (.agg #[]) w := by kernel_rfl

/-- _, there := m[k]. -/
theorem TbU.look {w : World} {b : Nat} {l : List (List UInt8)} (h : TbU w b l) (k : List UInt8) (hk : k.length ≤ maxLen) : (Instr.lookup 63 (.map (some b)) (.string (bs k)) true).run Tryz.prog w = .ok (.tuple #[.agg #[], .bool (decide (k ∈ l))]) w := by
  obtain ⟨v, ps, hr, hv⟩ := h.own.look_ok lawS Tryz.underlying63 (Tryz.zeroUnit w) (show RU (.agg #[]) = some (.held (.agg #[]), []) from rfl) (keyS hk)
  obtain ⟨rfl, _⟩ := RU_inv hv
  rw [dat_hasU] at hr
  exact hr

set_option maxHeartbeats 400000 in
theorem mhas_any (b : Nat) (l : List (List UInt8)) (k : List UInt8) (w : World) (h : TbU w b l) (hk : k.length ≤ maxLen) :
    Calls Tryz.prog 31 #[.map (some b), .string (bs k)] w fun e w' => e = .returned (.bool (decide (k ∈ l))) ∧ Kept (fun _ => False) w w' := by
  have hlk := h.look k hk
  have KA := Lib.hid ((Kept.refl (fun _ => False) w).alloc (.cells #[] 70))
  clear h
  generalize decide (k ∈ l) = r at *
  go_enter Tryz.func31, Tryz.ntmps31
  go_wp2
  go_ret
  exact ⟨rfl, KA.out⟩

/-- What differing answers: a new set. -/
def DkPost (w : World) (l : List (List UInt8)) (e : Ending) (w' : World) : Prop := ∃ b, e = .returned (.map (some b)) ∧ w.heap.size ≤ b ∧ TbU w' b l ∧ Kept (fun _ => False) w w'

theorem ofL_len (A B : List DD) : (ofL A B).length ≤ A.length + B.length := by
  have h := keys_le (A ++ B)
  rw [List.length_append] at h
  exact Nat.le_trans (List.length_filterMap_le _ _) h

theorem eds_keys {q : List EE} {A B : List DD} (h : eds q = ofL A B) : q.map EE.key = (ofL A B).map ED.key := by
  rw [← h]
  simp [eds, edE, Function.comp_def]

theorem ofL_keylen {A B : List DD} (hA : Snp A) (hB : Snp B) : ∀ k ∈ (ofL A B).map ED.key, k.length ≤ 3000000 := by
  intro k hk
  obtain ⟨e, he, rfl⟩ := List.mem_map.1 hk
  obtain ⟨h1, h2, h3⟩ := mem_ofL.1 he
  by_cases ha : e.old = []
  · by_cases hb : e.new = []
    · exact (h3 (ha.trans hb.symm)).elim
    · obtain ⟨x, hx⟩ := List.exists_mem_of_ne_nil _ hb
      rw [h2] at hx
      obtain ⟨x1, x2⟩ := mem_getK.1 hx
      rw [← x2]
      exact key_len8 (hB.right x x1)
  · obtain ⟨x, hx⟩ := List.exists_mem_of_ne_nil _ ha
    rw [h1] at hx
    obtain ⟨x1, x2⟩ := mem_getK.1 hx
    rw [← x2]
    exact key_len8 (hA.right x x1)

theorem setK_take (ks : List (List UInt8)) (j : Nat) (h : j < ks.length) : setK (ks.take (j + 1)) = putK id ks[j] (setK (ks.take j)) := by
  rw [List.take_add_one, List.getElem?_eq_getElem h, Option.toList_some, setK_snoc]

set_option maxRecDepth 100000 in
set_option maxHeartbeats 1000000 in
theorem mdiffer_any (v u : Value) (A B : List DD) (w : World) (h1 : Sn w v A) (h2 : Sn w u B) (ha : A.length ≤ 1000) (hb : B.length ≤ 1000) :
    Calls Tryz.prog 30 #[v, u] w (DkPost w (diffK A B)) := by
  have hmm := @run_makeMap Tryz.prog
  have TB0 := Lib.hid (tbU_new w)
  have KA := Lib.hid ((Kept.refl (fun _ => False) w).alloc (.map #[] 0))
  have HO := Lib.hid (dof_any v u A B (w.alloc (.map #[] 0)) (h1.keep KA.out) (h2.keep KA.out) ha hb)
  have HLEN := Lib.hid (show (ofL A B).length ≤ 2000 by have := ofL_len A B; omega)
  have HL9 := Lib.hid (fun (q : List EE) (hq : eds q = ofL A B) => of_len9 h1.snp h2.snp hq)
  have HKL := Lib.hid (ofL_keylen h1.snp h2.snp)
  have HDK := Lib.hid (show setK ((ofL A B).map ED.key) = diffK A B from rfl)
  clear h1 h2 ha hb
  generalize diffK A B = D at *
  go_enter Tryz.func30, Tryz.ntmps30
  go_wp2_with fail
  refine HO.out.mono ?_
  rintro e w1 ⟨pa, pc, q, rfl, hq, hE, k1⟩
  have hql : q.length ≤ 2000 := by have := congrArg List.length hq; rw [eds_len] at this; have := HLEN.out; omega
  have HQL := Lib.hid hql
  have HKS := Lib.hid (eds_keys hq)
  have HK := Lib.hid (dkeys9_any pa pc q w1.heap.size w1 hE (HL9.out q hq) (by omega))
  have K1 := Lib.hid k1
  clear hq hE hql k1
  go_wp2_with fail
  refine HK.out.mono ?_
  rintro e w2 ⟨ao, cap, rfl, hL, k2⟩
  have HLK := Lib.hid hL
  have K2 := Lib.hid (KA.out.trans (K1.out.trans k2 (fun _ _ h => h)) (fun _ _ h => h))
  have TB2 := Lib.hid (TB0.out.kept (K1.out.trans k2 (fun _ _ h => h)) (fun h => h))
  clear hL k2
  have hkn : (q.map EE.key).length = q.length := List.length_map ..
  have HKN := Lib.hid hkn
  generalize q.map EE.key = ks at *
  rw [← HKN.out]
  clear hkn
  go_wp2
  go_loopg [14] ks.length (fun k c wr => ∃ j, k = ks.length - j ∧ j ≤ ks.length ∧ c = .int .i64 (j : Int) ∧ TbU wr w.heap.size (setK (ks.take j)) ∧ Kept (fun k => k = w.heap.size) w2 wr)
  case atStart => exact ⟨0, rfl, Nat.zero_le _, rfl, TB2.out, Kept.refl _ _⟩
  case round =>
    obtain ⟨j, hk, hj, rfl, ht, hk2⟩ := hrel
    have HJJ := Lib.hid hk; have HT := Lib.hid ht; have HK2 := Lib.hid hk2
    clear hk ht hk2
    by_cases hlt : j < ks.length
    · obtain ⟨xb, xo, rfl, hxb, hc⟩ := HLK.out (by intro h; simp [strs] at h; rw [h] at hlt; simp at hlt)
      have h1 := hc j (.string (bs ks[j])) (by simp [strs, hlt])
      have hx : wr.cell? ⟨xb, xo + j, none⟩ = some (.string (bs ks[j])) :=
        (HK2.out.cell (p := ⟨xb, xo + j, none⟩) (World.block_lt_of_cell? _ _ h1) (fun e => by
          dsimp only at e
          subst e
          obtain ⟨es, clock, hm, _⟩ := TB2.out.own
          simp [World.cell?, hm] at h1)).trans h1
      have htk := setK_take ks j hlt
      have hkl : ks[j].length ≤ maxLen := by have := HKL.out ks[j] (by rw [← HKS.out]; exact List.getElem_mem hlt); unfold maxLen; omega
      have i1 : (j : Int) < (ks.length : Int) := by omega
      have hj2 : ks.length ≤ 2000 := by have h1 := HQL.out; have h2 := HKN.out; omega
      have hset : (setK (ks.take j)).length ≤ 1000000 := by have := setK_len (ks.take j); rw [List.length_take] at this; have := HQL.out; have := HKN.out; omega
      clear hc h1
      generalize ks[j] = x at *
      obtain ⟨w4, hrun, ht4, k4⟩ := HT.out.put x hkl hset
      have T4 := Lib.hid ht4; have HTK := Lib.hid htk; have K4 := Lib.hid (HK2.out.trans k4 (fun _ _ h => h))
      clear ht4 htk k4 hset hkl
      go_wp2
      go_roundg (ks.length - (j + 1))
      case measure => have := HJJ.out; omega
      case rel => exact ⟨j + 1, rfl, by omega, by go_num, by rw [HTK.out]; exact T4.out, K4.out⟩
    · obtain rfl : j = ks.length := by omega
      have ht := HT.out
      rw [List.take_length, HKS.out, HDK.out] at ht
      have HT5 := Lib.hid ht
      clear ht hlt
      go_wp2
      go_ret
      exact ⟨_, rfl, Nat.le_refl _, HT5.out, K2.out.trans HK2.out (fun i hi e => by omega)⟩

theorem filt_left {l : List (List UInt8)} {p : List UInt8 → Bool} (h : ∀ k ∈ l, p k = true) : l.filter p = l := List.filter_eq_self.2 h

theorem datU_del (k : List UInt8) (l : List (List UInt8)) : (datU l).del (.string k) = datU (dropK id k l) := by
  unfold datU DataW.del dropK
  simp only
  rw [List.filter_map]
  rfl

/-- What the set reads as while Conflicts goes through it: what is a conflict or still to come. -/
def leftU (L : List (List UInt8)) (keep : List UInt8 → Bool) (left : Lit → Bool) : List (List UInt8) := L.filter (fun k => left (.string k) || keep k)

theorem leftU_drop (L : List (List UInt8)) (keep : List UInt8 → Bool) (left : Lit → Bool) (x : List UInt8) (hx : keep x = false) : dropK id x (leftU L keep left) = leftU L keep (fun z => left z && !z.sameKey (.string x)) := by
  unfold dropK leftU
  rw [List.filter_filter]
  apply List.filter_congr
  intro k _
  simp only [id, same_str]
  by_cases h : k = x
  · subst h; simp [hx]
  · have hb : (k == x) = false := by simpa using h
    simp [hb]

theorem leftU_keep (L : List (List UInt8)) (keep : List UInt8 → Bool) (left : Lit → Bool) (x : List UInt8) (hx : keep x = true) : leftU L keep left = leftU L keep (fun z => left z && !z.sameKey (.string x)) := by
  unfold leftU
  apply List.filter_congr
  intro k _
  simp only [same_str]
  by_cases h : k = x
  · subst h; simp [hx]
  · have hb : (k == x) = false := by simpa using h
    simp [hb]

theorem leftU_end (L : List (List UInt8)) (keep : List UInt8 → Bool) (left : Lit → Bool) (h : ∀ kl, left kl = false) : leftU L keep left = L.filter keep := by
  unfold leftU
  apply List.filter_congr
  intro k _
  rw [h]
  rfl

theorem leftU_start (L : List (List UInt8)) (keep : List UInt8 → Bool) : leftU L keep (Maps.has (datU L)) = L := by
  unfold leftU
  refine filt_left (fun k hk => ?_)
  rw [dat_hasU]
  simp [hk]

set_option maxRecDepth 100000 in
set_option maxHeartbeats 4000000 in
theorem dconf10_any (v u t : Value) (A B C : List DD) (w : World) (h1 : Sn w v A) (h2 : Sn w u B) (h3 : Sn w t C) (ha : A.length ≤ 500) (hb : B.length ≤ 500) (hc : C.length ≤ 500) :
    Calls Tryz.prog 14 #[v, u, t] w (StQ w (mergeC A B C)) := by
  have HD1 := Lib.hid (mdiffer_any v u A B w h1 h2 (by omega) (by omega))
  have HD2 := Lib.hid (fun (wx : World) (h : Kept (fun _ => False) w wx) => mdiffer_any v t A C wx (h1.keep h) (h3.keep h) (by omega) (by omega))
  have HD3 := Lib.hid (fun (wx : World) (h : Kept (fun _ => False) w wx) => mdiffer_any u t B C wx (h2.keep h) (h3.keep h) (by omega) (by omega))
  have HKL := Lib.hid (show ∀ k ∈ diffK B C, k.length ≤ 3000000 from fun k hk => ofL_keylen h2.snp h3.snp k (mem_setK.1 hk))
  have HLE := Lib.hid (show (diffK B C).length ≤ 1000 by have := setK_len ((ofL B C).map ED.key); rw [List.length_map] at this; have := ofL_len B C; unfold diffK; omega)
  rw [← confs_is]
  have HKP := Lib.hid (show ∀ k, both3 A B C k = (decide (k ∈ diffK A B) && decide (k ∈ diffK A C)) from fun _ => rfl)
  clear h1 h2 h3 ha hb hc
  generalize both3 A B C = keep at *
  generalize diffK A B = K1 at *
  generalize diffK A C = K2 at *
  generalize diffK B C = L at *
  go_enter Tryz.func14, Tryz.ntmps14
  go_wp2_with fail
  refine HD1.out.mono ?_
  rintro e w1 ⟨b1, rfl, hb1, ht1, k1⟩
  have T1 := Lib.hid ht1; have Q1 := Lib.hid k1; clear ht1 k1
  go_wp2_with fail
  refine (HD2.out _ Q1.out).mono ?_
  rintro e w2 ⟨b2, rfl, hb2, ht2, k2⟩
  have T12 := Lib.hid (T1.out.kept k2 (fun h => h)); have T2 := Lib.hid ht2; have Q2 := Lib.hid (Q1.out.trans k2 (fun _ _ h => h)); clear ht2 k2
  go_wp2_with fail
  refine (HD3.out _ Q2.out).mono ?_
  rintro e w3 ⟨b3, rfl, hb3, ht3, k3⟩
  have T13 := Lib.hid (T12.out.kept k3 (fun h => h)); have T23 := Lib.hid (T2.out.kept k3 (fun h => h)); have T3 := Lib.hid ht3; have Q3 := Lib.hid (Q2.out.trans k3 (fun _ _ h => h))
  have N13 := Lib.hid (show b1 ≠ b3 from fun e => by have := T12.out.lt; omega)
  have N23 := Lib.hid (show b2 ≠ b3 from fun e => by have := T2.out.lt; omega)
  have HB3 := Lib.hid (show w.heap.size ≤ b3 from Nat.le_trans Q2.out.size hb3)
  have hso := ht3.own
  have hb3l := ht3.lt
  clear ht3 k3 hb1 hb2 hb3
  go_wp2_with (first
    | (at_range; refine wpList_range_own _ rfl _ 63 rfl 9 70 lawS Tryz.underlying63 RU b3 L.length _ rfl hso ?_; intro w0 hrg0 hg0 hs0)
    | go_in)
  go_frame
  go_loopw [10] (fun _ wr => ∃ (left : Lit → Bool) (cnt : Nat), wr.ranges Tryz.prog 9 RU b3 w3.heap.size L.length (datU (leftU L keep left)) left cnt ∧ Hid (∀ k, left (.string k) = true → k ∈ L) ∧ w3.grownBy wr (some b3))
    (fun _ wr => wr.rangeLeft b3 w3.heap.size)
  case atStart => exact ⟨_, _, by rw [leftU_start]; exact hrg0, Lib.hid (fun k hk => by rw [dat_hasU] at hk; exact of_decide_eq_true hk), ⟨hg0.os, hg0.tape, hg0.output, hg0.size, fun i hi _ => hg0.block i hi (by simp)⟩⟩
  case round =>
    obtain ⟨left, cnt, hrg, HG, hgw⟩ := hrel
    go_wp2_with (first
      | (at_next; refine wpList_next_ranges _ rfl _ rfl 9 lawS RU (fun k : List UInt8 => Value.string (bs k)) (fun _ : Unit => Value.agg #[]) (fun key kl h => by obtain ⟨k, h1, _⟩ := keyS_inv h; exact ⟨k, h1⟩) (fun v y h => ⟨(), (RU_inv h).1⟩) b3 w3.heap.size L.length _ _ _ rfl hrg ?_ ?_)
      | go_in)
    · intro _ hl0
      have hown := hrg.owns
      rw [leftU_end _ _ _ hl0] at hown
      have K5 := Lib.hid (show Kept (fun _ => False) w wr from Q3.out.trans (kept_of_grown hgw) (fun i hi e => by cases e; have := HB3.out; omega))
      have T5 := Lib.hid (show TbU wr b3 (L.filter keep) from ⟨by have := owns_tightU hown; rwa [dat_sizeU] at this, T3.out.rise.filter _⟩)
      have hfl : (L.filter keep).length ≤ 1000 := Nat.le_trans (List.length_filter_le _ _) HLE.out
      have HFL := Lib.hid hfl
      clear hrg hgw hown hfl hl0
      generalize L.filter keep = R at *
      have HMK := Lib.hid (mkeysU_any (some b3) wr)
      go_wp2_with fail
      refine HMK.out.mono ?_
      rintro e w6 ⟨rfl, hw6⟩
      have K6 := Lib.hid (show Kept (fun _ => False) wr w6 by rw [hw6]; exact (Kept.refl (fun _ => False) wr).alloc _)
      have HUS := Lib.hid (usorted_any b3 R wr.heap.size w6 (by rw [hw6]; exact World.cell?_alloc_new wr _ _ 0) (T5.out.kept K6.out (fun h => h)) (by have := HFL.out; omega))
      clear hw6
      go_wp2_with fail
      refine HUS.out.mono ?_
      rintro e w7 ⟨ao, kc, rfl, ho, k7⟩
      have K7 := Lib.hid (K5.out.trans (K6.out.trans k7 (fun _ _ h => h)) (fun _ _ h => h))
      have HO := Lib.hid (owns_lies ho)
      clear ho k7
      go_wp2
      go_ret
      exact ⟨ao, kc, rfl, HO.out, K7.out⟩
    · intro x c kl y w4 cnt4 hkey hlx hv hat hrg4 hlt hg4 hs4 hen
      obtain ⟨x', hx1, hx2, hxl⟩ := keyS_inv hkey
      have hxe : x' = x := by
        injection hx1 with hx1
        exact (bs_inj hx1).symm
      subst hxe
      subst hx2
      have hgw4 : w3.grownBy w4 (some b3) := hgw.andThen hg4 (fun j hj => by cases hj; exact Or.inl (Nat.le_refl _))
      have GW4 := Lib.hid hgw4
      have KW := Lib.hid (kept_of_grown hgw4)
      have U1 := Lib.hid (T13.out.kept KW.out (fun e => N13.out (by cases e; rfl)))
      have U2 := Lib.hid (T23.out.kept KW.out (fun e => N23.out (by cases e; rfl)))
      have HRG := Lib.hid hrg; have HRG4 := Lib.hid hrg4; have HLT := Lib.hid hlt; have HXL := Lib.hid hxl
      have HG4 := Lib.hid (show ∀ k, (left (.string k) && !(Lit.string k).sameKey (.string x')) = true → k ∈ L from fun k hk => HG.out k (by simp at hk; exact hk.1))
      have HH1 := Lib.hid (mhas_any b1 K1 x' w4 U1.out HXL.out)
      have HH2 := Lib.hid (fun (wx : World) (h : Kept (fun _ => False) w4 wx) => mhas_any b2 K2 x' wx (U2.out.kept h (fun h => h)) HXL.out)
      have HKX := Lib.hid (HKP.out x')
      clear hrg hrg4 hlt hxl hkey hlx hv hat hg4 hs4 hx1 hgw hgw4 HG
      generalize decide (x' ∈ K1) = r1 at *
      generalize decide (x' ∈ K2) = r2 at *
      have KEEP : ∀ (wy : World), Kept (fun _ => False) w4 wy → wy.ranges Tryz.prog 9 RU b3 w3.heap.size L.length (datU (leftU L keep left)) (fun z => left z && !z.sameKey (.string x')) cnt4 := fun wy h => HRG4.out.kept (grown_of_kept h) (by simp) (by simp)
      have HKEEP := Lib.hid KEEP; clear KEEP
      cases r1 with
      | false =>
        have hkx : keep x' = false := by rw [HKX.out]; rfl
        have HX := Lib.hid hkx; clear hkx
        go_wp2_with fail
        refine HH1.out.mono ?_
        rintro e w5 ⟨rfl, k5⟩
        obtain ⟨w6, cnt6, hrun, hrg6, hle6, htu⟩ := (HKEEP.out w5 k5).drop (t := 63) (ty := 0) lawS Tryz.underlying63 (keyS HXL.out)
        rw [datU_del, leftU_drop _ _ _ _ HX.out] at hrg6
        have hrun' : ∀ ty, (Builtin.delete_ #[63, 9] ty #[.map (some b3), .string (bs x')]).run Tryz.prog w5 = .ok (.tuple #[]) w6 := fun ty => hrun
        have HRG6 := Lib.hid hrg6; have HLE6 := Lib.hid hle6
        have GW6 := Lib.hid ((GW4.out.andThen (grown_of_kept k5) (fun j hj => by cases hj)).andThen htu.grown (fun j hj => .inr hj))
        clear hrun hrg6 hle6 htu k5
        go_wp2
        go_roundw
        case rel => exact ⟨_, cnt6, by have h := HRG6.out; simpa [Bool.and_assoc] using h, HG4, GW6.out⟩
        case measure => rw [HRG6.out.left_eq, HRG.out.left_eq]; have := HLT.out; have := HLE6.out; omega
      | true =>
        go_wp2_with fail
        refine HH1.out.mono ?_
        rintro e w5 ⟨rfl, k5⟩
        have K5 := Lib.hid k5; clear k5
        have HH := Lib.hid (HH2.out w5 K5.out)
        cases r2 with
        | false =>
          have hkx : keep x' = false := by rw [HKX.out]; rfl
          have HX := Lib.hid hkx; clear hkx
          go_wp2_with fail
          refine HH.out.mono ?_
          rintro e w7 ⟨rfl, k7⟩
          have K7 := Lib.hid (K5.out.trans k7 (fun _ _ h => h)); clear k7
          obtain ⟨w6, cnt6, hrun, hrg6, hle6, htu⟩ := (HKEEP.out w7 K7.out).drop (t := 63) (ty := 0) lawS Tryz.underlying63 (keyS HXL.out)
          rw [datU_del, leftU_drop _ _ _ _ HX.out] at hrg6
          have hrun' : ∀ ty, (Builtin.delete_ #[63, 9] ty #[.map (some b3), .string (bs x')]).run Tryz.prog w7 = .ok (.tuple #[]) w6 := fun ty => hrun
          have HRG6 := Lib.hid hrg6; have HLE6 := Lib.hid hle6
          have GW6 := Lib.hid ((GW4.out.andThen (grown_of_kept K7.out) (fun j hj => by cases hj)).andThen htu.grown (fun j hj => .inr hj))
          clear hrun hrg6 hle6 htu
          go_wp2
          go_roundw
          case rel => exact ⟨_, cnt6, by have h := HRG6.out; simpa [Bool.and_assoc] using h, HG4, GW6.out⟩
          case measure => rw [HRG6.out.left_eq, HRG.out.left_eq]; have := HLT.out; have := HLE6.out; omega
        | true =>
          have hkx : keep x' = true := by rw [HKX.out]; rfl
          have HX := Lib.hid hkx; clear hkx
          go_wp2_with fail
          refine HH.out.mono ?_
          rintro e w7 ⟨rfl, k7⟩
          have K7 := Lib.hid (K5.out.trans k7 (fun _ _ h => h)); clear k7
          have hrg6 := HKEEP.out w7 K7.out
          rw [leftU_keep _ _ _ _ HX.out] at hrg6
          have HRG6 := Lib.hid hrg6; clear hrg6
          go_wp2
          go_roundw
          case rel => exact ⟨_, cnt4, HRG6.out, HG4, GW4.out.andThen (grown_of_kept K7.out) (fun j hj => by cases hj)⟩
          case measure => rw [HRG6.out.left_eq, HRG.out.left_eq]; have := HLT.out; omega

end Go.Proofs.YtlnincdmdegaoaaGreat
