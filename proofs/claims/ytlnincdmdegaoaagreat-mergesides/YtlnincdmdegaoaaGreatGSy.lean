/-
  Lemmas towards the claim of this folder: contracts of the functions that the law reaches; joined texts.
-/
import Derived.Test.YtlnincdmdegaoaaGreatGSq
import Derived.Test.YtlnincdmdegaoaaGreatGDh
import Derived.Test.YtlnincdmdegaoaaGreatGSk
import Derived.Laws.IdiomRangeMap
import Derived.Test.YtlnincdmdegaoaaGreatRows
import Derived.Shelf.SlIter.Nil
import Derived.Shelf.SortM.Plain
import Derived.Shelf.SortM.SortNone
/-
  maps.EqualFunc of two tables of definitions; Same.
-/
namespace Go.Proofs.YtlnincdmdegaoaaGreat
open Go.RowKit Go.Mk Go.Maps

theorem TbO.look {w : World} {p : Option Nat} {m : List Ent} (h : TbO w p m) {e : Ent} (he : e ∈ m) (hk : (keyE e).length ≤ maxLen) : (Instr.lookup 57 (.map p) (.string (bs (keyE e))) true).run Tryz.prog w = .ok (.tuple #[valE e, .bool true]) w ∧
    (Instr.lookup 57 (.map p) (.string (bs (keyE e))) false).run Tryz.prog w = .ok (valE e) w := by
  rcases h with ⟨_, rfl⟩ | ⟨b, rfl, h⟩
  · simp at he
  · exact h.look he hk

theorem TbO.look_no {w : World} {p : Option Nat} {m : List Ent} (h : TbO w p m) {k : List UInt8} (hh : hasK keyE k m = false) (hk : k.length ≤ maxLen) : (Instr.lookup 57 (.map p) (.string (bs k)) true).run Tryz.prog w = .ok (.tuple #[valE (zeroD, none, 0), .bool false]) w := by
  rcases h with ⟨rfl, rfl⟩ | ⟨b, rfl, h⟩
  · exact Maps.look_nil true lawS Tryz.underlying57 (Tryz.zeroDef w) (keyS hk)
  · exact h.look_no hh hk

/-- The element that a range over a table hands out. -/
theorem Tb.entry {w : World} {b : Nat} {m : List Ent} (h : Tb w b m) {k : List UInt8} {v : Value} {yd : DataW Value} {yp : List MemPlace} (hv : RV v = some (yd, yp)) (hat : ∀ zd, (datM m).atKey (.string k) zd = yd) : ∃ e ∈ m, keyE e = k ∧ valE e = v := by
  have h1 := has_true_of_atKey hat
  rw [dat_has] at h1
  obtain ⟨e, he, hk⟩ := hasK_iff.1 h1
  refine ⟨e, he, hk, ?_⟩
  have h2 := hat .nil
  rw [← hk, dat_at h.rise he] at h2
  obtain ⟨_, h3⟩ := RV_inv hv
  have h4 := congrArg Prod.fst h3
  simp only at h4
  rw [h4] at h2
  injection h2

theorem val_parts {e : Ent} {q0 : Int} {q1 q2 : List UInt8} {q3 : Option Addr} {q4 q5 : Nat} {q6 q7 : List UInt8} (h : valE e = .agg #[.int .i64 q0, .string (bs q1), .string (bs q2), .slice q3 q4 q5, .string (bs q6), .string (bs q7)]) :
    q0 = e.1.k ∧ q1 = e.1.c ∧ q2 = e.1.p ∧ q3 = e.2.1 ∧ q4 = e.1.vs.length ∧ q5 = e.2.2 ∧ q6 = e.1.s ∧ q7 = e.1.t := by
  simp only [valE, Value.agg.injEq, Array.mk.injEq, List.cons.injEq, Value.int.injEq, Value.string.injEq, Value.slice.injEq, true_and, and_true] at h
  obtain ⟨h0, h1, h2, ⟨h3, h4, h5⟩, h6, h7⟩ := h
  exact ⟨h0.symm, (bs_inj h1).symm, (bs_inj h2).symm, h3.symm, h4.symm, h5.symm, (bs_inj h6).symm, (bs_inj h7).symm⟩

set_option maxHeartbeats 4000000 in
set_option maxRecDepth 100000 in
theorem mequal_some (b1 : Nat) (p2 : Option Nat) (m1 m2 : List Ent) (w : World) (h1 : Tb w b1 m1) (h2 : TbO w p2 m2) (hv1 : ∀ e ∈ m1, e.1.vs.length ≤ 1000000) (hv2 : ∀ e ∈ m2, e.1.vs.length ≤ 1000000) :
    Calls Tryz.prog 34 #[.map (some b1), .map p2, .func (.func 36) #[] #[]] w fun e w' => e = .returned (.bool (decide (dds m1 = dds m2))) ∧ Kept (fun _ => False) w w' := by
  have l1 := h1.len
  have l2 := h2.len
  have hso := h1.own
  have H1 := Lib.hid h1; have H2 := Lib.hid h2; have HV1 := Lib.hid hv1; have HV2 := Lib.hid hv2
  have hb1 := h1.lt
  clear h1 h2 hv1 hv2
  by_cases hsz : m1.length = m2.length
  · have hq : ((m1.length : Int) != (m2.length : Int)) = false := by simp [hsz]
    have HSZ := Lib.hid hsz; clear hsz
    go_enter Tryz.func34, Tryz.ntmps34
    go_wp2_with (first
      | (at_range; refine wpList_range_own _ rfl _ 57 rfl 9 43 lawS Tryz.underlying57 RV b1 m1.length _ rfl hso ?_; intro w0 hrg0 hg0 hs0)
      | go_in)
    go_frame
    go_loopw [18] (fun _ wr => ∃ (left : Lit → Bool) (cnt : Nat), wr.ranges Tryz.prog 9 RV b1 w.heap.size m1.length (datM m1) left cnt ∧ Hid (∀ e ∈ m1, left (.string (keyE e)) = false → e.1 ∈ dds m2) ∧ w.grownBy wr none)
      (fun _ wr => wr.rangeLeft b1 w.heap.size)
    case atStart => exact ⟨_, _, hrg0, Lib.hid (fun e he hl => by rw [dat_has, hasK_iff.2 ⟨e, he, rfl⟩] at hl; cases hl), hg0⟩
    case round =>
      obtain ⟨left, cnt, hrg, HG, hgw⟩ := hrel
      go_wp2_with (first
        | (at_next; refine wpList_next_ranges _ rfl _ rfl 9 lawS RV (fun k : List UInt8 => Value.string (bs k)) (fun c : Raw => Value.agg #[.int .i64 c.1, .string (bs c.2.1), .string (bs c.2.2.1), .slice c.2.2.2.1 c.2.2.2.2.1 c.2.2.2.2.2.1, .string (bs c.2.2.2.2.2.2.1), .string (bs c.2.2.2.2.2.2.2)]) (fun key kl h => by obtain ⟨k, h1, _⟩ := keyS_inv h; exact ⟨k, h1⟩) (fun v y h => (RV_inv h).1) b1 w.heap.size m1.length _ _ _ rfl hrg ?_ ?_)
        | go_in)
      · intro _ hl0
        go_wp2
        go_ret
        refine ⟨?_, (kept_of_grown hgw).mono (fun k _ e => by cases e)⟩
        have : dds m1 = dds m2 := rise_sub_eq ((map_rise (f := fun e : Ent => e.1) (ka := keyE) (kb := keyD) (fun _ => rfl)).2 H1.out.rise) ((map_rise (f := fun e : Ent => e.1) (ka := keyE) (kb := keyD) (fun _ => rfl)).2 H2.out.rise) (fun x hx => by
          obtain ⟨e, he, rfl⟩ := List.mem_map.1 hx
          exact HG.out e he (hl0 _)) (by rw [dds_len, dds_len]; exact HSZ.out)
        rw [decide_eq_true this]
        rfl
      · intro x q0 q1 q2 q3 q4 q5 q6 q7 kl yd yp w1 cnt1 hkey hlx hv hat hrg1 hlt hg1 hs1 hen
        obtain ⟨x', hx1, hx2, hxl⟩ := keyS_inv hkey
        have hxe : x' = x := by
          injection hx1 with hx1
          exact (bs_inj hx1).symm
        subst hxe
        subst hx2
        obtain ⟨e, he, hke, hve⟩ := H1.out.entry hv hat
        obtain ⟨r0, r1, r2, r3, r4, r5, r6, r7⟩ := val_parts hve
        subst r0 r1 r2 r3 r4 r5 r6 r7
        have hgw1 : w.grownBy w1 none := hgw.andThen hg1 (fun j hj => by cases hj; exact Or.inl (Nat.le_refl _))
        have K1 := Lib.hid ((kept_of_grown hgw1).mono (S' := fun _ => False) (fun k _ e => by cases e))
        have KA := Lib.hid ((Kept.refl (fun _ => False) w1).alloc (.cells #[.int .i64 e.1.k, .string (bs e.1.c), .string (bs e.1.p), .slice e.2.1 e.1.vs.length e.2.2, .string (bs e.1.s), .string (bs e.1.t)] 43))
        have BA := Lib.hid (bx_new w1 e.2.1 e.2.2 e.1 43)
        have HE := Lib.hid he; have HKE := Lib.hid hke; have HRG1 := Lib.hid hrg1; have HLT := Lib.hid hlt; have HRG := Lib.hid hrg; have HGW1 := Lib.hid hgw1
        have T2 := Lib.hid ((H2.out.keep K1.out).keep KA.out)
        have HXL := Lib.hid hxl
        clear hve hv hat he hke hkey hrg1 hlt hg1 hrg hgw hgw1 hlx hxl hx1
        cases hh : hasK keyE x' m2 with
        | false =>
          have hlk := T2.out.look_no hh HXL.out
          unfold valE at hlk
          have KB := Lib.hid ((K1.out.trans KA.out (fun _ _ h => h)).alloc (.cells #[.int .i64 zeroD.k, .string (bs zeroD.c), .string (bs zeroD.p), .slice none zeroD.vs.length 0, .string (bs zeroD.s), .string (bs zeroD.t)] 43))
          have HN := Lib.hid (show ¬ dds m1 = dds m2 from fun e0 => by
            have hm : e.1 ∈ dds m2 := by rw [← e0]; exact List.mem_map.2 ⟨e, HE.out, rfl⟩
            obtain ⟨f, hf, hfe⟩ := List.mem_map.1 hm
            exact hasK_no.1 hh f hf (by rw [← HKE.out]; show keyD f.1 = keyD e.1; rw [show f.1 = e.1 from hfe]))
          clear hh
          go_wp2
          go_ret
          exact ⟨by rw [decide_eq_false HN.out]; rfl, KB.out⟩
        | true =>
          obtain ⟨f, hf, hfk⟩ := hasK_iff.1 hh
          have hlk := (T2.out.look hf (by rw [hfk]; exact HXL.out)).1
          rw [hfk] at hlk
          unfold valE at hlk
          have KB := Lib.hid ((Kept.refl (fun _ => False) (w1.alloc (.cells #[.int .i64 e.1.k, .string (bs e.1.c), .string (bs e.1.p), .slice e.2.1 e.1.vs.length e.2.2, .string (bs e.1.s), .string (bs e.1.t)] 43))).alloc (.cells #[.int .i64 f.1.k, .string (bs f.1.c), .string (bs f.1.p), .slice f.2.1 f.1.vs.length f.2.2, .string (bs f.1.s), .string (bs f.1.t)] 43))
          have BB := Lib.hid (bx_new2 w1 e.2.1 f.2.1 e.2.2 f.2.2 e.1 f.1 43)
          have KC := Lib.hid (KA.out.trans KB.out (fun _ _ h => h))
          have KD := Lib.hid (K1.out.trans KC.out (fun _ _ h => h))
          have HSM := Lib.hid (dsame_any e.1 f.1 e.2.1 f.2.1 e.2.2 f.2.2 w.heap.size _ ((H1.out.lies e HE.out).1.kept KD.out (fun _ _ _ h => h)) ((H2.out.lies f hf).1.kept KD.out (fun _ _ _ h => h)) (by have := HV1.out e HE.out; omega) (by have := HV2.out f hf; omega))
          have HF := Lib.hid hf; have HFK := Lib.hid hfk
          clear hh hf hfk
          obtain ⟨⟨a0, a1, a2, a3, a4, a5⟩, ⟨d0, d1, d2, d3, d4, d5⟩⟩ := BB.out
          cases hsb : sameB e.1 f.1 with
          | false =>
            rw [hsb] at HSM
            have HN := Lib.hid (show ¬ dds m1 = dds m2 from fun e0 => by
              have hm : e.1 ∈ dds m2 := by rw [← e0]; exact List.mem_map.2 ⟨e, HE.out, rfl⟩
              obtain ⟨g, hg, hge⟩ := List.mem_map.1 hm
              have : g = f := rise_one H2.out.rise hg HF.out (by rw [HFK.out, ← HKE.out]; show keyD g.1 = keyD e.1; rw [show g.1 = e.1 from hge])
              rw [this] at hge
              have h := sameB_refl e.1
              rw [← show f.1 = e.1 from hge] at h hsb
              rw [h] at hsb
              cases hsb)
            clear hsb
            go_wp2_with fail
            refine HSM.out.mono ?_
            rintro e' w2 ⟨rfl, k2⟩
            have K2 := Lib.hid (KD.out.trans k2 (fun _ _ h => h)); clear k2
            go_wp2
            go_ret
            exact ⟨by rw [decide_eq_false HN.out]; rfl, K2.out⟩
          | true =>
            rw [hsb] at HSM
            have HM := Lib.hid (show e.1 ∈ dds m2 by rw [(sameB_iff _ _).1 hsb]; exact List.mem_map.2 ⟨f, HF.out, rfl⟩)
            clear hsb
            go_wp2_with fail
            refine HSM.out.mono ?_
            rintro e' w2 ⟨rfl, k2⟩
            have K2 := Lib.hid (KC.out.trans k2 (fun _ _ h => h)); clear k2
            have hrg2 := HRG1.out.kept (grown_of_kept K2.out) (by simp) (by simp)
            have HRG2 := Lib.hid hrg2; clear hrg2
            go_wp2
            go_roundw
            case rel => exact ⟨_, cnt1, HRG2.out, Lib.hid (fun y hy hl => by
              by_cases hyk : keyE y = x'
              · rw [rise_one H1.out.rise hy HE.out (hyk.trans HKE.out.symm)]; exact HM.out
              · refine HG.out y hy ?_
                simpa [same_str, hyk] using hl), HGW1.out.andThen (grown_of_kept K2.out) (fun j hj => by cases hj)⟩
            case measure => rw [HRG2.out.left_eq, HRG.out.left_eq]; exact HLT.out
  · have hq : ((m1.length : Int) != (m2.length : Int)) = true := by rw [bne_iff_ne]; omega
    have HN := Lib.hid (show ¬ dds m1 = dds m2 from fun e => hsz (by rw [← dds_len, e, dds_len]))
    clear hsz
    go_enter Tryz.func34, Tryz.ntmps34
    go_wp2
    all_goals go_ret
    all_goals exact ⟨by rw [decide_eq_false HN.out]; rfl, Kept.refl _ _⟩

set_option maxHeartbeats 2000000 in
set_option maxRecDepth 100000 in
theorem mequal_nil (p2 : Option Nat) (m2 : List Ent) (w : World) (h2 : TbO w p2 m2) :
    Calls Tryz.prog 34 #[.map none, .map p2, .func (.func 36) #[] #[]] w fun e w' => e = .returned (.bool (decide (dds [] = dds m2))) ∧ Kept (fun _ => False) w w' := by
  have l1 : ∀ ty, (Builtin.len_ #[57] ty #[.map none]).run Tryz.prog w = .ok (.int .i64 0) w := fun ty => Maps.len_nil Tryz.underlying57 ty
  have l2 := h2.len
  clear h2
  cases m2 with
  | nil =>
    have hrg := run_range_nilMap (P := Tryz.prog) w 57 _ _ Tryz.underlying57
    have hnx : ∀ ty, (Instr.next (.pointer (some ⟨w.heap.size, 0, none⟩)) false ty).run Tryz.prog (w.alloc (.mapIter none 0 #[] 0)) = _ := fun ty => run_next_nilMap _ ty 0 0 #[]
    have KA := Lib.hid ((Kept.refl (fun _ => False) w).alloc (.mapIter none 0 #[] 0))
    go_enter Tryz.func34, Tryz.ntmps34
    go_wp2
    refine wp_loop_rounds 1 ?_
    rw [rounds_succ]
    go_wp2
    go_ret
    exact ⟨by rw [decide_eq_true True.intro]; rfl, KA.out⟩
  | cons x m2 =>
    have hq : ((0 : Int) != ((x :: m2).length : Int)) = true := by rw [bne_iff_ne]; simp only [List.length_cons]; omega
    generalize hn : (x :: m2).length = n at *
    have HN := Lib.hid (show ¬ dds [] = dds (x :: m2) by simp [dds])
    clear hn
    go_enter Tryz.func34, Tryz.ntmps34
    go_wp2
    all_goals go_ret
    all_goals exact ⟨by rw [decide_eq_false HN.out]; rfl, Kept.refl _ _⟩

theorem right_vars {d : DD} (h : rightD d = true) : d.vs.length ≤ 20 := by
  rcases right_kind h with hk | hk
  · rw [rightD_one hk] at h
    simp [rightC, areVars] at h
    exact h.1.1.2.1
  · rw [rightD_two hk] at h
    simp [rightM] at h
    simp [h.2]

/-- Same. -/
def sameL (l m : List DD) : Bool := decide (l = m)

set_option maxHeartbeats 400000 in
theorem ssame_any {w : World} {v u : Value} {l m : List DD} (h : Sn w v l) (k : Sn w u m) : Calls Tryz.prog 15 #[v, u] w fun e w' => e = .returned (.bool (sameL l m)) ∧ Kept (fun _ => False) w w' := by
  obtain ⟨p1, m1, h1, h2, rfl⟩ := h
  obtain ⟨p2, m2, k1, k2, rfl⟩ := k
  have hv1 : ∀ e ∈ m1, e.1.vs.length ≤ 1000000 := fun e he => Nat.le_trans (right_vars (h2.right e he)) (by omega)
  have hv2 : ∀ e ∈ m2, e.1.vs.length ≤ 1000000 := fun e he => Nat.le_trans (right_vars (k2.right e he)) (by omega)
  have HE := Lib.hid (show Calls Tryz.prog 34 #[.map p1, .map p2, .func (.func 36) #[] #[]] w fun e w' => e = .returned (.bool (sameL (dds m1) (dds m2))) ∧ Kept (fun _ => False) w w' by
    rcases h2 with ⟨rfl, rfl⟩ | ⟨b, rfl, h2⟩
    · exact mequal_nil p2 m2 w k2
    · exact mequal_some b p2 m1 m2 w h2 k2 hv1 hv2)
  have T1 := Lib.hid (table_any h1); have T2 := Lib.hid (table_any k1)
  change Calls _ _ _ _ (fun e w' => e = .returned (.bool (sameL (dds m1) (dds m2))) ∧ Kept (fun _ => False) w w')
  generalize sameL (dds m1) (dds m2) = r at *
  clear h1 h2 k1 k2 hv1 hv2
  go_enter Tryz.func15, Tryz.ntmps15
  go_wp2_with fail
  refine T1.out.mono ?_; rintro e w1 ⟨rfl, rfl⟩
  go_wp2_with fail
  refine T2.out.mono ?_; rintro e w1 ⟨rfl, rfl⟩
  go_wp2_with fail
  refine HE.out.mono ?_; rintro e w1 ⟨rfl, k1⟩
  go_wp2
  go_ret
  exact ⟨rfl, k1⟩

end Go.Proofs.YtlnincdmdegaoaaGreat

/-
  The library's maps.Keys, slices.Sorted and slices.Sort, as this program bears them.
-/
namespace Go.Proofs.YtlnincdmdegaoaaGreat
open Go.RowKit Go.Maps Go.Sort Go.Shelf

def keysRen : Ren := ⟨fun | 7 => 47 | 10 => 63 | n => n,
  fun | 23 => 57 | 26 => 9 | 3 => 43 | 28 => 68 | 0 => 0 | 27 => 67 | 33 => 76 | 4 => 4 | n => n, fun n => n⟩

theorem keysLays : SlLaysZ.n7 Tryz.prog keysRen := {
  mixed := by kernel_rfl
  f7 := ⟨Tryz.f47.name, of_decide_eq_true (by kernel_rfl), Tryz.func47.trans (congrArg some (by kernel_rfl))⟩
  f10 := ⟨Tryz.f63.name, of_decide_eq_true (by kernel_rfl), Tryz.func63.trans (congrArg some (by kernel_rfl))⟩
  t0 := Tryz.underlying0
  a0 := Tryz.isAgg0
  z0 := Tryz.sizeOf0
  v0 := Tryz.zeroValue0
  t4 := Tryz.underlying4
  a4 := Tryz.isAgg4
  z4 := Tryz.sizeOf4
  v4 := Tryz.zeroValue4
  t23 := Tryz.underlying57
  a23 := Tryz.isAgg57
  z23 := Tryz.sizeOf57
  v23 := Tryz.zeroValue57
  t26 := Tryz.underlying9
  a26 := Tryz.isAgg9
  z26 := Tryz.sizeOf9
  v26 := Tryz.zeroValue9
  t27 := Tryz.underlying67
  a27 := Tryz.isAgg67
  z27 := Tryz.sizeOf67
  v27 := Tryz.zeroValue67
  t28 := Tryz.underlying68
  a28 := Tryz.isAgg68
  z28 := Tryz.sizeOf68
  v28 := Tryz.zeroValue68
  t33 := Tryz.underlying76
  a33 := Tryz.isAgg76
  z33 := Tryz.sizeOf76
  v33 := Tryz.zeroValue76
}

def sortedRen : Ren := ⟨fun | 6 => 32 | 8 => 50 | 9 => 51 | 11 => 64 | 13 => 66 | 12 => 65 | 23 => 87 | 24 => 88 | 14 => 78 | 15 => 79 | 16 => 80 | 17 => 81 | 18 => 82 | 19 => 83 | 20 => 84 | 21 => 85 | 22 => 86 | 25 => 98 | 26 => 99 | 27 => 100 | 28 => 101 | 29 => 102 | 30 => 103 | 31 => 113 | n => n,
  fun | 26 => 9 | 28 => 68 | 24 => 30 | 0 => 0 | 3 => 3 | 37 => 98 | 48 => 114 | 50 => 116 | 4 => 4 | 40 => 106 | 39 => 105 | 45 => 111 | 5 => 5 | 9 => 9 | 51 => 122 | 55 => 126 | 57 => 130 | 58 => 131 | 33 => 76 | n => n, fun n => n⟩

theorem sortedLays : SlLaysZ.n6 Tryz.prog sortedRen := {
  mixed := by kernel_rfl
  f6 := ⟨Tryz.f32.name, of_decide_eq_true (by kernel_rfl), Tryz.func32.trans (congrArg some (by kernel_rfl))⟩
  f8 := ⟨Tryz.f50.name, of_decide_eq_true (by kernel_rfl), Tryz.func50.trans (congrArg some (by kernel_rfl))⟩
  f11 := ⟨Tryz.f64.name, of_decide_eq_true (by kernel_rfl), Tryz.func64.trans (congrArg some (by kernel_rfl))⟩
  t0 := Tryz.underlying0
  a0 := Tryz.isAgg0
  z0 := Tryz.sizeOf0
  v0 := Tryz.zeroValue0
  t24 := Tryz.underlying30
  a24 := Tryz.isAgg30
  z24 := Tryz.sizeOf30
  v24 := Tryz.zeroValue30
  t26 := Tryz.underlying9
  a26 := Tryz.isAgg9
  z26 := Tryz.sizeOf9
  v26 := Tryz.zeroValue9
  t28 := Tryz.underlying68
  a28 := Tryz.isAgg68
  z28 := Tryz.sizeOf68
  v28 := Tryz.zeroValue68
  i26 := by kernel_rfl
}

def sortRen : Ren := ⟨fun | 6 => 51 | 8 => 66 | 9 => 65 | 19 => 87 | 20 => 88 | 21 => 78 | 22 => 79 | 23 => 80 | 24 => 81 | 25 => 82 | 26 => 83 | 27 => 84 | 28 => 85 | 29 => 86 | 36 => 98 | 31 => 99 | 32 => 100 | 37 => 101 | 38 => 102 | 39 => 103 | 41 => 113 | n => n,
  fun | 27 => 30 | 29 => 9 | 3 => 3 | 32 => 98 | 26 => 30 | 0 => 0 | 44 => 114 | 46 => 116 | 4 => 4 | 36 => 106 | 35 => 105 | 41 => 111 | 5 => 5 | 9 => 9 | 53 => 122 | 57 => 126 | 63 => 130 | 64 => 131 | n => n, fun n => n⟩

theorem sortLays : SlLaysM.n6 Tryz.prog sortRen := {
  mixed := by kernel_rfl
  f6 := ⟨Tryz.f51.name, of_decide_eq_true (by kernel_rfl), Tryz.func51.trans (congrArg some (by kernel_rfl))⟩
  f8 := Tryz.func66.trans (congrArg some (by kernel_rfl))
  f9 := ⟨Tryz.f65.name, of_decide_eq_true (by kernel_rfl), Tryz.func65.trans (congrArg some (by kernel_rfl))⟩
  f19 := Tryz.func87.trans (congrArg some (by kernel_rfl))
  f20 := Tryz.func88.trans (congrArg some (by kernel_rfl))
  f21 := ⟨Tryz.f78.name, of_decide_eq_true (by kernel_rfl), Tryz.func78.trans (congrArg some (by kernel_rfl))⟩
  f22 := ⟨Tryz.f79.name, of_decide_eq_true (by kernel_rfl), Tryz.func79.trans (congrArg some (by kernel_rfl))⟩
  f23 := ⟨Tryz.f80.name, of_decide_eq_true (by kernel_rfl), Tryz.func80.trans (congrArg some (by kernel_rfl))⟩
  f24 := ⟨Tryz.f81.name, of_decide_eq_true (by kernel_rfl), Tryz.func81.trans (congrArg some (by kernel_rfl))⟩
  f25 := ⟨Tryz.f82.name, of_decide_eq_true (by kernel_rfl), Tryz.func82.trans (congrArg some (by kernel_rfl))⟩
  f26 := ⟨Tryz.f83.name, of_decide_eq_true (by kernel_rfl), Tryz.func83.trans (congrArg some (by kernel_rfl))⟩
  f27 := ⟨Tryz.f84.name, of_decide_eq_true (by kernel_rfl), Tryz.func84.trans (congrArg some (by kernel_rfl))⟩
  f28 := ⟨Tryz.f85.name, of_decide_eq_true (by kernel_rfl), Tryz.func85.trans (congrArg some (by kernel_rfl))⟩
  f29 := ⟨Tryz.f86.name, of_decide_eq_true (by kernel_rfl), Tryz.func86.trans (congrArg some (by kernel_rfl))⟩
  f31 := Tryz.func99.trans (congrArg some (by kernel_rfl))
  f32 := Tryz.func100.trans (congrArg some (by kernel_rfl))
  f36 := ⟨Tryz.f98.name, of_decide_eq_true (by kernel_rfl), Tryz.func98.trans (congrArg some (by kernel_rfl))⟩
  f37 := ⟨Tryz.f101.name, of_decide_eq_true (by kernel_rfl), Tryz.func101.trans (congrArg some (by kernel_rfl))⟩
  f38 := ⟨Tryz.f102.name, of_decide_eq_true (by kernel_rfl), Tryz.func102.trans (congrArg some (by kernel_rfl))⟩
  f39 := ⟨Tryz.f103.name, of_decide_eq_true (by kernel_rfl), Tryz.func103.trans (congrArg some (by kernel_rfl))⟩
  f41 := ⟨Tryz.f113.name, of_decide_eq_true (by kernel_rfl), Tryz.func113.trans (congrArg some (by kernel_rfl))⟩
  t0 := Tryz.underlying0
  a0 := Tryz.isAgg0
  z0 := Tryz.sizeOf0
  v0 := Tryz.zeroValue0
  t3 := Tryz.underlying3
  a3 := Tryz.isAgg3
  z3 := Tryz.sizeOf3
  v3 := Tryz.zeroValue3
  t4 := Tryz.underlying4
  a4 := Tryz.isAgg4
  z4 := Tryz.sizeOf4
  v4 := Tryz.zeroValue4
  t5 := Tryz.underlying5
  a5 := Tryz.isAgg5
  z5 := Tryz.sizeOf5
  v5 := Tryz.zeroValue5
  t9 := Tryz.underlying9
  a9 := Tryz.isAgg9
  z9 := Tryz.sizeOf9
  v9 := Tryz.zeroValue9
  t26 := Tryz.underlying30
  a26 := Tryz.isAgg30
  z26 := Tryz.sizeOf30
  v26 := Tryz.zeroValue30
  t27 := Tryz.underlying30
  a27 := Tryz.isAgg30
  z27 := Tryz.sizeOf30
  v27 := Tryz.zeroValue30
  t29 := Tryz.underlying9
  a29 := Tryz.isAgg9
  z29 := Tryz.sizeOf9
  v29 := Tryz.zeroValue9
  t32 := Tryz.underlying98
  a32 := Tryz.isAgg98
  z32 := Tryz.sizeOf98
  v32 := Tryz.zeroValue98
  t35 := Tryz.underlying105
  a35 := Tryz.isAgg105
  z35 := Tryz.sizeOf105
  v35 := Tryz.zeroValue105
  t36 := Tryz.underlying106
  a36 := Tryz.isAgg106
  z36 := Tryz.sizeOf106
  v36 := Tryz.zeroValue106
  t41 := Tryz.underlying111
  a41 := Tryz.isAgg111
  z41 := Tryz.sizeOf111
  v41 := Tryz.zeroValue111
  t44 := Tryz.underlying114
  a44 := Tryz.isAgg114
  z44 := Tryz.sizeOf114
  v44 := Tryz.zeroValue114
  t46 := Tryz.underlying116
  a46 := Tryz.isAgg116
  z46 := Tryz.sizeOf116
  v46 := Tryz.zeroValue116
  t53 := Tryz.underlying122
  a53 := Tryz.isAgg122
  z53 := Tryz.sizeOf122
  v53 := Tryz.zeroValue122
  t57 := Tryz.underlying126
  a57 := Tryz.isAgg126
  z57 := Tryz.sizeOf126
  v57 := Tryz.zeroValue126
  t63 := Tryz.underlying130
  a63 := Tryz.isAgg130
  z63 := Tryz.sizeOf130
  v63 := Tryz.zeroValue130
  t64 := Tryz.underlying131
  a64 := Tryz.isAgg131
  z64 := Tryz.sizeOf131
  v64 := Tryz.zeroValue131
}

/-- slices.Sort's two contracts, at the fence that asks nothing. -/
theorem sortsIn (m : Nat) : AnyZ.SortsIn Tryz.prog sortedRen Fence.wide m :=
  ⟨fun blk off cap ss W hH hblk hsz => callsIn_wide.2 (AnyM.slices_Sort_string sortLays blk off cap ss W hH hblk hsz),
   fun p cap W => callsIn_wide.2 (AnyM.slices_Sort_string_none sortLays p cap W)⟩

end Go.Proofs.YtlnincdmdegaoaaGreat
