/-
  CONTRACTS of package crc: Seal, Open.
-/
import Derived.Test.YtgefbolnfenfcaaGreatCr
import Derived.Deep.RegionWith
namespace Go.Proofs.YtgefbolnfenfcaaGreat
open Go.RowKit Go.Mk

theorem Lies.lt' {w : World} {B : Nat} {ao : Option Addr} {vs : List Value} (h : Lies w B ao vs) : Lies w w.heap.size ao vs := by
  intro hn
  obtain ⟨b, off, e, _, hc⟩ := h hn
  refine ⟨b, off, e, ?_, hc⟩
  have h0 : 0 < vs.length := List.length_pos_iff.2 hn
  exact World.block_lt_of_cell? _ _ (hc 0 vs[0] (List.getElem?_eq_getElem h0))

/-- The new row of one part. -/
theorem lies_part (w : World) (v : Value) (t : TypeId) : Lies (w.alloc (.cells #[v] t)) (w.heap.size + 1) (some ⟨w.heap.size, 0, none⟩) [v] :=
  fun _ => ⟨w.heap.size, 0, rfl, by omega, fun j u hu => by have := cell_one_new w v t j u hu; rwa [Addr.add_lit] at this⟩

theorem csum_one (ao : Option Addr) (cap : Nat) (l : List UInt8) (w : World) (t : TypeId) (hL : Lies w w.heap.size ao (l.map bv)) (hl : l.length ≤ 1099511627776) :
    Calls Tryz.prog 58 #[.slice (some ⟨w.heap.size, 0, none⟩) 1 1] (w.alloc (.cells #[.slice ao l.length cap] t)) fun e w' => e = .returned (.int .u32 (sumN l)) ∧ w.alloc (.cells #[.slice ao l.length cap] t) = w' := by
  have h := csum_any (some ⟨w.heap.size, 0, none⟩) 1 [(ao, cap, l)] (w.heap.size + 1) (w.alloc (.cells #[.slice ao l.length cap] t)) (lies_part w _ t)
    (fun p hp => by
      simp at hp; subst hp
      exact (hL.kept (S := fun _ => False) ((Kept.refl _ w).alloc _) (fun _ _ _ h => h)).mono (by omega)) (by simp) (fun p hp => by simp at hp; subst hp; exact hl)
  simpa [allB] using h

set_option maxHeartbeats 400000 in
theorem cseal_any (ao : Option Addr) (cap : Nat) (l : List UInt8) (B : Nat) (w : World) (hL : Lies w B ao (l.map bv)) (hl : l.length ≤ 1073741824) :
    Calls Tryz.prog 30 #[.slice ao l.length cap] w fun e w' => ∃ ao' cap', e = .returned (.slice ao' (l.length + 4) cap') ∧ w'.ownsRow w.heap.size 5 1 (.slice ao' (l.length + 4) cap') (l.length + 4) ((sealL l).map bv) ∧ Below w.heap.size w w' := by
  obtain ⟨i0, hi, hz0, hz1, hz2⟩ := info_parts Tryz.infoByte
  have HL := Lib.hid (Lies.lt' hL); clear hL
  go_enter Tryz.func30, Tryz.ntmps30
  go_wp2_with (at_make; refine wpList_make_own _ rfl (.const (.int .i64 0)) (.tmp 6) 34 rfl 0 5 i0 (.int .u8 0) 1 Tryz.underlying34 hi hz0 hz1 _ _ _ (l.length + 4) rfl rfl ?c ?b1 ?b2 ?b3 ?next)
  case c => omega
  case b1 => rw [hz2]; omega
  case b2 => unfold maxLen; omega
  case b3 => omega
  case next =>
    intro w1 ho1 hg1
    have b1 : Below w.heap.size w w1 := (Below.refl _ _).grown hg1 (by simp) (fun k h => by cases h)
    have hz := b1.size
    have HO1 := Lib.hid ho1; have B1 := Lib.hid b1; have HG1 := Lib.hid hg1; clear ho1 b1 hg1
    go_wp2_with (at_builtin; refine wpList_app _ rfl (.tmp 8) (.tmp 9) 34 34 rfl 5 i0 (.int .u8 0) 1 1 Tryz.underlying34 hi hz0 hz1 hz2 rfl (.slice (some ⟨w.heap.size, 0, none⟩) 0 (l.length + 4)) 0 [] rfl HO1.out (.slice ao l.length cap) l.length (l.map bv) rfl ?src ?b1 ?b2 ?next)
    case src => exact src_lies Tryz.underlying34 (HL.out.below B1.out) cap (bv_one l) l.length (by simp)
    case b1 => unfold maxLen; omega
    case b2 => omega
    case next =>
      intro v2 w2 ho2 hg2 hr2 _
      try simp only [Nat.zero_add, List.nil_append] at ho2
      have b2 : Below w.heap.size w w2 := B1.out.grown hg2 (by omega) (fun k h => by cases h; exact Nat.le_refl _)
      have hz2' := b2.size
      have hrow : ∀ k, v2.ownBlock = some k → w.heap.size ≤ k := by
        intro k hk
        rcases hr2 with h | h
        · rw [h] at hk; cases hk; exact Nat.le_refl _
        · rw [h] at hk; cases hk; exact hz
      have hc := csum_one ao cap l w2 34 (Lies.lt' (HL.out.below b2)) (by omega)
      have HC := Lib.hid hc; have HO2 := Lib.hid ho2; have B2 := Lib.hid b2; have HR := Lib.hid hrow; clear hc ho2 b2 hrow hr2 hg2
      go_wp2_with fail
      refine HC.out.mono ?_
      rintro e w3 ⟨rfl, rfl⟩
      go_wp2_with fail
      refine (cappend_any v2 l.length (l.map bv) (sumN l) _ (HO2.out.alloc _) (by omega)).mono ?_
      rintro e w4 ⟨v4, rfl, ho4, hg4, hr4⟩
      obtain ⟨ao4, cap4, rfl⟩ := owns_slice ho4
      have ho5 : w4.ownsRow w.heap.size 5 1 (.slice ao4 (l.length + 4) cap4) (l.length + 4) ((sealL l).map bv) := by
        rw [leB_four] at ho4
        rw [sealL, List.map_append]
        refine owns_base ho4 fun k hk => ?_
        rcases hr4 with h | ⟨b, h, hb⟩
        · rw [h] at hk; exact HR.out k hk
        · rw [h] at hk; cases hk; simp at hb; omega
      have b5 : Below w.heap.size w w4 := (B2.out.alloc hz2' _).grown hg4 (by simp; omega) (fun k h => HR.out k h)
      have HO5 := Lib.hid ho5; have B5 := Lib.hid b5; clear ho5 b5 ho4 hg4 hr4
      go_wp2
      go_ret
      exact ⟨ao4, cap4, rfl, HO5.out, B5.out⟩

/-- What Open answers: its bytes, and its error. -/
def openB (l : List UInt8) : List UInt8 × Int := if l.length < 4 then ([], 10) else if leN (l.drop (l.length - 4)) = sumN (l.take (l.length - 4)) then (l.take (l.length - 4), 0) else ([], 12)

set_option maxHeartbeats 400000 in
theorem copen_any (ao : Option Addr) (cap : Nat) (l : List UInt8) (B : Nat) (w : World) (hL : Lies w B ao (l.map bv)) (hl : l.length ≤ 1073741824) (hc : l.length ≤ cap) :
    Calls Tryz.prog 41 #[.slice ao l.length cap] w fun e w' => ∃ ao' cap', e = .returned (.tuple #[.slice ao' (openB l).1.length cap', .int .i64 (openB l).2]) ∧ w'.ownsRow w.heap.size 5 1 (.slice ao' (openB l).1.length cap') (openB l).1.length ((openB l).1.map bv) ∧ Below w.heap.size w w' := by
  have HL := Lib.hid (Lies.lt' hL); clear hL
  by_cases h4 : l.length < 4
  · have e : openB l = ([], 10) := by rw [openB, if_pos h4]
    rw [e]
    clear e
    go_enter Tryz.func41, Tryz.ntmps41
    go_wp2
    go_ret2
    exact ⟨none, 0, rfl, World.ownsRow_nil _ _ _ _, Below.refl _ _⟩
  · have e : openB l = if leN (l.drop (l.length - 4)) = sumN (l.take (l.length - 4)) then (l.take (l.length - 4), 0) else ([], 12) := by rw [openB, if_neg h4]
    obtain ⟨k, hk⟩ : ∃ k, l.length = k + 4 := ⟨l.length - 4, by omega⟩
    rw [show l.length - 4 = k by omega] at e
    have E := Lib.hid e; clear e
    rw [hk] at hc ⊢
    go_enter Tryz.func41, Tryz.ntmps41
    go_wp2_with fail
    have hc1 : (k : Int) + 4 ≤ (cap : Int) := by omega
    have hc2 : (k : Int) ≤ (cap : Int) := by omega
    have hne : ¬ cap = k := by omega
    have hld := HL.out.drop k
    have hlt := HL.out.take k
    rw [← List.map_drop] at hld
    rw [← List.map_take] at hlt
    have HLD := Lib.hid hld; have HLT := Lib.hid hlt; clear hld hlt
    have hdl : (l.drop k).length = 4 := by rw [List.length_drop]; omega
    have HDL := Lib.hid hdl; clear hdl
    have hd1 : Lies w.drew w.heap.size (ao.map (·.add k)) ((l.drop k).map bv) := HLD.out.kept (S := fun _ => False) (Kept.drew (Kept.refl _ w)) (fun _ _ _ h => h)
    have hd2 : ∀ o, Lies (w.alloc o).drew w.heap.size (ao.map (·.add k)) ((l.drop k).map bv) := fun o => HLD.out.kept (S := fun _ => False) (Kept.drew (Kept.alloc (Kept.refl _ w) o)) (fun _ _ _ h => h)
    have HD1 := Lib.hid hd1; have HD2 := Lib.hid hd2; clear hd1 hd2
    have htl : (l.take k).length = k := by rw [List.length_take]; omega
    have hsu := csum_one ao cap (l.take k) w.drew 34 (by exact HLT.out) (by rw [htl]; omega)
    rw [htl] at hsu
    have HTL := Lib.hid htl; have HSU := Lib.hid hsu; clear hsu htl
    go_region_with (first
      | (go_at_call 86; refine (clittle_any (ao.map (·.add k)) (cap - k) (l.drop k) w.heap.size _ ?_ HDL.out).mono ?_; (first | exact HD1.out | exact HD2.out _); rintro e w1 ⟨rfl, rfl⟩)
      | (go_at_call 58; refine HSU.out.mono ?_; rintro e w1 ⟨rfl, rfl⟩))
    all_goals
      have hz : w.heap.size ≤ (w.alloc (.cells #[.slice ao k cap] 34)).drew.heap.size := by simp
      by_cases heq : leN (l.drop k) = sumN (l.take k)
      · have e : openB l = (l.take k, 0) := by rw [E.out, if_pos heq]
        have ht : ((leN (l.drop k) : Int) != (sumN (l.take k) : Int)) = false := by simp [heq]
        have hcl := clone_any ao cap (l.take k) w.heap.size (w.alloc (.cells #[.slice ao k cap] 34)).drew (HLT.out.kept (S := fun _ => False) (Kept.drew (Kept.alloc (Kept.refl _ w) _)) (fun _ _ _ h => h)) (by rw [HTL.out]; omega)
        rw [HTL.out] at hcl
        have EE := Lib.hid e; have HCL := Lib.hid hcl; clear e heq hcl
        go_wp2_with fail
        refine HCL.out.mono ?_
        rintro e w1 ⟨ao1, cap1, rfl, ho1, b1⟩
        have HO1 := Lib.hid (owns_base (base' := w.heap.size) ho1 (fun q hq => by have := (owns_lt ho1 q hq).1; simp at this; omega))
        have B1 := Lib.hid (((Below.refl w.heap.size w).alloc (Nat.le_refl _) (.cells #[.slice ao k cap] 34)).trans ((Mk.Below.of_drew b1).mono (by simp)))
        clear ho1 b1
        go_wp2
        go_ret2
        rw [EE.out]
        simp only [HTL.out]
        exact ⟨ao1, cap1, rfl, HO1.out, B1.out⟩
      · have e : openB l = ([], 12) := by rw [E.out, if_neg heq]
        have ht : ((leN (l.drop k) : Int) != (sumN (l.take k) : Int)) = true := by simp; omega
        have EE := Lib.hid e; clear e heq
        go_wp2
        go_ret2
        rw [EE.out]
        exact ⟨none, 0, rfl, World.ownsRow_nil _ _ _ _, (Kept.drew (Kept.alloc (Kept.refl (fun _ => False) w) _)).below (Nat.le_refl _) (fun _ h => h.elim)⟩

end Go.Proofs.YtgefbolnfenfcaaGreat
