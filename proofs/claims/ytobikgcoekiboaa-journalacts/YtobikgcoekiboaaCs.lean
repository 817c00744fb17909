/-
  CONTRACTS of package crc: Seal, Open.
-/
import Derived.Test.YtobikgcoekiboaaCr
import Derived.Deep.RegionWith
namespace Go.Proofs.Ytobikgcoekiboaa
open Go.RowKit Go.Mk

theorem Lies.lt' {w : World} {B : Nat} {ao : Option Addr} {vs : List Value} (h : Lies w B ao vs) : Lies w w.heap.size ao vs := by
  intro hn
  obtain ⟨b, off, e, _, hc⟩ := h hn
  refine ⟨b, off, e, ?_, hc⟩
  have h0 : 0 < vs.length := List.length_pos_iff.2 hn
  exact World.block_lt_of_cell? _ _ (hc 0 vs[0] (List.getElem?_eq_getElem h0))

/-- The new row of one part. -/
theorem lies_part (w : World) (v : Value) (t : TypeId) : Lies (w.alloc (.cells #[v] t)) (w.heap.size + 1) (some ⟨w.heap.size, 0, none⟩) [v] :=
  fun _ => ⟨w.heap.size, 0, rfl, by omega, fun j u hu => by have := cell_one_new w v t j u hu; rwa [Addr.add_lit] at this⟩

theorem csum_one (ao : Option Addr) (cap : Nat) (l : List UInt8) (w : World) (t : TypeId) (hL : Lies w w.heap.size ao (l.map bv)) (hl : l.length ≤ 1099511627776) :
    Calls Try.prog 36 #[.slice (some ⟨w.heap.size, 0, none⟩) 1 1] (w.alloc (.cells #[.slice ao l.length cap] t)) fun e w' => e = .returned (.int .u32 (sumN l)) ∧ w.alloc (.cells #[.slice ao l.length cap] t) = w' := by
  have h := csum_any (some ⟨w.heap.size, 0, none⟩) 1 [(ao, cap, l)] (w.heap.size + 1) (w.alloc (.cells #[.slice ao l.length cap] t)) (lies_part w _ t)
    (fun p hp => by
      simp at hp; subst hp
      exact (hL.kept (S := fun _ => False) ((Kept.refl _ w).alloc _) (fun _ _ _ h => h)).mono (by omega)) (by simp) (fun p hp => by simp at hp; subst hp; exact hl)
  simpa [allB] using h

set_option maxHeartbeats 400000 in
theorem cseal_any (ao : Option Addr) (cap : Nat) (l : List UInt8) (B : Nat) (w : World) (hL : Lies w B ao (l.map bv)) (hl : l.length ≤ 1073741824) :
    Calls Try.prog 71 #[.slice ao l.length cap] w fun e w' => ∃ ao' cap', e = .returned (.slice ao' (l.length + 4) cap') ∧ w'.ownsRow w.heap.size 5 1 (.slice ao' (l.length + 4) cap') (l.length + 4) ((sealL l).map bv) ∧ Below w.heap.size w w' := by
  obtain ⟨i0, hi, hz0, hz1, hz2⟩ := info_parts Try.infoByte
  have HL := Lib.hid (Lies.lt' hL); clear hL
  go_enter Try.func71, Try.ntmps71
  go_wp2_with (at_make; refine wpList_make_own _ rfl (.const (.int .i64 0)) (.tmp 6) 35 rfl 0 5 i0 (.int .u8 0) 1 Try.underlying35 hi hz0 hz1 _ _ _ (l.length + 4) rfl rfl ?c ?b1 ?b2 ?b3 ?next)
  case c => omega
  case b1 => rw [hz2]; omega
  case b2 => unfold maxLen; omega
  case b3 => omega
  case next =>
    intro w1 ho1 hg1
    have b1 : Below w.heap.size w w1 := (Below.refl _ _).grown hg1 (by simp) (fun k h => by cases h)
    have hz := b1.size
    have HO1 := Lib.hid ho1; have B1 := Lib.hid b1; have HG1 := Lib.hid hg1; clear ho1 b1 hg1
    go_wp2_with (at_builtin; refine wpList_app _ rfl (.tmp 8) (.tmp 9) 35 35 rfl 5 i0 (.int .u8 0) 1 1 Try.underlying35 hi hz0 hz1 hz2 rfl (.slice (some ⟨w.heap.size, 0, none⟩) 0 (l.length + 4)) 0 [] rfl HO1.out (.slice ao l.length cap) l.length (l.map bv) rfl ?src ?b1 ?b2 ?next)
    case src => exact src_lies Try.underlying35 (HL.out.below B1.out) cap (bv_one l) l.length (by simp)
    case b1 => unfold maxLen; omega
    case b2 => omega
    case next =>
      intro v2 w2 ho2 hg2 hr2 _
      try simp only [Nat.zero_add, List.nil_append] at ho2
      have b2 : Below w.heap.size w w2 := B1.out.grown hg2 (by omega) (fun k h => by cases h; exact Nat.le_refl _)
      have hz2' := b2.size
      have hrow : ∀ k, v2.ownBlock = some k → w.heap.size ≤ k := by
        intro k hk
        rcases hr2 with h | h
        · rw [h] at hk; cases hk; exact Nat.le_refl _
        · rw [h] at hk; cases hk; exact hz
      have hc := csum_one ao cap l w2 35 (Lies.lt' (HL.out.below b2)) (by omega)
      have HC := Lib.hid hc; have HO2 := Lib.hid ho2; have B2 := Lib.hid b2; have HR := Lib.hid hrow; clear hc ho2 b2 hrow hr2 hg2
      go_wp2_with fail
      refine HC.out.mono ?_
      rintro e w3 ⟨rfl, rfl⟩
      go_wp2_with fail
      refine (cappend_any v2 l.length (l.map bv) (sumN l) _ (HO2.out.alloc _) (by omega)).mono ?_
      rintro e w4 ⟨v4, rfl, ho4, hg4, hr4⟩
      obtain ⟨ao4, cap4, rfl⟩ := owns_slice ho4
      have ho5 : w4.ownsRow w.heap.size 5 1 (.slice ao4 (l.length + 4) cap4) (l.length + 4) ((sealL l).map bv) := by
        rw [leB_four] at ho4
        rw [sealL, List.map_append]
        refine owns_base ho4 fun k hk => ?_
        rcases hr4 with h | ⟨b, h, hb⟩
        · rw [h] at hk; exact HR.out k hk
        · rw [h] at hk; cases hk; simp at hb; omega
      have b5 : Below w.heap.size w w4 := (B2.out.alloc hz2' _).grown hg4 (by simp; omega) (fun k h => HR.out k h)
      have HO5 := Lib.hid ho5; have B5 := Lib.hid b5; clear ho5 b5 ho4 hg4 hr4
      go_wp2
      go_ret
      exact ⟨ao4, cap4, rfl, HO5.out, B5.out⟩

/-- What Open answers: its bytes, and its error. -/
def openB (l : List UInt8) : List UInt8 × Int := if l.length < 4 then ([], 10) else if leN (l.drop (l.length - 4)) = sumN (l.take (l.length - 4)) then (l.take (l.length - 4), 0) else ([], 12)

end Go.Proofs.Ytobikgcoekiboaa
