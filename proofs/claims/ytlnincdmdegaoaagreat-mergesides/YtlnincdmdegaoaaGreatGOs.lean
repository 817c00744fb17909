/-
  Lemmas towards the claim of this folder: contracts of the functions that the law reaches; joined texts.
-/
import Derived.Test.YtlnincdmdegaoaaGreatGEe
import Derived.Test.YtlnincdmdegaoaaGreatGR9a
import Derived.Test.YtlnincdmdegaoaaGreatGSk
import Derived.Test.YtlnincdmdegaoaaGreatGNc
import Derived.Shelf.Strings.Cut
import Derived.Shelf.Vars
import Derived.Test.YtlnincdmdegaoaaGreatGDh
import Derived.Test.YtlnincdmdegaoaaGreatGDl
/-
  CONTRACTS of package diff: same (slices.EqualFunc with def.Same), under, isSide.
-/
namespace Go.Proofs.YtlnincdmdegaoaaGreat
open Go.RowKit Go.Mk Go.Maps

set_option maxHeartbeats 1000000 in
set_option maxRecDepth 100000 in
theorem dequal_any (la : Option Addr) (lc : Nat) (a : List Ent) (lb : Option Addr) (ld : Nat) (b : List Ent) (B : Nat) (w : World) (hA : Ds w B la a) (hB : Ds w B lb b) (ha : ∀ e ∈ a, e.1.vs.length ≤ 1000000) (hb : ∀ e ∈ b, e.1.vs.length ≤ 1000000) (hn : a.length ≤ 1000000) :
    Calls Tryz.prog 77 #[.slice la a.length lc, .slice lb b.length ld, .func (.func 36) #[] #[]] w fun e w' => e = .returned (.bool (sameA a b)) ∧ Kept (fun _ => False) w w' := by
  have HA := Lib.hid hA; have HB := Lib.hid hB; have HLA := Lib.hid ha; have HLB := Lib.hid hb
  clear hA hB ha hb
  by_cases hl : a.length = b.length
  · have HL := Lib.hid hl
    have h1 : (b.length : Int) = (a.length : Int) := by omega
    clear hl
    go_enter Tryz.func77, Tryz.ntmps77
    go_wp2
    go_loopg [17] a.length (fun k c wr => ∃ j, k = a.length - j ∧ j ≤ a.length ∧ c = .int .i64 (j : Int) ∧ (dds a).take j = (dds b).take j ∧ Kept (fun _ => False) w wr)
    case atStart => exact ⟨0, rfl, Nat.zero_le _, rfl, rfl, Kept.refl _ _⟩
    case round =>
      obtain ⟨j, hk, hj, rfl, htk, hw⟩ := hrel
      have HK := Lib.hid hk; have HTK := Lib.hid htk; have HW := Lib.hid hw
      clear hk htk hw
      by_cases hlt : j < a.length
      · have hlt2 : j < b.length := by have := HL.out; omega
        obtain ⟨xa, xo, rfl, hxa, hca⟩ := HA.out.row (by intro h; rw [h] at hlt; simp at hlt)
        obtain ⟨ya, yo, rfl, hya, hcb⟩ := HB.out.row (by intro h; rw [h] at hlt2; simp at hlt2)
        have HBA := Lib.hid ((hca j hlt).kept HW.out (fun h => h))
        have HBB := Lib.hid ((hcb j hlt2).kept HW.out (fun h => h))
        have HNE := Lib.hid (fun h => same_ne (a := a) (b := b) hlt hlt2 h)
        have HTA := Lib.hid (fun h => same_take (a := a) (b := b) hlt hlt2 HTK.out h)
        have HSA := Lib.hid (fun (wx : World) (h : Kept (fun _ => False) wr wx) => dsame_any a[j].1 b[j].1 a[j].2.1 b[j].2.1 a[j].2.2 b[j].2.2 B wx (((HA.out.lies _ (List.getElem_mem hlt)).1.kept HW.out (fun _ _ _ h => h)).kept h (fun _ _ _ h => h)) (((HB.out.lies _ (List.getElem_mem hlt2)).1.kept HW.out (fun _ _ _ h => h)).kept h (fun _ _ _ h => h)) (by have := HLA.out _ (List.getElem_mem hlt); omega) (by have := HLB.out _ (List.getElem_mem hlt2); omega))
        have i1 : (j : Int) < (a.length : Int) := by omega
        clear hca hcb
        generalize a[j] = x at *
        generalize b[j] = y at *
        obtain ⟨d, ao, cap⟩ := x
        obtain ⟨d', ao', cap'⟩ := y
        dsimp only at HBA HBB HNE HTA HSA
        have KA := Lib.hid ((Kept.refl (fun _ => False) wr).alloc (.cells #[.int .i64 d.k, .string (bs d.c), .string (bs d.p), .slice ao d.vs.length cap, .string (bs d.s), .string (bs d.t)] 43))
        have KB := Lib.hid (KA.out.alloc (.cells #[.int .i64 d'.k, .string (bs d'.c), .string (bs d'.p), .slice ao' d'.vs.length cap', .string (bs d'.s), .string (bs d'.t)] 43))
        have BB := Lib.hid (bx_new2 wr ao ao' cap cap' d d' 43)
        obtain ⟨c0, c1, c2, c3, c4, c5⟩ := HBA.out
        obtain ⟨d0, d1, d2, d3, d4, d5⟩ := HBB.out.kept KA.out (fun h => h)
        obtain ⟨⟨a0, a1, a2, a3, a4, a5⟩, ⟨b0, b1, b2, b3, b4, b5⟩⟩ := BB.out
        cases hs : sameB d d' with
        | true =>
          have HE := Lib.hid (HTA.out ((sameB_iff _ _).1 hs))
          rw [hs] at HSA
          clear hs
          go_wp2_with fail
          refine (HSA.out _ KB.out).mono ?_; rintro e w1 ⟨rfl, k1⟩
          have K1 := Lib.hid ((HW.out.trans KB.out (fun _ _ h => h)).trans k1 (fun _ _ h => h)); clear k1
          go_wp2
          go_roundg (a.length - (j + 1))
          case measure => have := HK.out; omega
          case rel => exact ⟨j + 1, rfl, by omega, by go_num, HE.out, K1.out⟩
        | false =>
          have HE := Lib.hid (HNE.out (fun h => by rw [h, sameB_refl] at hs; cases hs))
          rw [hs] at HSA
          clear hs
          go_wp2_with fail
          refine (HSA.out _ KB.out).mono ?_; rintro e w1 ⟨rfl, k1⟩
          have K1 := Lib.hid ((HW.out.trans KB.out (fun _ _ h => h)).trans k1 (fun _ _ h => h)); clear k1
          go_wp2
          go_ret
          exact ⟨by rw [HE.out]; rfl, K1.out⟩
      · obtain rfl : j = a.length := by omega
        have HE := Lib.hid (show sameA a b = true from by
          have h := HTK.out
          rw [← dds_len a, List.take_length, dds_len a, HL.out, ← dds_len b, List.take_length] at h
          exact decide_eq_true h)
        clear hlt
        go_wp2
        go_ret
        exact ⟨by rw [HE.out]; rfl, HW.out⟩
  · have HE := Lib.hid (show sameA a b = false from decide_eq_false (fun h => hl (by rw [← dds_len a, ← dds_len b, h])))
    have h1 : ¬ (a.length : Int) = (b.length : Int) := by omega
    clear hl
    go_enter Tryz.func77, Tryz.ntmps77
    go_wp2
    go_ret
    exact ⟨by rw [HE.out]; rfl, Kept.refl _ _⟩

set_option maxHeartbeats 400000 in
theorem dsame9_any (la : Option Addr) (lc : Nat) (a : List Ent) (lb : Option Addr) (ld : Nat) (b : List Ent) (B : Nat) (w : World) (hA : Ds w B la a) (hB : Ds w B lb b) (ha : ∀ e ∈ a, e.1.vs.length ≤ 1000000) (hb : ∀ e ∈ b, e.1.vs.length ≤ 1000000) (hn : a.length ≤ 1000000) :
    Calls Tryz.prog 62 #[.slice la a.length lc, .slice lb b.length ld] w fun e w' => e = .returned (.bool (sameA a b)) ∧ Kept (fun _ => False) w w' := by
  have H := Lib.hid (dequal_any la lc a lb ld b B w hA hB ha hb hn)
  clear hA hB ha hb hn
  generalize sameA a b = r at *
  go_enter Tryz.func62, Tryz.ntmps62
  go_wp2_with fail
  refine H.out.mono ?_; rintro e w1 ⟨rfl, k1⟩
  go_wp2
  go_ret
  exact ⟨rfl, k1⟩

end Go.Proofs.YtlnincdmdegaoaaGreat

/-
  CONTRACTS of strings.Cut at a text that is not too great (the library's own, at this program) and of strings.Compare.
-/
namespace Go.Proofs.YtlnincdmdegaoaaGreat
open Go.RowKit Go.Mk

/-- The variable MaxLen of internal/bytealg holds some int. -/
def MaxAt (w : World) : Prop := ∃ m, w.cell? ⟨0, 0, none⟩ = some (.int .i64 m)

theorem MaxAt.kept {w w' : World} (h : MaxAt w) (hk : Kept (fun _ => False) w w') : MaxAt w' :=
  let ⟨m, hm⟩ := h; ⟨m, (hk.cell (World.block_lt_of_cell? _ _ hm) (fun h => h)).trans hm⟩

theorem MaxAt.shaped {w : World} (h : w.ShapedOpen Tryz.prog) : MaxAt w :=
  Go.Proofs.cell_of_shapedOpen_int (zero := #[.int .i64 0]) (t := 3) h (of_decide_eq_true (by kernel_rfl)) (by kernel_rfl) rfl (by kernel_rfl) (by kernel_rfl) Tryz.underlying3

end Go.Proofs.YtlnincdmdegaoaaGreat

/-
  CONTRACTS of package def: Split.
-/
namespace Go.Proofs.YtlnincdmdegaoaaGreat
open Go.RowKit Go.Mk

theorem cut_len (l : List UInt8) : (Lib.cut l [62, 62]).1.length ≤ l.length ∧ (Lib.cut l [62, 62]).2.1.length ≤ l.length := by
  unfold Lib.cut
  split
  · simp only [List.length_take, List.length_drop]; omega
  · simp

end Go.Proofs.YtlnincdmdegaoaaGreat

/-
  CONTRACTS of package diff: isEdit, Right.
-/
namespace Go.Proofs.YtlnincdmdegaoaaGreat
open Go.RowKit Go.Mk Go.Maps

end Go.Proofs.YtlnincdmdegaoaaGreat
