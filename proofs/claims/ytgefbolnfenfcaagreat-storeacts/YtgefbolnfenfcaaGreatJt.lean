/-
  CONTRACTS of package journal: stored.
-/
import Derived.Test.YtgefbolnfenfcaaGreatJg
namespace Go.Proofs.YtgefbolnfenfcaaGreat
open Go.RowKit Go.Mk

theorem heap_lies {w : World} {g : Nat} {l : List UInt8} {t : TypeId} (h : w.heap[g]? = some (.cells (l.map bv).toArray t (0, 0))) : Lies w w.heap.size (some ⟨g, 0, none⟩) (l.map bv) := (rowB_heap h).lies

theorem lies_src {w : World} {B : Nat} {ao : Option Addr} {l : List UInt8} (h : Lies w B ao (l.map bv)) (hl : l ≠ []) : ∃ ad, ao = some ad ∧ ∀ j v, (l.map bv)[j]? = some v → w.cell? (ad.add j) = some v := by
  obtain ⟨b, off, e, _, hc⟩ := h (fun e => hl (List.map_eq_nil_iff.1 e))
  exact ⟨⟨b, off, none⟩, e, fun j v hv => by rw [Addr.add_lit]; exact hc j v hv⟩

theorem splice_bv (Z : List UInt8) (k : Nat) (b : List UInt8) : splice (Z.map bv) k (b.map bv) = (splice Z k b).map bv := by simp [splice]

theorem form_splice (a : Nat) (t : List UInt8) (h : 12 + t.length ≤ 64 * a) : splice (splice (List.replicate (64 * a) (0 : UInt8)) 0 (bigB 4 t.length)) 4 t = formL a t := by
  have h4 := bigB_length 4 t.length
  unfold splice formL
  generalize bigB 4 t.length = p at h4
  simp only [List.take_zero, List.nil_append, h4, Nat.zero_add, List.drop_replicate]
  rw [List.take_append_of_le_length (by omega), List.take_of_length_le (by omega), List.drop_append]
  simp only [h4, List.drop_replicate]
  rw [List.drop_eq_nil_of_le (by omega), List.nil_append, List.append_assoc]
  congr 3
  omega

section
variable {w : World} {D : Nat → Prop} {b n : Nat} {base : List UInt8} {ws : List Wt} {calls : Int}

set_option maxHeartbeats 1000000 in
set_option maxRecDepth 100000 in
theorem jstored_any (h : Dk w D b n base ws calls) (_h0 : areaN n ≠ 0) (ao : Option Addr) (len cap : Nat) (t : List UInt8) (hlen : len = t.length) (hL : Lies w w.heap.size ao (t.map bv)) (ht : 12 + t.length ≤ 64 * areaN n) :
    Calls Tryz.prog 57 #[.pointer (some ⟨b, 0, none⟩), .slice ao len cap] w fun e w' => ∃ g, e = .returned (.slice (some ⟨g, 0, none⟩) (64 * areaN n) (64 * areaN n)) ∧
      Lies w' w'.heap.size (some ⟨g, 0, none⟩) ((formL (areaN n) t).map bv) ∧ w.heap.size ≤ g ∧ Below w.heap.size w w' := by
  obtain ⟨h1, h2⟩ := h.n1
  have h3 : areaN n ≤ 32767 := by unfold areaN; omega
  obtain ⟨i0, hi, hz0, hz1, hz2⟩ := info_parts Tryz.infoByte
  have HN := Lib.hid (wr_new w (fun k => w.heap.size ≤ k) (fun _ h => h) 132)
  have HD := Lib.hid h; have HL := Lib.hid hL; clear h hL
  subst hlen
  go_enter Tryz.func57, Tryz.ntmps57
  go_wp2_with fail
  refine (HN.out.num (fun k h => by simp at h; omega) t.length (by simp)).mono ?_
  rintro e w1 ⟨rfl, hw1, b1⟩
  rw [WS.num_ok _ _ rfl (by omega)] at hw1
  have s1 := b1.size
  simp only [World.size_alloc] at s1
  have bb1 : Below w.heap.size w w1 := ⟨b1.os, b1.tape, b1.output, by omega, fun k hk => (b1.block k (by simp; omega) (by simp; omega)).trans (Below.heap_alloc _ _ _ hk)⟩
  simp only [List.nil_append] at hw1
  have hp4 := bigB_length 4 t.length
  have hF := form_splice (areaN n) t ht
  generalize bigB 4 t.length = p4 at hw1 hp4 hF
  have hd1 : Dk w1 D b n base ws calls := HD.out.kept (Kept.of_below bb1) (fun k hk h => by have := HD.out.lt k hk; omega)
  have HS := Lib.hid (dsize_any hd1); have HA := Lib.hid (jareas_any n w1 h1 h2)
  have H1 := Lib.hid hw1; have BB1 := Lib.hid bb1; have HFS := Lib.hid hF; clear hw1 b1 bb1 hd1 hF
  go_wp2_with fail
  refine HS.out.mono ?_
  rintro e w2 ⟨rfl, rfl⟩
  go_wp2_with fail
  refine HA.out.mono ?_
  rintro e w2 ⟨rfl, rfl⟩
  have hm : i0.bytes * (64 * areaN n) ≤ 281474976710656 := by rw [hz2]; omega
  have hm2 : wrap64 ((areaN n : Int) * 64) = ((64 * areaN n : Nat) : Int) := by unfold wrap64; omega
  have hm3 : (areaN n : Int) * 64 = ((64 * areaN n : Nat) : Int) := by omega
  have HM2 := Lib.hid hm2; have HM3 := Lib.hid hm3; clear hm2 hm3
  go_wp2_with (at_make; refine wpList_make_row _ rfl (.tmp 14) (.tmp 14) 34 rfl 5 i0 (.int .u8 0) Tryz.underlying34 hi hz0 hz1 rfl .i64 .i64 (64 * areaN n) ?e1 ?e2 hm (by omega) ?_)
  case e1 => show Value.int .i64 _ = _; first | exact congrArg _ HM2.out | exact congrArg _ HM3.out
  case e2 => show Value.int .i64 _ = _; first | exact congrArg _ HM2.out | exact congrArg _ HM3.out
  rw [made_noughts]
  have hZl : (List.replicate (64 * areaN n) (0 : UInt8)).length = 64 * areaN n := by simp
  generalize List.replicate (64 * areaN n) (0 : UInt8) = Z at HFS hZl ⊢
  have hb3 : Below w2.heap.size w2 (w2.alloc (.cells (Z.map bv).toArray 5)) := (Below.refl _ _).alloc (Nat.le_refl _) _
  have h3' := H1.out.kept hb3
  have hg3 : (w2.alloc (.cells (Z.map bv).toArray 5)).heap[w2.heap.size]? = some (.cells (Z.map bv).toArray 5 (0, 0)) := heap_alloc_new _ _
  have s3 : (w2.alloc (.cells (Z.map bv).toArray 5)).heap.size = w2.heap.size + 1 := World.size_alloc _ _
  generalize hW3 : w2.alloc (.cells (Z.map bv).toArray 5) = w3 at *
  clear hW3
  have H3 := Lib.hid h3'; have B3 := Lib.hid hb3; have HG3 := Lib.hid hg3; clear h3' hb3 hg3
  go_wp2_with fail
  refine (H3.out.bytes (by simp [hp4])).mono ?_
  rintro e w4 ⟨ao4, cap4, rfl, h4, b4⟩
  have s4 := b4.size
  have hl4 := owns_lies h4
  simp only [hp4] at hl4 ⊢
  have hg4 : w4.heap[w2.heap.size]? = some (.cells (Z.map bv).toArray 5 (0, 0)) := (b4.block _ (by omega)).trans HG3.out
  have hne4 : p4 ≠ [] := fun e => by rw [e] at hp4; simp at hp4
  have HSRC := Lib.hid (lies_src hl4 hne4); have B4 := Lib.hid b4; have HG4 := Lib.hid hg4; clear h4 b4 hl4 hg4 hne4
  have hc1 : (p4.map bv).length = Nat.min 4 (64 * areaN n) := by rw [List.length_map, hp4, show Nat.min 4 (64 * areaN n) = 4 from Nat.min_eq_left (by omega)]
  have hc2 : 0 + (p4.map bv).length ≤ (Z.map bv).length := by rw [List.length_map, List.length_map]; omega
  have HC1 := Lib.hid hc1; have HC2 := Lib.hid hc2; clear hc1 hc2
  go_wp2_with (refine wpList_copy_kept rfl (.tmp 16) (.tmp 17) 34 34 rfl 5 Tryz.underlying34 Tryz.sizeByte (some ⟨w2.heap.size, 0, none⟩) ao4 (64 * areaN n) (64 * areaN n) 4 cap4 rfl rfl w2.heap.size 0 (Z.map bv) 5 HG4.out (p4.map bv) HC1.out (fun _ => ⟨rfl, HSRC.out⟩) HC2.out (bv_one p4) ?next)
  case next =>
    intro w5 hg5 k5
    rw [splice_bv] at hg5
    have s5 := k5.out.size
    have bb5 : Below w.heap.size w w5 := (BB1.out.trans ((B3.out.mono (by omega)).trans (B4.out.mono (by omega)))).trans (k5.out.below (by omega) (fun k h => by omega))
    have hgw : w.heap.size ≤ w2.heap.size := by omega
    have hl5 : Lies w5 w5.heap.size ao (t.map bv) := Lies.lt' (HL.out.below bb5)
    have hsl : (splice Z 0 p4).length = 64 * areaN n := by rw [length_splice _ _ _ (by omega), hZl]
    generalize splice Z 0 p4 = Z5 at hg5 HFS hsl
    generalize w2.heap.size = g at *
    have BB5 := Lib.hid bb5; have HL5 := Lib.hid hl5; clear bb5 hl5 k5
    clear HN s1 HS HA H1 BB1 hm HM2 HM3 s3 H3 B3 HG3 s4 HSRC B4 HG4 HC1 HC2 s5 hi hz0 hz1 hz2
    have hc1 : (t.map bv).length = Nat.min t.length (64 * areaN n - 4) := by rw [List.length_map]; exact (Nat.min_eq_left (by omega)).symm
    have hc2 : 4 + (t.map bv).length ≤ (Z5.map bv).length := by rw [List.length_map, List.length_map]; omega
    have hne : ¬ 64 * areaN n = 4 := by omega
    have HC1 := Lib.hid hc1; have HC2 := Lib.hid hc2; clear hc1 hc2
    have hsrc : 0 < (t.map bv).length → (some (⟨g, 4, none⟩ : Addr)) = some ⟨g, 4, none⟩ ∧ ∃ ad, ao = some ad ∧ ∀ j v, (t.map bv)[j]? = some v → w5.cell? (ad.add j) = some v := fun hp => ⟨rfl, lies_src HL5.out (fun e => by rw [e] at hp; simp at hp)⟩
    have HSRC := Lib.hid hsrc; clear hsrc
    go_wp2_with (refine wpList_copy_kept rfl (.tmp 21) (.tmp 22) 34 34 rfl 5 Tryz.underlying34 Tryz.sizeByte (some ⟨g, 4, none⟩) ao (64 * areaN n - 4) (64 * areaN n - 4) t.length cap rfl rfl g 4 (Z5.map bv) 5 hg5.out (t.map bv) HC1.out HSRC.out HC2.out (bv_one t) ?next)
    case next =>
      intro w6 hg6 k6
      rw [splice_bv, HFS.out] at hg6
      have s6 := k6.out.size
      have hs5 := BB5.out.size
      go_wp2
      go_ret
      exact ⟨g, rfl, heap_lies hg6.out, hgw, BB5.out.trans (k6.out.below hs5 (fun k h => by omega))⟩

end

end Go.Proofs.YtgefbolnfenfcaaGreat
