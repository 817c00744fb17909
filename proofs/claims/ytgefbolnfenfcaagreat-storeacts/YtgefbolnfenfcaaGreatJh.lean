/-
  CONTRACTS of package journal: header.
-/
import Derived.Test.YtgefbolnfenfcaaGreatJf
namespace Go.Proofs.YtgefbolnfenfcaaGreat
open Go.RowKit Go.Mk

/-- A new Writer. -/
theorem wr_new (w : World) (F : Nat → Prop) (hF : ∀ k, w.heap.size ≤ k → F k) (e : TypeId) : WrF (w.alloc (.cells #[.slice none 0 0, .int .i64 0] e)) F w.heap.size ⟨[], 0⟩ :=
  ⟨hF _ (Nat.le_refl _), none, 0, ⟨by simp, by simp, by simp, by simp, World.ownsRow_nil _ _ _ _, by simp [Value.ownBlock]⟩, by simp [Value.ownBlock]⟩

/-- What a header is made of, behind so many bytes of the checksum. -/
def preJ (m u j : Nat) : List UInt8 := bigB 4 1297043028 ++ bigB 4 m ++ leB j u ++ List.replicate (52 - j) 0
theorem preJ_zero (m u : Nat) : preJ m u 0 = bigB 4 1297043028 ++ bigB 4 m ++ List.replicate 52 0 := by simp [preJ, leB]
theorem preJ_four (m u : Nat) : preJ m u 4 = preL m u := by simp only [preJ, preL, leB_four]
theorem leB_succ (j u : Nat) : leB (j + 1) u = leB j u ++ [UInt8.ofNat (u / 256 ^ j)] := by simp [leB, List.range_succ]
theorem leB_length (j u : Nat) : (leB j u).length = j := by simp [leB]
theorem preJ_length (m u j : Nat) (h : j ≤ 52) : (preJ m u j).length = 60 := by simp [preJ, bigB_length, leB_length]; omega
theorem preJ_at (m u j : Nat) (hj : j < 52) (i : Nat) : (preJ m u (j + 1))[i]? = if i = 8 + j then some (UInt8.ofNat (u / 256 ^ j)) else (preJ m u j)[i]? := by
  have e : 52 - j = (52 - (j + 1)) + 1 := by omega
  have e1 : preJ m u j = (bigB 4 1297043028 ++ bigB 4 m ++ leB j u) ++ (0 :: List.replicate (52 - (j + 1)) 0) := by rw [preJ, e, List.replicate_succ]
  have e2 : preJ m u (j + 1) = (bigB 4 1297043028 ++ bigB 4 m ++ leB j u) ++ (UInt8.ofNat (u / 256 ^ j) :: List.replicate (52 - (j + 1)) 0) := by rw [preJ, leB_succ]; simp
  have e3 : (bigB 4 1297043028 ++ bigB 4 m ++ leB j u).length = 8 + j := by simp [bigB_length, leB_length]; omega
  rw [e1, e2]
  generalize bigB 4 1297043028 ++ bigB 4 m ++ leB j u = p at e3 ⊢
  by_cases hi : i = 8 + j
  · rw [if_pos hi, List.getElem?_append_right (by omega), show i - p.length = 0 by omega]; rfl
  · rw [if_neg hi]
    by_cases hlt : i < 8 + j
    · rw [List.getElem?_append_left (by omega), List.getElem?_append_left (by omega)]
    · rw [List.getElem?_append_right (by omega), List.getElem?_append_right (by omega)]
      obtain ⟨q, hq⟩ : ∃ q, i - p.length = q + 1 := ⟨i - p.length - 1, by omega⟩
      rw [hq]; rfl

/-- A row of bytes in block g, byte for byte. -/
structure RowB (w : World) (g : Nat) (l : List UInt8) : Prop where
  c : ∀ (i : Nat) (x : UInt8), l[i]? = some x → w.cell? ⟨g, i, none⟩ = some (.int .u8 x.toNat)
  f : ∀ i, w.frozen? ⟨g, i, none⟩ = false
theorem RowB.lies {w : World} {g : Nat} {l : List UInt8} (h : RowB w g l) : Lies w w.heap.size (some ⟨g, 0, none⟩) (l.map bv) := by
  intro hn
  have h0 : 0 < l.length := List.length_pos_iff.2 (fun e => hn (by rw [e]; rfl))
  refine ⟨g, 0, rfl, World.block_lt_of_cell? _ _ (h.c 0 l[0] (List.getElem?_eq_getElem h0)), fun j u hu => ?_⟩
  rw [List.getElem?_map] at hu
  obtain ⟨x, hx, rfl⟩ := Option.map_eq_some_iff.1 hu
  rw [Nat.zero_add]
  exact h.c j x hx
theorem rowB_heap {w : World} {g : Nat} {l : List UInt8} {t : TypeId} (h : w.heap[g]? = some (.cells (l.map bv).toArray t (0, 0))) : RowB w g l := by
  refine ⟨fun i x hx => ?_, fun i => ?_⟩
  · rw [cell_of_row _ _ _ _ _ _ h]
    simp [hx, bv]
  · simp [World.frozen?, h]

theorem RowB.set {w : World} {g : Nat} {l l' : List UInt8} (h : RowB w g l) (i : Nat) (x y : UInt8) (hy : l[i]? = some y) (hl : ∀ k, l'[k]? = if k = i then some x else l[k]?) : RowB (w.setCell ⟨g, i, none⟩ (bv x)) g l' := by
  refine ⟨fun k z hz => ?_, fun k => by rw [World.frozen?_setCell]; exact h.f k⟩
  rw [hl k] at hz
  by_cases hk : k = i
  · subst hk
    rw [if_pos rfl] at hz
    cases hz
    exact World.cell?_setCell_same _ _ _ (h.c k y hy)
  · rw [if_neg hk] at hz
    rw [World.cell?_setCell_other _ _ _ _ (by simp)]
    exact h.c k z hz

theorem little_byte (u q : Nat) : Value.int .u8 ((u : Int) / 2 ^ (8 * q) % 256) = bv (UInt8.ofNat (u / 256 ^ q)) := by
  have e2 : (2 : Nat) ^ (8 * q) = 256 ^ q := by rw [Nat.pow_mul]
  have e3 : ((2 : Int) ^ (8 * q)) = ((256 ^ q : Nat) : Int) := by rw [← e2]; norm_cast
  rw [e3]
  simp only [bv, UInt8.toNat_ofNat']
  congr 1

set_option maxHeartbeats 1000000 in
set_option maxRecDepth 100000 in
theorem jheader_any (m u : Nat) (w : World) (hm : m ≤ 2147483647) (_hu : u < 4294967296) :
    Calls Tryz.prog 62 #[.int .i64 m, .int .u32 u] w fun e w' => ∃ ao' cap', e = .returned (.slice ao' 64 cap') ∧ w'.ownsRow w.heap.size 5 1 (.slice ao' 64 cap') 64 ((headL m u).map bv) ∧ Below w.heap.size w w' := by
  obtain ⟨i0, hi, hz0, hz1, hz2⟩ := info_parts Tryz.infoByte
  have HN := Lib.hid (wr_new w (fun k => w.heap.size ≤ k) (fun _ h => h) 132)
  go_enter Tryz.func62, Tryz.ntmps62
  go_wp2_with fail
  refine (HN.out.num (fun k h => by simp at h; omega) 1297043028 (by simp)).mono ?_
  rintro e w1 ⟨rfl, h1, b1⟩
  rw [show (1297043028 : Int) = ((1297043028 : Nat) : Int) from rfl, WS.num_ok _ _ rfl (by omega)] at h1
  have s1 := b1.size
  simp only [World.size_alloc] at s1
  have H1 := Lib.hid h1; have B1 := Lib.hid b1; clear h1 b1
  go_wp2_with fail
  refine (H1.out.num (fun k h => by omega) m (by simp [bigB_length])).mono ?_
  rintro e w2 ⟨rfl, h2, b2⟩
  rw [WS.num_ok _ _ rfl hm] at h2
  have s2 := b2.size
  have h8 : ([] ++ bigB 4 1297043028 ++ bigB 4 m).length = 8 := by simp [bigB_length]
  have hp0 : splice (List.replicate 60 (0 : UInt8)) 0 ([] ++ bigB 4 1297043028 ++ bigB 4 m) = preJ m u 0 := by
    unfold splice; rw [h8, preJ_zero]; simp
  simp only at h2
  generalize [] ++ bigB 4 1297043028 ++ bigB 4 m = p8 at h2 h8 hp0
  have H2 := Lib.hid h2; have B2 := Lib.hid b2; have HP0 := Lib.hid hp0; clear h2 b2 hp0
  have hm : i0.bytes * 60 ≤ 281474976710656 := by rw [hz2]; omega
  go_wp2_with (at_make; refine wpList_make_row _ rfl (.const (.int .i64 60)) (.const (.int .i64 60)) 34 rfl 5 i0 (.int .u8 0) Tryz.underlying34 hi hz0 hz1 rfl .i64 .i64 60 rfl rfl hm (by omega) ?_)
  rw [made_noughts]
  have hZl : (List.replicate 60 (0 : UInt8)).length = 60 := by simp
  generalize List.replicate 60 (0 : UInt8) = Z at HP0 hZl ⊢
  have hb3 : Below w2.heap.size w2 (w2.alloc (.cells (Z.map bv).toArray 5)) := (Below.refl _ _).alloc (Nat.le_refl _) _
  have h3 := H2.out.kept hb3
  have hg3 : (w2.alloc (.cells (Z.map bv).toArray 5)).heap[w2.heap.size]? = some (.cells (Z.map bv).toArray 5 (0, 0)) := heap_alloc_new _ _
  have s3 : (w2.alloc (.cells (Z.map bv).toArray 5)).heap.size = w2.heap.size + 1 := World.size_alloc _ _
  generalize hW3 : w2.alloc (.cells (Z.map bv).toArray 5) = w3 at *
  clear hW3
  have H3 := Lib.hid h3; have B3 := Lib.hid hb3; have HG3 := Lib.hid hg3; clear h3 hb3 hg3
  go_wp2_with fail
  refine (H3.out.bytes (by simp [h8])).mono ?_
  rintro e w4 ⟨ao4, cap4, rfl, h4, b4⟩
  have s4 := b4.size
  have hl4 := owns_lies h4
  simp only [h8] at hl4 ⊢
  have hg4 : w4.heap[w2.heap.size]? = some (.cells (Z.map bv).toArray 5 (0, 0)) := (b4.block _ (by omega)).trans HG3.out
  have HL4 := Lib.hid hl4; have B4 := Lib.hid b4; have HG4 := Lib.hid hg4; clear h4 b4 hl4 hg4
  have hp8 : p8.map bv ≠ [] := fun e => by have := congrArg List.length e; simp [h8] at this
  have hsrc : ∃ ad, ao4 = some ad ∧ ∀ j v, (p8.map bv)[j]? = some v → w4.cell? (ad.add j) = some v := by
    obtain ⟨b, off, e, _, hc⟩ := HL4.out hp8
    exact ⟨⟨b, off, none⟩, e, fun j v hv => by rw [Addr.add_lit]; exact hc j v hv⟩
  have HSRC := Lib.hid hsrc; clear hsrc
  have hc1 : (p8.map bv).length = Nat.min 8 60 := by simp [h8]
  have hc2 : 0 + (p8.map bv).length ≤ (Z.map bv).length := by simp [h8, hZl]
  have HC1 := Lib.hid hc1; have HC2 := Lib.hid hc2; clear hc1 hc2 hp8
  go_wp2_with (refine wpList_copy_kept rfl (.tmp 12) (.tmp 13) 34 34 rfl 5 Tryz.underlying34 Tryz.sizeByte (some ⟨w2.heap.size, 0, none⟩) ao4 60 60 8 cap4 rfl rfl w2.heap.size 0 (Z.map bv) 5 HG4.out (p8.map bv) HC1.out (fun _ => ⟨rfl, HSRC.out⟩) HC2.out (bv_one p8) ?next)
  case next =>
    intro w5 hg5 k5
    have hr5 : RowB w5 w2.heap.size (preJ m u 0) := by
      refine rowB_heap (t := 5) ?_
      rw [hg5.out, ← HP0.out]
      unfold splice
      simp
    have s5 := k5.out.size
    have bb1 : Below w.heap.size w w1 := ⟨B1.out.os, B1.out.tape, B1.out.output, by omega, fun k hk => (B1.out.block k (by simp; omega) (by simp; omega)).trans (Below.heap_alloc _ _ _ hk)⟩
    have bb2 : Below w.heap.size w w2 := bb1.trans (B2.out.below (by omega) (fun k h => h))
    have bb5 : Below w.heap.size w w5 := (bb2.trans ((B3.out.mono (by omega)).trans (B4.out.mono (by omega)))).trans (k5.out.below (by omega) (fun k h => by omega))
    have HR5 := Lib.hid hr5; have BB5 := Lib.hid bb5; clear hr5 bb5 bb1 bb2 hg5 k5
    have hgw : w.heap.size ≤ w2.heap.size := by omega
    generalize w2.heap.size = g at *
    clear s1 s2 s3 s4 s5 HN B1 H1 H2 B2 HP0 H3 B3 HG3 HL4 B4 HG4 HSRC HC1 HC2
    go_wp2
    go_loopg [15] 4 (fun q c wr => ∃ j : Nat, q = 4 - j ∧ j ≤ 4 ∧ c = .int .i64 (j : Int) ∧ Hid (RowB wr g (preJ m u j)) ∧ Hid (Below w.heap.size w wr))
    case atStart => exact ⟨0, rfl, by omega, rfl, HR5, BB5⟩
    case round =>
      obtain ⟨j, hq, hj, rfl, hr, hb⟩ := hrel
      have HQ := Lib.hid hq; clear hq
      by_cases hlt : j < 4
      · have hlen := preJ_length m u j (by omega)
        have hcell := hr.out.c (8 + j) ((preJ m u j)[8 + j]'(by omega)) (List.getElem?_eq_getElem _)
        generalize ((preJ m u j)[8 + j]'(by omega)) = old at hcell
        have hfz := hr.out.f (8 + j)
        have hold : (preJ m u j)[8 + j]? = some ((preJ m u j)[8 + j]'(by omega)) := List.getElem?_eq_getElem _
        have HOLD := Lib.hid hold; clear hold
        go_wp2
        rw [little_byte]
        go_roundg (4 - (j + 1))
        case measure => have := HQ.out; omega
        case rel => exact ⟨j + 1, rfl, by omega, by go_num, Lib.hid (hr.out.set (8 + j) _ _ HOLD.out (preJ_at m u j (by omega))), Lib.hid (hb.out.setCell (p := ⟨g, 8 + j, none⟩) hgw _)⟩
      · obtain rfl : j = 4 := by omega
        rw [preJ_four] at hr
        have hl60 := preL_length m u
        have hse := cseal_any (some ⟨g, 0, none⟩) 60 (preL m u) wr.heap.size wr hr.out.lies (by omega)
        rw [hl60] at hse
        have HSE := Lib.hid hse; clear hse
        go_wp2_with fail
        refine HSE.out.mono ?_
        rintro e w6 ⟨ao6, cap6, rfl, ho6, b6⟩
        have HO6 := Lib.hid ho6; have B6 := Lib.hid b6; clear ho6 b6
        go_wp2
        go_ret
        exact ⟨ao6, cap6, rfl, owns_base HO6.out (fun k hk => by have := (owns_lt HO6.out k hk).1; have := hb.out.size; omega), hb.out.trans (B6.out.mono hb.out.size)⟩

end Go.Proofs.YtgefbolnfenfcaaGreat
