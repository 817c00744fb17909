/-
  CONTRACTS of strings.Builder (one that the call made itself): WriteString, String.
-/
import Derived.Test.YtofpnlmlenffnaaDoorGWr
import Derived.Test.YtofpnlmlenffnaaDoorGPz9
import Derived.Lib.Builder
import Derived.Lib.UnsafeStr
namespace Go.Proofs.YtofpnlmlenffnaaDoor
open Go.RowKit Go.Mk

/-- A builder in block b that holds these bytes; its row lies above it. -/
def Bd (w : World) (b : Nat) (l : List UInt8) : Prop :=
  ∃ p v, w.heap[b]? = some (.cells #[p, v] 61 (0, 0)) ∧ (p = .pointer none ∨ p = .pointer (some ⟨b, 0, none⟩)) ∧ w.ownsRow (b + 1) 5 1 v l.length (l.map bv) ∧ (l = [] → v = .slice none 0 0)

theorem Bd.lt {w : World} {b : Nat} {l : List UInt8} (h : Bd w b l) : b < w.heap.size := by
  obtain ⟨p, v, hb, _⟩ := h
  exact (Array.getElem?_eq_some_iff.1 hb).1

theorem bd_new (w : World) : Bd (w.alloc (.cells #[.pointer none, .slice none 0 0] 61)) w.heap.size [] :=
  ⟨_, _, heap_alloc_new w _, .inl rfl, World.ownsRow_nil _ _ _ _, fun _ => rfl⟩

theorem Tryd.sizeBuilder : (Tryd.prog.info? 61).map (·.size) = some 2 := by kernel_rfl
theorem Tryd.liesBuilder : liesAt Tryd.prog Tryd.prog.depth 61 (2 / Tryd.prog.cellsOf 61) 0 61 1 = true := by kernel_rfl
theorem ext_noescape (x : Value) (w : World) : (callFunc 76 #[x]).run Tryd.prog w = .ok (.value x) w := by
  rw [run_callFunc_extern Tryd.func76 (by kernel_rfl) (by kernel_rfl) (by kernel_rfl) (e := Extern.AbiNoEscape.same) (by kernel_rfl), Lib.run_noEscape]
  rfl

set_option maxHeartbeats 1000000 in
set_option maxRecDepth 100000 in
theorem bcheck_any (b : Nat) (p v : Value) (w : World) (hb : w.heap[b]? = some (.cells #[p, v] 61 (0, 0))) (hp : p = .pointer none ∨ p = .pointer (some ⟨b, 0, none⟩)) :
    Calls Tryd.prog 61 #[.pointer (some ⟨b, 0, none⟩)] w fun e w' => e = .returned (.tuple #[]) ∧ w'.heap[b]? = some (.cells #[.pointer (some ⟨b, 0, none⟩), v] 61 (0, 0)) ∧ Kept (fun k => k = b) w w' := by
  obtain ⟨j, hj, hjs⟩ := Option.map_eq_some_iff.1 Tryd.sizeBuilder
  have c0 : w.cell? ⟨b, 0, none⟩ = some p := by rw [Lib.cell_of_heap hb]; rfl
  have f0 : w.frozen? ⟨b, 0, none⟩ = false := Lib.frozen_of_heap hb 0
  have hsh : w.shape? b = some (61, 2) := by unfold World.shape?; rw [hb]; rfl
  have HB := Lib.hid hb; clear hb
  have hx := ext_noescape (.pointer (some ⟨b, 0, none⟩))
  rcases hp with rfl | rfl
  · have ht := Lib.run_to_unsafe (P := Tryd.prog) w ⟨b, 0, none⟩ Tryd.underlying59 Tryd.underlying75 hj (by rw [hjs]; decide) hsh (Nat.zero_lt_succ 1)
    have hfr := Lib.run_from_unsafe (P := Tryd.prog) w ⟨b, 0, none⟩ Tryd.underlying75 Tryd.underlying59 hj hsh Tryd.liesBuilder
    go_enter Tryd.func61, Tryd.ntmps61
    go_wp2
    go_end0
    refine ⟨rfl, ?_, Kept.setCell (S := fun k => k = b) (p := ⟨b, 0, none⟩) (Kept.refl _ w) (fun _ => rfl) _⟩
    have := HB.out
    simp [World.setCell, Array.getElem?_modify, this]
  · go_enter Tryd.func61, Tryd.ntmps61
    go_wp2
    rw [Lib.run_neq_ptr_same w _ Tryd.underlying59 hj]
    go_wp2
    go_end0
    exact ⟨rfl, HB.out, Kept.refl _ _⟩

/-- append(nil, ""...). -/
theorem app_nil (w : World) (ty : TypeId) : (Builtin.append_ #[45, 9] ty #[.slice none 0 0, .string (bs [])]).run Tryd.prog w = .ok (.slice none 0 0) w := by
  obtain ⟨i0, hi, hz0, hz1, hz2⟩ := info_parts Tryd.infoByte
  have hs := Src.ofString (P := Tryd.prog) w Tryd.underlying9 (bs [])
  rcases hs.kind with ⟨e', hk⟩ | hk <;> simp [Builtin.append_, run_underlying Tryd.underlying45, run_underlying hk, sizeOf, typeInfo, hi, hs.len] <;> rfl

set_option maxHeartbeats 1000000 in
set_option maxRecDepth 100000 in
theorem bwrite_any (b : Nat) (l m : List UInt8) (w : World) (h : Bd w b l) (hl : l.length + m.length ≤ 1099511627776) :
    Calls Tryd.prog 47 #[.pointer (some ⟨b, 0, none⟩), .string (bs m)] w fun e w' => e = .returned (.tuple #[.int .i64 (m.length : Int), .nilIface]) ∧ Bd w' b (l ++ m) ∧ Kept (fun k => b ≤ k) w w' := by
  obtain ⟨i0, hi, hz0, hz1, hz2⟩ := info_parts Tryd.infoByte
  obtain ⟨p, v, hb, hp, ho, hn⟩ := h
  have HC := Lib.hid (bcheck_any b p v w hb hp)
  have hlt : b < w.heap.size := (Array.getElem?_eq_some_iff.1 hb).1
  have HO := Lib.hid ho; have HN := Lib.hid hn; clear hb hp ho hn
  have hs : (bs m).size = m.length := bs_size m
  go_enter Tryd.func47, Tryd.ntmps47
  go_wp2_with fail
  refine HC.out.mono ?_
  rintro e w1 ⟨rfl, hb1, k1⟩
  have HK1 := Lib.hid k1; have HB1 := Lib.hid hb1
  have ho1 := owns_kept HO.out k1 (fun k hk e => by have := (owns_lt HO.out k hk).1; omega)
  have HO1 := Lib.hid ho1; clear ho1
  have c1 : w1.cell? ⟨b, 1, none⟩ = some v := by rw [Lib.cell_of_heap hb1]; rfl
  have f1 : w1.frozen? ⟨b, 1, none⟩ = false := Lib.frozen_of_heap hb1 1
  clear k1 hb1
  by_cases hlm : l = [] ∧ m = []
  · obtain ⟨rfl, rfl⟩ := hlm
    obtain rfl := HN.out rfl
    have hap := app_nil
    go_wp2
    go_ret2
    refine ⟨rfl, ⟨.pointer (some ⟨b, 0, none⟩), .slice none 0 0, ?_, .inr rfl, World.ownsRow_nil _ _ _ _, fun _ => rfl⟩, Kept.setCell (S := fun k => b ≤ k) (p := ⟨b, 1, none⟩) (HK1.out.mono (fun k _ h => by omega)) (fun _ => Nat.le_refl _) _⟩
    have := HB1.out
    simp [World.setCell, Array.getElem?_modify, this]
  · go_wp2_with (at_builtin; refine wpList_app _ rfl (.tmp 12) (.tmp 13) 45 9 rfl 5 i0 (.int .u8 0) 1 1 Tryd.underlying45 hi hz0 hz1 hz2 rfl _ _ _ rfl (owns_base HO1.out (fun _ _ => Nat.zero_le _)) (.string (bs m)) (bs m).size _ rfl (Src.ofString _ Tryd.underlying9 (bs m)) ?b1 ?b2 ?next)
    case b1 => rw [hs]; unfold maxLen; omega
    case b2 => rw [hs]; omega
    case next =>
      intro v' w2 ho2 hg2 hb2 _
      have hlt1 := owns_lt HO1.out
      have hsz1 : b < w1.heap.size := Nat.lt_of_lt_of_le hlt HK1.out.size
      have H1 := Lib.hid (owns_base (base' := b + 1) ho2 (fun k hk => by
        rcases hb2 with hb | hb
        · rw [hb] at hk; exact (hlt1 k hk).1
        · rw [hb] at hk
          simp at hk
          omega))
      have H2 : Hid (w2.heap[b]? = some (.cells #[.pointer (some ⟨b, 0, none⟩), v] 61 (0, 0))) := (hg2.block b hsz1 (fun e => by have := (hlt1 b e.symm).1; omega)).trans HB1.out
      have d1 : w2.cell? ⟨b, 1, none⟩ = some v := by rw [Lib.cell_of_heap H2.out]; rfl
      have g1 : w2.frozen? ⟨b, 1, none⟩ = false := Lib.frozen_of_heap H2.out 1
      have H3 := Lib.hid (Kept.grown (S := fun k => b ≤ k) (HK1.out.mono (fun k _ h => by omega)) hg2 (fun k hk _ => by have := (hlt1 k hk).1; omega))
      clear ho2 hg2 hb2 hlt1
      obtain ⟨ao2, cap2, rfl⟩ := owns_slice H1.out
      go_wp2
      go_ret2
      refine ⟨rfl, ⟨.pointer (some ⟨b, 0, none⟩), .slice ao2 (l.length + (bs m).size) cap2, ?_, .inr rfl, ?_, fun h => (hlm (List.append_eq_nil_iff.1 h)).elim⟩, Kept.setCell (S := fun k => b ≤ k) (p := ⟨b, 1, none⟩) H3.out (fun _ => Nat.le_refl _) _⟩
      · have := H2.out
        simp [World.setCell, Array.getElem?_modify, this, hs]
      · have ho := owns_kept (w' := w2.setCell ⟨b, 1, none⟩ (.slice ao2 (l.length + (bs m).size) cap2)) H1.out (Kept.setCell (S := fun k => k = b) (p := ⟨b, 1, none⟩) (Kept.refl _ w2) (fun _ => rfl) _) (fun k hk e => by have := (owns_lt H1.out k hk).1; omega)
        rw [byteCells_bv, bs_toList, ← List.map_append] at ho
        rw [List.length_append, ← hs]
        exact ho

set_option maxHeartbeats 1000000 in
set_option maxRecDepth 100000 in
theorem bstring_any (b : Nat) (l : List UInt8) (w : World) (h : Bd w b l) (hl : l.length ≤ 1099511627776) :
    Calls Tryd.prog 49 #[.pointer (some ⟨b, 0, none⟩)] w fun e w' => e = .returned (.string (bs l)) ∧ Kept (fun k => b ≤ k) w w' := by
  obtain ⟨i0, hi, hz0, hz1, hz2⟩ := info_parts Tryd.infoByte
  have hco : Tryd.prog.cellsOf 5 = 1 := by simp [Program.cellsOf, hi, hz1]
  obtain ⟨p, v, hb, hp, ho, hn⟩ := h
  by_cases h0 : l = []
  · subst h0
    obtain rfl := hn rfl
    have c1 : w.drew.cell? ⟨b, 1, none⟩ = some (.slice none 0 0) := by
      have : w.drew.heap[b]? = some (.cells #[p, .slice none 0 0] 61 (0, 0)) := hb
      rw [Lib.cell_of_heap this]; rfl
    have c2 : w.cell? ⟨b, 1, none⟩ = some (.slice none 0 0) := c1
    have hSD : ∀ w : World, (Builtin.unsafeSliceData_ #[45] 57 #[.slice none 0 0]).run Tryd.prog w = .ok (.pointer none) w := fun _ => rfl
    have hUS := fun w : World => Lib.run_unsafeString_none (P := Tryd.prog) w 57 3 9 none
    clear hb ho hn hp
    go_enter Tryd.func49, Tryd.ntmps49
    go_wp2
    go_region
    all_goals go_wp2
    all_goals go_ret
    all_goals exact ⟨rfl, (Kept.refl _ w).drew⟩
  · have hl0 : l.length ≠ 0 := by simpa using h0
    obtain ⟨g, cap, cur, rfl, hbg, hg, hnc, hcm, hcs, htake⟩ : ∃ g cap cur, v = .slice (some ⟨g, 0, none⟩) l.length cap ∧ b + 1 ≤ g ∧ w.heap[g]? = some (.cells cur 5 (0, 0)) ∧ l.length ≤ cap ∧ cap ≤ maxLen ∧ cur.size = cap * 1 ∧ cur.toList.take (l.length * 1) = l.map bv := by
      rcases ho.2 with ⟨_, hz⟩ | ⟨g, cap, cur, hv, r⟩
      · exact absurd hz hl0
      · exact ⟨g, cap, cur, hv, r⟩
    have c1 : w.drew.cell? ⟨b, 1, none⟩ = some (.slice (some ⟨g, 0, none⟩) l.length cap) := by
      have : w.drew.heap[b]? = some (.cells #[p, .slice (some ⟨g, 0, none⟩) l.length cap] 61 (0, 0)) := hb
      rw [Lib.cell_of_heap this]; rfl
    have c2 : w.cell? ⟨b, 1, none⟩ = some (.slice (some ⟨g, 0, none⟩) l.length cap) := c1
    have hSD : ∀ w : World, (Builtin.unsafeSliceData_ #[45] 57 #[.slice (some ⟨g, 0, none⟩) l.length cap]).run Tryd.prog w = .ok (.pointer (some ⟨g, 0, none⟩)) w := fun w => Lib.run_unsafeSliceData_row w _ _ _ _ _ (by omega)
    have hUS : (Builtin.unsafeString_ #[57, 3] 9 #[.pointer (some ⟨g, 0, none⟩), .int .i64 l.length]).run Tryd.prog w.drew = .ok (.string (bs l)) (w.drew.freeze ⟨g, 0, none⟩ l.length) := by
      refine Lib.run_unsafeString_row w.drew 57 3 9 5 Tryd.underlying57 hco g cur.size (by have hg' : w.drew.heap[g]? = some (.cells cur 5 (0, 0)) := hg; simp [World.shape?, hg']) l h0 (by omega) (by omega) ?_
      intro j x hx
      have := ho.cells (g := g) rfl j (bv x) (by simp [hx])
      exact this
    have hk : Kept (fun k => b ≤ k) w (w.drew.freeze ⟨g, 0, none⟩ l.length) := (Kept.of_below (B := b) (Lib.below_freeze (Below.drew (Below.refl b w)) (p := ⟨g, 0, none⟩) (show b ≤ g by omega) _))
    have HK := Lib.hid hk
    clear hb ho hn hp hk hg hcs htake
    go_enter Tryd.func49, Tryd.ntmps49
    go_wp2
    go_region
    all_goals go_wp2
    all_goals go_ret
    all_goals exact ⟨rfl, HK.out⟩

end Go.Proofs.YtofpnlmlenffnaaDoor
