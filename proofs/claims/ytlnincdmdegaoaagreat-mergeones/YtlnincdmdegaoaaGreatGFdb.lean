/-
  Lemmas towards the claim of this folder: contracts of the functions that the law reaches; joined texts.
-/
import Derived.Test.YtlnincdmdegaoaaGreatGSx
import Derived.OpenShut
import Derived.Test.YtlnincdmdegaoaaGreatL10o
import Derived.Test.YtlnincdmdegaoaaGreatGFits
import Derived.ShutString
/-
  Three slices of definitions beside each other that came in.
-/
namespace Go.Proofs.YtlnincdmdegaoaaGreat
open Go.ChangeShapes Go.WideShapes Go.ChangeAt Go.RowKit Go.Mk

set_option maxRecDepth 100000 in
theorem okWide_arr3 {w : World} {r : _} {base : Nat} {v : Value} (h : Value.okWide Tryz.prog w r base 23 v) : ∃ cs, v = .agg cs := by
  have ht := Tryz.underlying23
  simp only [Value.okWide, ht] at h
  obtain ⟨cs, h1, _⟩ := h
  exact ⟨cs, h1⟩

set_option maxRecDepth 100000 in
theorem lists_cells {H : Type} {enc : TypeId × Value → H} {w : World} {spare : Nat → Bool} {held : Bool} {v : Value} {x : DataW H} {ps : List MemPlace} (h : DataW.Trod enc Tryz.prog w 0 spare held 23 v x ps) :
    ∃ (s0 s1 s2 : SD), v.cells.toList = [s0.val, s1.val, s2.val] ∧ SDs w w.heap.size s0 ∧ SDs w w.heap.size s1 ∧ SDs w w.heap.size s2 := by
  obtain ⟨fuel, hf⟩ := h
  obtain ⟨xs, m, _, _, hlen, hxl, hel⟩ := DataW.trod_array Tryz.underlying23 hf
  generalize v.cells.toList = cs at *
  have hz : Tryz.prog.cellsOf 22 = 1 := by kernel_rfl
  have hz2 : Tryz.prog.cellsOf 23 = 3 := by kernel_rfl
  rw [hz2] at hlen
  have each : ∀ i, i < 3 → ∃ s : SD, (cs.drop (i * 1)).take 1 = [s.val] ∧ SDs w w.heap.size s := by
    intro i hi
    have h1 := hel i hi
    rw [hz, List.getElem?_eq_getElem (by omega)] at h1
    obtain ⟨y, hy⟩ := fits_of (enc := enc) (P := Tryz.prog) (w := w) (spare := spare) (held := held) (.slice tyDef) (.inl 22) _ (by kernel_rfl) ⟨m, _, h1⟩ (fun _ _ h => by cases h)
    exact sd_of hy
  obtain ⟨s0, e0, h0⟩ := each 0 (by omega)
  obtain ⟨s1, e1, h1⟩ := each 1 (by omega)
  obtain ⟨s2, e2, h2⟩ := each 2 (by omega)
  refine ⟨s0, s1, s2, ?_, h0, h1, h2⟩
  have hcut : cs = (cs.drop (0 * 1)).take 1 ++ ((cs.drop (1 * 1)).take 1 ++ (cs.drop (2 * 1)).take 1) := by
    have t2 : (cs.drop (2 * 1)).take 1 = cs.drop 2 := List.take_of_length_le (by rw [List.length_drop]; omega)
    have t1 : (cs.drop (1 * 1)).take 1 ++ cs.drop 2 = cs.drop 1 := by
      have := List.take_append_drop 1 (cs.drop 1)
      rwa [List.drop_drop] at this
    rw [t2, t1]
    exact (List.take_append_drop 1 cs).symm
  rw [hcut, e0, e1, e2]
  rfl

def l3 (s0 s1 s2 : SD) (i : Nat) : SD := if i = 0 then s0 else if i = 1 then s1 else s2

theorem l3_ds {w : World} {s0 s1 s2 : SD} (h0 : SDs w w.heap.size s0) (h1 : SDs w w.heap.size s1) (h2 : SDs w w.heap.size s2) : ∀ i, i < 3 → Ds w w.heap.size (l3 s0 s1 s2 i).ao (l3 s0 s1 s2 i).es := by
  intro i hi
  have : i = 0 ∨ i = 1 ∨ i = 2 := by omega
  rcases this with rfl | rfl | rfl
  · exact h0.ds
  · exact h1.ds
  · exact h2.ds

end Go.Proofs.YtlnincdmdegaoaaGreat

/-
  PROVED: MergeOnes, whatever three lists of definitions come in: where one side alone changed something, or both the same, that is what comes, without conflicts. No condition.
-/
namespace Go.Proofs.YtlnincdmdegaoaaGreat
open Go.ChangeShapes Go.WideShapes Go.ChangeAt Go.RowKit Go.Mk
open Go.ChangeMaps (open_string shut_string)


theorem mergeOnes_own : ownKnob Tryz.prog.godebug = none := by kernel_rfl
theorem mergeOnes_laid : laidOutB Tryz.prog = true := by kernel_rfl

set_option maxRecDepth 100000 in
theorem mergeOnes_lifted (os : Os) (started : os.Started) (H : Type) (enc : TypeId × Value → H) :
    ReturnsInHanded {} Tryz.checked os 4 .any (Rows.mergeOnesSpec.pre6 enc Tryz.prog Tryz.f4 Rows.mergeOnesRow.domain false) (Rows.mergeOnesSpec.post enc Tryz.prog Tryz.f4 false true false false) := by
  refine returnsInHanded_of_change (C := Tryz.checked) mergeOnes_own started (by kernel_rfl) Tryz.func4
    (ChangeSpec.witness6 (enc := enc) (C := Tryz.checked) false ⟨#[], #[.agg #[.slice none 0 0, .slice none 0 0, .slice none 0 0]], []⟩ 8 (by kernel_rfl) (by kernel_rfl) (by kernel_rfl) (by kernel_rfl)) ?_
  intro W base args ds gs before hval0 hW hcnd _
  have hval : ∀ (j : Nat) t v, Tryz.f4.params[j]? = some t → args[j]? = some v → Value.okWide Tryz.prog W .any base t v := hval0
  have hW' := hW
  obtain ⟨p, q, hA0, hV, rfl, hfz, hnd⟩ := hW
  have hA : DataW.TrodAll enc Tryz.prog W 0 (fun _ => true) true Tryz.f4.params.toList args.toList ds p := hA0
  rw [Tryz.params4] at hA hval
  obtain ⟨v0, vs0, d0, ds0, p0, q0, hargs, rfl, rfl, h0, r0⟩ := trodAll_cons hA
  obtain ⟨rfl, rfl, rfl⟩ := trodAll_nil r0
  obtain rfl : args = #[v0] := by cases args; simp_all
  obtain ⟨rfl, rfl⟩ := trodVars_none hV
  obtain ⟨cs0, rfl⟩ := okWide_arr3 (hval 0 23 v0 rfl rfl)
  have k0 := h0
  have lt0 : ∀ x ∈ p0, x.block < W.heap.size := by obtain ⟨m, hm⟩ := k0; exact DataW.trod_lt m _ _ _ hm
  obtain ⟨s0, s1, s2, hcs0, g0, g1, g2⟩ := lists_cells h0
  obtain rfl : cs0 = #[.slice s0.ao s0.es.length s0.cap, .slice s1.ao s1.es.length s1.cap, .slice s2.ao s2.es.length s2.cap] := by have : cs0.toList = _ := hcs0; rw [← Array.toArray_toList (xs := cs0), this]; rfl
  clear hA0 hval0
  refine (ones10_any (l3 s0 s1 s2) W (l3_ds g0 g1 g2)).mono fun e W' ⟨he, bel⟩ => ?_
  subst he
  exact ⟨_, rfl, _, _, _, [], _, [], hW', trodAll_mk1 (shut_bool Tryz.underlying4 _), (trodAll_cons_mk (Below.trod mergeOnes_laid (by kernel_rfl) (of_decide_eq_true (by kernel_rfl)) k0 bel lt0) trodAll_mk0), rfl, bel.frame _, fun h => by cases h⟩

theorem merge_ones : Rows.MergeOnesSaid :=
  OpenClaim.holds_of_wide 4 Tryz.f4 rfl rfl rfl rfl rfl rfl rfl ⟨rfl, rfl, rfl, rfl, rfl⟩ rfl rfl rfl rfl rfl (by kernel_rfl) Tryz.func4 (by kernel_rfl)
    (of_decide_eq_true (by kernel_rfl)) (by unfold Func.isWrapper; first | (rw [if_pos (by decide +kernel)]; kernel_rfl) | (rw [if_neg (by decide +kernel)]; exact ⟨rfl, rfl⟩))
    (fun os started H enc _ => mergeOnes_lifted os started H enc)

end Go.Proofs.YtlnincdmdegaoaaGreat
