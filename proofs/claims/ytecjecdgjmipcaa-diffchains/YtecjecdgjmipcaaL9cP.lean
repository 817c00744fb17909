/-
  PROVED: DiffChains, whatever three lists of definitions come in: two patches, one behind the other, lead where the patch from the first to the last one leads. No condition.
-/
import Derived.Test.YtecjecdgjmipcaaL9c
import Derived.Test.YtecjecdgjmipcaaGFdf
import Derived.Test.YtecjecdgjmipcaaFits
import Derived.ShutString
import Derived.HandedShaped
namespace Go.Proofs.Ytecjecdgjmipcaa
open Go.ChangeShapes Go.WideShapes Go.ChangeAt Go.RowKit Go.Mk
open Go.ChangeMaps (open_string shut_string)


theorem diffChains_own : ownKnob Try.prog.godebug = none := by kernel_rfl
theorem diffChains_laid : laidOutB Try.prog = true := by kernel_rfl

set_option maxRecDepth 100000 in
theorem diffChains_lifted (os : Os) (started : os.Started) (H : Type) (enc : TypeId × Value → H) :
    ReturnsInHanded {} Try.checked os 4 .any (Rows.diffChainsSpec.pre6 enc Try.prog Try.f4 Rows.diffChainsRow.domain false) (Rows.diffChainsSpec.post enc Try.prog Try.f4 false true false false) := by
  refine returnsInHanded_of_change_shaped (C := Try.checked) diffChains_own started (by kernel_rfl) Try.func4
    (ChangeSpec.witness6 (enc := enc) (C := Try.checked) false ⟨#[], #[.agg #[.slice none 0 0, .slice none 0 0, .slice none 0 0]], []⟩ 8 (by kernel_rfl) (by kernel_rfl) (by kernel_rfl) (by kernel_rfl)) ?_
  intro W base args ds gs before hval0 hW hcnd _ hsh _
  have hval : ∀ (j : Nat) t v, Try.f4.params[j]? = some t → args[j]? = some v → Value.okWide Try.prog W .any base t v := hval0
  have hW' := hW
  obtain ⟨p, q, hA0, hV, rfl, hfz, hnd⟩ := hW
  have hA : DataW.TrodAll enc Try.prog W 0 (fun _ => true) true Try.f4.params.toList args.toList ds p := hA0
  rw [Try.params4] at hA hval
  obtain ⟨v0, vs0, d0, ds0, p0, q0, hargs, rfl, rfl, h0, r0⟩ := trodAll_cons hA
  obtain ⟨rfl, rfl, rfl⟩ := trodAll_nil r0
  obtain rfl : args = #[v0] := by cases args; simp_all
  obtain ⟨rfl, rfl⟩ := trodVars_none hV
  obtain ⟨cs0, rfl⟩ := okWide_arr3 (hval 0 28 v0 rfl rfl)
  have k0 := h0
  have lt0 : ∀ x ∈ p0, x.block < W.heap.size := by obtain ⟨m, hm⟩ := k0; exact DataW.trod_lt m _ _ _ hm
  obtain ⟨s0, s1, s2, hcs0, g0, g1, g2⟩ := lists_cells h0
  obtain rfl : cs0 = #[.slice s0.ao s0.es.length s0.cap, .slice s1.ao s1.es.length s1.cap, .slice s2.ao s2.es.length s2.cap] := by have : cs0.toList = _ := hcs0; rw [← Array.toArray_toList (xs := cs0), this]; rfl
  clear hA0 hval0
  refine (chains9_any s0.ao s0.cap s0.es s1.ao s1.cap s1.es s2.ao s2.cap s2.es W (MaxAt.shaped hsh) g0.ds g1.ds g2.ds).mono fun e W' ⟨he, bel⟩ => ?_
  subst he
  exact ⟨_, rfl, _, _, _, [], _, [], hW', trodAll_mk1 (shut_bool Try.underlying4 _), (trodAll_cons_mk (Below.trod diffChains_laid (by kernel_rfl) (of_decide_eq_true (by kernel_rfl)) k0 bel lt0) trodAll_mk0), rfl, bel.frame _, fun h => by cases h⟩

theorem diff_chains : Rows.DiffChainsSaid :=
  OpenClaim.holds_of_wide 4 Try.f4 rfl rfl rfl rfl rfl rfl rfl ⟨rfl, rfl, rfl, rfl, rfl⟩ rfl rfl rfl rfl rfl (by kernel_rfl) Try.func4 (by kernel_rfl)
    (of_decide_eq_true (by kernel_rfl)) (by unfold Func.isWrapper; first | (rw [if_pos (by decide +kernel)]; kernel_rfl) | (rw [if_neg (by decide +kernel)]; exact ⟨rfl, rfl⟩))
    (fun os started H enc _ => diffChains_lifted os started H enc)

end Go.Proofs.Ytecjecdgjmipcaa
