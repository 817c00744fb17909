/-
  PROVED: DefRights, whatever two definitions come in: Right, Key, Same and Compare answer as the document says. No condition.
-/
import Derived.Test.YtomdhljhjeeakaaL7r
import Derived.Test.YtomdhljhjeeakaaFdf
import Derived.Test.YtomdhljhjeeakaaFits
import Derived.ShutString
import Derived.HandedShaped
namespace Go.Proofs.Ytomdhljhjeeakaa
open Go.ChangeShapes Go.WideShapes Go.ChangeAt Go.RowKit Go.Mk
open Go.ChangeMaps (open_string shut_string)


theorem defRights_own : ownKnob Try.prog.godebug = none := by kernel_rfl
theorem defRights_laid : laidOutB Try.prog = true := by kernel_rfl

set_option maxRecDepth 100000 in
theorem defRights_lifted (os : Os) (started : os.Started) (H : Type) (enc : TypeId × Value → H) :
    ReturnsInHanded {} Try.checked os 3 .any (Rows.defRightsSpec.pre6 enc Try.prog Try.f3 Rows.defRightsRow.domain false) (Rows.defRightsSpec.post enc Try.prog Try.f3 false true false false) := by
  refine returnsInHanded_of_change_shaped (C := Try.checked) defRights_own started (by kernel_rfl) Try.func3
    (ChangeSpec.witness6 (enc := enc) (C := Try.checked) false ⟨#[], #[.agg #[.int .i64 0, .string ⟨#[]⟩, .string ⟨#[]⟩, .slice none 0 0, .string ⟨#[]⟩, .string ⟨#[]⟩], .agg #[.int .i64 0, .string ⟨#[]⟩, .string ⟨#[]⟩, .slice none 0 0, .string ⟨#[]⟩, .string ⟨#[]⟩]], []⟩ 8 (by kernel_rfl) (by kernel_rfl) (by kernel_rfl) (by kernel_rfl)) ?_
  intro W base args ds gs before hval0 hW hcnd _ hsh _
  have hval : ∀ (j : Nat) t v, Try.f3.params[j]? = some t → args[j]? = some v → Value.okWide Try.prog W .any base t v := hval0
  have hW' := hW
  obtain ⟨p, q, hA0, hV, rfl, hfz, hnd⟩ := hW
  have hA : DataW.TrodAll enc Try.prog W 0 (fun _ => true) true Try.f3.params.toList args.toList ds p := hA0
  rw [Try.params3] at hA hval
  obtain ⟨v0, vs0, d0, ds0, p0, q0, hargs, rfl, rfl, h0, r0⟩ := trodAll_cons hA
  obtain ⟨v1, vs1, d1, ds1, p1, q1, rfl, rfl, rfl, h1, r1⟩ := trodAll_cons r0
  obtain ⟨rfl, rfl, rfl⟩ := trodAll_nil r1
  obtain rfl : args = #[v0, v1] := by cases args; simp_all
  obtain ⟨rfl, rfl⟩ := trodVars_none hV
  obtain ⟨cs0, rfl, hsz0⟩ := okWide_struct Try.underlying24 (hval 0 24 v0 rfl rfl)
  have k0 := h0
  have lt0 : ∀ x ∈ p0, x.block < W.heap.size := by obtain ⟨m, hm⟩ := k0; exact DataW.trod_lt m _ _ _ hm
  obtain ⟨x0, f0⟩ := fits_arg tyDef (by kernel_rfl) h0
  obtain ⟨ao0, cap0, y0, hcs0, hl0, hc0, -⟩ := def_cells f0
  obtain rfl : cs0 = #[.int .i64 y0.k, .string (bs y0.c), .string (bs y0.p), .slice ao0 y0.vs.length cap0, .string (bs y0.s), .string (bs y0.t)] := by have : cs0.toList = _ := hcs0; rw [← Array.toArray_toList (xs := cs0), this]
  obtain ⟨cs1, rfl, hsz1⟩ := okWide_struct Try.underlying24 (hval 1 24 v1 rfl rfl)
  have k1 := h1
  have lt1 : ∀ x ∈ p1, x.block < W.heap.size := by obtain ⟨m, hm⟩ := k1; exact DataW.trod_lt m _ _ _ hm
  obtain ⟨x1, f1⟩ := fits_arg tyDef (by kernel_rfl) h1
  obtain ⟨ao1, cap1, y1, hcs1, hl1, hc1, -⟩ := def_cells f1
  obtain rfl : cs1 = #[.int .i64 y1.k, .string (bs y1.c), .string (bs y1.p), .slice ao1 y1.vs.length cap1, .string (bs y1.s), .string (bs y1.t)] := by have : cs1.toList = _ := hcs1; rw [← Array.toArray_toList (xs := cs1), this]
  clear hA0 hval0
  refine (rights_any y0 y1 ao0 ao1 cap0 cap1 W (MaxAt.shaped hsh) hl0 hl1 hc0 hc1).mono fun e W' ⟨he, bel⟩ => ?_
  subst he
  exact ⟨_, rfl, _, _, _, [], _, [], hW', trodAll_mk1 (shut_bool Try.underlying4 _), (trodAll_cons_mk (Below.trod defRights_laid (by kernel_rfl) (of_decide_eq_true (by kernel_rfl)) k0 bel lt0) (trodAll_cons_mk (Below.trod defRights_laid (by kernel_rfl) (of_decide_eq_true (by kernel_rfl)) k1 bel lt1) trodAll_mk0)), rfl, bel.frame _, fun h => by cases h⟩

theorem def_rights : Rows.DefRightsSaid :=
  OpenClaim.holds_of_wide 3 Try.f3 rfl rfl rfl rfl rfl rfl rfl ⟨rfl, rfl, rfl, rfl, rfl⟩ rfl rfl rfl rfl rfl (by kernel_rfl) Try.func3 (by kernel_rfl)
    (of_decide_eq_true (by kernel_rfl)) (by unfold Func.isWrapper; first | (rw [if_pos (by decide +kernel)]; kernel_rfl) | (rw [if_neg (by decide +kernel)]; exact ⟨rfl, rfl⟩))
    (fun os started H enc _ => defRights_lifted os started H enc)

end Go.Proofs.Ytomdhljhjeeakaa
