/-
  PROVED: DefOrders, whatever three definitions come in: Compare orders them. No condition.
-/
import Derived.Test.YtomdhljhjeeakaaL7o
import Derived.Test.YtomdhljhjeeakaaFda
import Derived.Test.YtomdhljhjeeakaaFits
import Derived.ShutString
namespace Go.Proofs.Ytomdhljhjeeakaa
open Go.ChangeShapes Go.WideShapes Go.ChangeAt Go.RowKit Go.Mk
open Go.ChangeMaps (open_string shut_string)


theorem defOrders_own : ownKnob Try.prog.godebug = none := by kernel_rfl
theorem defOrders_laid : laidOutB Try.prog = true := by kernel_rfl

set_option maxRecDepth 100000 in
theorem defOrders_lifted (os : Os) (started : os.Started) (H : Type) (enc : TypeId × Value → H) :
    ReturnsInHanded {} Try.checked os 7 .any (Rows.defOrdersSpec.pre6 enc Try.prog Try.f7 Rows.defOrdersRow.domain false) (Rows.defOrdersSpec.post enc Try.prog Try.f7 false true false false) := by
  refine returnsInHanded_of_change (C := Try.checked) defOrders_own started (by kernel_rfl) Try.func7
    (ChangeSpec.witness6 (enc := enc) (C := Try.checked) false ⟨#[], #[.agg #[.int .i64 0, .string ⟨#[]⟩, .string ⟨#[]⟩, .slice none 0 0, .string ⟨#[]⟩, .string ⟨#[]⟩, .int .i64 0, .string ⟨#[]⟩, .string ⟨#[]⟩, .slice none 0 0, .string ⟨#[]⟩, .string ⟨#[]⟩, .int .i64 0, .string ⟨#[]⟩, .string ⟨#[]⟩, .slice none 0 0, .string ⟨#[]⟩, .string ⟨#[]⟩]], []⟩ 8 (by kernel_rfl) (by kernel_rfl) (by kernel_rfl) (by kernel_rfl)) ?_
  intro W base args ds gs before hval0 hW hcnd _
  have hval : ∀ (j : Nat) t v, Try.f7.params[j]? = some t → args[j]? = some v → Value.okWide Try.prog W .any base t v := hval0
  have hW' := hW
  obtain ⟨p, q, hA0, hV, rfl, hfz, hnd⟩ := hW
  have hA : DataW.TrodAll enc Try.prog W 0 (fun _ => true) true Try.f7.params.toList args.toList ds p := hA0
  rw [Try.params7] at hA hval
  obtain ⟨v0, vs0, d0, ds0, p0, q0, hargs, rfl, rfl, h0, r0⟩ := trodAll_cons hA
  obtain ⟨rfl, rfl, rfl⟩ := trodAll_nil r0
  obtain rfl : args = #[v0] := by cases args; simp_all
  obtain ⟨rfl, rfl⟩ := trodVars_none hV
  obtain ⟨cs0, rfl⟩ := okWide_array3 (hval 0 55 v0 rfl rfl)
  have k0 := h0
  have lt0 : ∀ x ∈ p0, x.block < W.heap.size := by obtain ⟨m, hm⟩ := k0; exact DataW.trod_lt m _ _ _ hm
  obtain ⟨ao0, ao1, ao2, cap0, cap1, cap2, a, b, c, hcs0, la, lb, lc, ca, cb, cc⟩ := defs_cells h0
  obtain rfl : cs0 = #[.int .i64 a.k, .string (bs a.c), .string (bs a.p), .slice ao0 a.vs.length cap0, .string (bs a.s), .string (bs a.t), .int .i64 b.k, .string (bs b.c), .string (bs b.p), .slice ao1 b.vs.length cap1, .string (bs b.s), .string (bs b.t), .int .i64 c.k, .string (bs c.c), .string (bs c.p), .slice ao2 c.vs.length cap2, .string (bs c.s), .string (bs c.t)] := by have : cs0.toList = _ := hcs0; rw [← Array.toArray_toList (xs := cs0), this]
  clear hA0 hval0
  refine (orders_any ao0 ao1 ao2 cap0 cap1 cap2 a b c W la lb lc ca cb cc).mono fun e W' ⟨he, bel⟩ => ?_
  subst he
  exact ⟨_, rfl, _, _, _, [], _, [], hW', trodAll_mk1 (shut_bool Try.underlying4 _), (trodAll_cons_mk (Below.trod defOrders_laid (by kernel_rfl) (of_decide_eq_true (by kernel_rfl)) k0 bel lt0) trodAll_mk0), rfl, bel.frame _, fun h => by cases h⟩

theorem def_orders : Rows.DefOrdersSaid :=
  OpenClaim.holds_of_wide 7 Try.f7 rfl rfl rfl rfl rfl rfl rfl ⟨rfl, rfl, rfl, rfl, rfl⟩ rfl rfl rfl rfl rfl (by kernel_rfl) Try.func7 (by kernel_rfl)
    (of_decide_eq_true (by kernel_rfl)) (by unfold Func.isWrapper; first | (rw [if_pos (by decide +kernel)]; kernel_rfl) | (rw [if_neg (by decide +kernel)]; exact ⟨rfl, rfl⟩))
    (fun os started H enc _ => defOrders_lifted os started H enc)

end Go.Proofs.Ytomdhljhjeeakaa
