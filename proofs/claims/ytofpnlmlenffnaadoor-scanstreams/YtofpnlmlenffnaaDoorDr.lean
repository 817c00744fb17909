/-
  LAWS OF THE WALK, over no program: a region that draws its order in the body of a loop over an iterator; a call as one step of a region; a load of many cells inside a fence.
-/
import Derived.Test.YtofpnlmlenffnaaDoorDl
import Derived.RangeFuncNested
import Derived.RangeFuncBound
import Derived.RangeFuncCalls
import Derived.RangeFuncLeaves
import Derived.Shelf.Abstract
import Derived.Shelf.RegionOpen
import Derived.WalkKit
import Derived.OwnWalkIn
import Derived.TacticsInMore
import Derived.LoopNIn
import Derived.LoopIn
namespace Go.Mk
open Go.RowKit

section
variable {P : Program}

/-- An operation that is no 'defer' goes in a round as anywhere. -/
theorem operIn_of_wp {o : Oper} {a : Act} {w : World} {K : Act → World → Prop} {Q : Exit → Act → World → Prop} (l n : Nat) (hd : ∀ c, o.op ≠ .defer c) (h : o.wp P a w K Q) : o.wpIn (Fence.wide.inRound l) n P a w K Q := by
  refine ⟨fun _ _ => trivial, ?_⟩
  rw [Fence.inRound_round, Oper.semAt_some l _ _ hd]
  unfold Oper.wp at h
  generalize (execOp a.eval o).run P w = r at *
  cases r with
  | ok x w' =>
    cases x with
    | value v => exact h
    | skip => exact h
    | defer d => exact h
    | enter f args => exact ⟨fun h0 => by simp [Fence.wide] at h0, CallsIn.inRound l (callsIn_wide.2 h)⟩
    | row r args => exact ⟨fun h0 => by simp [Fence.wide] at h0, fun c cs _ => let ⟨v, w', hr, hs⟩ := h c cs; ⟨v, w', hr, stepsIn_wide.2 hs⟩⟩
    | _ => exact h.elim
  | halt x w' =>
    cases x <;> first | exact h | exact h.elim

theorem opsIn_of_wp {ops : Array Oper} {Q : Exit → Act → World → Prop} (l n : Nat) (hQ : ¬ LetsOut Q) (hd : ∀ (i : Nat) (o : Oper) c, ops[i]? = some o → o.op ≠ .defer c) : ∀ (is : List Nat) (a : Act) (w : World), wpOps P ops Q is a w → wpOpsIn (Fence.wide.inRound l) n P ops Q is a w
  | [], _, _, h => h
  | i :: is, a, w, h => by
    unfold wpOps at h
    unfold wpOpsIn
    cases ho : ops[i]? with
    | none => simp only [ho] at h ⊢; exact opsIn_of_wp l n hQ hd is a w h
    | some o =>
      simp only [ho] at h ⊢
      split at h
      · rename_i hw
        rw [if_pos hw]
        rcases h with h | h
        · exact operIn_of_wp l n (fun c => hd i o c ho) (Oper.wp_mono (fun a w h => opsIn_of_wp l n hQ hd is a w h) h)
        · exact (hQ h.2).elim
      · rename_i hw
        rw [if_neg hw]
        exact ⟨fun _ _ => trivial, opsIn_of_wp l n hQ hd is _ w h⟩

def noDefer (o : Oper) : Bool := match o.op with | .defer _ => false | _ => true
theorem noDefer_spec {ops : Array Oper} (h : ops.all noDefer = true) (i : Nat) (o : Oper) (c) (ho : ops[i]? = some o) : o.op ≠ .defer c := fun e => by
  have := Array.all_eq_true_iff_forall_mem.1 h o (Array.mem_of_getElem? ho)
  simp [noDefer, e] at this

/-- A REGION THAT DRAWS ITS ORDER, IN A ROUND: as anywhere. -/
theorem wpIn_region_round {id : Nat} {ops : Array Oper} {Q : Exit → Act → World → Prop} {a : Act} {w : World} (l n : Nat) (hQ : ¬ LetsOut Q) (hd : ops.all noDefer = true) (hm : P.follows .mixedOrders = true)
    (h : wpAny P .any ops Q ops.size (Array.replicate ops.size false) a w.drew) : (Code.region id ops true).wpIn (Fence.wide.inRound l) n P Q a w :=
  wpIn_region_draw fun t => by
    simp only [Region.schedule, hm, Bool.true_or, if_true]
    exact opsIn_of_wp l n hQ (noDefer_spec hd) _ a _ (wpAny_sound ops.size t _ a _ h)

/-- A postcondition that lets a code end in one way alone. -/
def onlyN (Q : Exit → Act → World → Prop) : Exit → Act → World → Prop
  | .normal, a, w => Q .normal a w
  | _, _, _ => False
theorem wp_onlyN {c : Code} {Q : Exit → Act → World → Prop} {a : Act} {w : World} (h : c.wp P (onlyN Q) a w) : c.wp P Q a w :=
  Code.wp_mono (fun e a w q => by cases e <;> first | exact q | exact q.elim) h

/-- A call of a Go function, as one step of a region that draws its order. -/
theorem step_call {ops : Array Oper} {o : Oper} {a : Act} {w : World} {K : Act → World → Prop} {Q : Exit → Act → World → Prop} {E : Prop} (hgd : o.guard = none) (f : FuncId) (args : Array Operand) (ts : Array TypeId)
    (ho : o.op = .call { callee := .value (.func f), args := args, argTypes := ts }) (eg : ∀ args w, (callFunc f args).run P w = .ok (.enter f args) w) (vs : Array Value) (hvs : args.map a.eval = vs)
    (v : Value) (R : World → Prop) (hc : Calls P f vs w fun e w' => e = .returned v ∧ R w') (h : ∀ w', R w' → K (a.put o.dst v) w') :
    if Region.wanted o (yielded ops a.tmps) = true then Oper.wp P o a w K Q else E := by
  have hw : Region.wanted o (yielded ops a.tmps) = true := by simp [Region.wanted, hgd]
  rw [if_pos hw]
  unfold Oper.wp execOp
  simp [ho, resolve, invoke, hvs, eg, go_sem]
  exact hc.mono fun e w' ⟨he, hr⟩ => by subst he; exact h w' hr

theorem step_call2 {ops : Array Oper} {o : Oper} {a : Act} {w : World} {K : Act → World → Prop} {Q : Exit → Act → World → Prop} {E : Prop} (hgd : o.guard = none) (f : FuncId) (x y : Operand) (ts : Array TypeId)
    (ho : o.op = .call { callee := .value (.func f), args := #[x, y], argTypes := ts }) (eg : ∀ args w, (callFunc f args).run P w = .ok (.enter f args) w) (vx vy : Value) (hx : a.eval x = vx) (hy : a.eval y = vy)
    (v : Value) (R : World → Prop) (hc : Calls P f #[vx, vy] w fun e w' => e = .returned v ∧ R w') (h : ∀ w', R w' → K (a.put o.dst v) w') :
    if Region.wanted o (yielded ops a.tmps) = true then Oper.wp P o a w K Q else E :=
  step_call hgd f #[x, y] ts ho eg #[vx, vy] (by simp [hx, hy]) v R hc h

/-- A load of many cells inside a fence. -/
theorem wpListIn_load_mid {F : Fence} {n : Nat} {ops : Array Oper} {rest : List Oper} {op : Oper} {a : Act} {w : World} {Q : Exit → Act → World → Prop} (hgd : op.guard = none) (ty : TypeId) (x : Operand) (ho : op.op = .load ty x)
    (b o : Nat) (hx : a.eval x = .pointer (some ⟨b, o, none⟩)) (cs : List Value) (d : TypeDesc) (hc : w.rangeAt b o cs)
    (hu : P.underlying ty = some d) (hd : d.isRow = true) (hi : (P.info? ty).map (·.size) = some cs.length) (hro : F.round = none)
    (h : wpListIn F n P ops Q rest (a.put op.dst (.agg cs.toArray)) w) : wpListIn F n P ops Q (op :: rest) a w := by
  refine wpListIn_plain hgd fun K hK => ⟨fun f hf => ?_, ?_⟩
  · simp [Oper.about, ho] at hf
  · rw [hro]
    unfold Oper.semAt execOp
    simp only [ho, hx, Instr.loadAt, Instr.sureAddr, Sem.run_bind, Sem.run_pure, Result.andThen_ok, run_loadVar_mid w b o ty cs d hc hu hd hi]
    exact hK _ _ h

/-- In a round: a new variable of many cells, and what is stored there. -/
theorem wpListIn_alloc_row {l n : Nat} {ops : Array Oper} {rest : List Oper} {o : Oper} {a : Act} {w : World} {Q : Exit → Act → World → Prop} (hgd : o.guard = none) (t : TypeId) (ho : o.op = .alloc t) (z : Array Value)
    (hz : ∀ w, (zeroValue t).run P w = .ok (.agg z) w) (h : wpListIn (Fence.wide.inRound l) n P ops Q rest (a.put o.dst (.pointer (some ⟨w.heap.size, 0, none⟩))) (w.alloc (.cells z t))) : wpListIn (Fence.wide.inRound l) n P ops Q (o :: rest) a w := by
  refine wpListIn_plain hgd fun K hK => operIn_of_wp l n (by rw [ho]; simp) ?_
  unfold Oper.wp
  simp [execOp, ho, Instr.alloc, newVar, newRow, hz w, Value.cells, Result.andThen]
  exact hK _ _ h

theorem wpListIn_store_new {l n : Nat} {ops : Array Oper} {rest : List Oper} {o : Oper} {a : Act} {w : World} {Q : Exit → Act → World → Prop} (hgd : o.guard = none) (ty : TypeId) (x y : Operand) (ho : o.op = .store ty x y)
    (cells old : Array Value) (hx : a.eval x = .pointer (some ⟨w.heap.size, 0, none⟩)) (hy : a.eval y = .agg cells) (hi : (P.info? ty).map (·.size) = some cells.size)
    (hold : old.size = cells.size) (h1 : cells.all (·.oneCell') = true)
    (h : wpListIn (Fence.wide.inRound l) n P ops Q rest (a.put o.dst undef) (w.alloc (.cells cells ty))) : wpListIn (Fence.wide.inRound l) n P ops Q (o :: rest) a (w.alloc (.cells old ty)) := by
  refine wpListIn_plain hgd fun K hK => operIn_of_wp l n (by rw [ho]; simp) ?_
  refine wp_store_row ty x y ho w.heap.size cells hx hy ty old (heap_alloc_last _ _) hi hold h1 ?_
  rw [World.setRow_alloc_new]
  exact hK _ _ h

/-- max and min of two ints, in whatever world. -/
theorem yields_max {ops : Array Oper} {o : Oper} {a : Act} (hgd : o.guard = none) (x y : Operand) (ts : Array TypeId) (ho : o.op = .call { callee := .builtin .max, args := #[x, y], argTypes := ts }) (p q r : Int)
    (hx : a.eval x = .int .i64 p) (hy : a.eval y = .int .i64 q) (hr : max p q = r) : Yields P ops o (.int .i64 r) a := by
  refine .inl ⟨by simp [Region.wanted, hgd], fun w => ?_⟩
  have e : (if q > p then q else p) = r := by rw [← hr]; split <;> omega
  have hrun := run_max_int2 (P := P) (w := w) ts o.type .i64 .i64 p q
  rw [e] at hrun
  unfold execOp
  simp [ho, resolve, invoke, builtin, hx, hy, hrun]

theorem yields_min {ops : Array Oper} {o : Oper} {a : Act} (hgd : o.guard = none) (x y : Operand) (ts : Array TypeId) (ho : o.op = .call { callee := .builtin .min, args := #[x, y], argTypes := ts }) (p q r : Int)
    (hx : a.eval x = .int .i64 p) (hy : a.eval y = .int .i64 q) (hr : min p q = r) : Yields P ops o (.int .i64 r) a := by
  refine .inl ⟨by simp [Region.wanted, hgd], fun w => ?_⟩
  have e : (if q < p then q else p) = r := by rw [← hr]; split <;> omega
  have hrun := run_min_int2 (P := P) (w := w) ts o.type .i64 .i64 p q
  rw [e] at hrun
  unfold execOp
  simp [ho, resolve, invoke, builtin, hx, hy, hrun]

/-- Kept, as a loop over an iterator asks it. -/
theorem keepsFrom_of_kept {S : Nat → Prop} {B : Nat} {W W' : World} (h : Kept S W W') (hs : ∀ k, S k → k < B) : KeepsFrom B W W' :=
  ⟨h.size, fun k o hB hk _ => (h.block k (Array.getElem?_eq_some_iff.1 hk).1 (fun e => by have := hs k e; omega)).trans hk⟩

end

end Go.Mk
