/-
  CONTRACT of slices.Backward over pending writes: the last comes first; for every loop body that keeps the row.
-/
import Derived.Test.YtgefbolnfenfcaaGreatDw
import Derived.Test.YtgefbolnfenfcaaGreatDr
namespace Go.Proofs.YtgefbolnfenfcaaGreat
open Go.RowKit Go.Mk Go.Shelf

/-- What comes: an index, and a write that is whole. -/
abbrev PdX (m : Nat) := { p : Int × Pd // p.2.ok m }
def encX {m : Nat} (x : PdX m) : Array Value := #[.int .i64 x.1.1, .agg x.1.2.cells.toArray]

set_option maxHeartbeats 400000 in
theorem backward_any (a : Option Addr) (len cap : Nat) (w : World) :
    Calls Tryz.prog 36 #[.slice a len cap] w fun e w' => e = .returned (.func (.func 75) #[] #[.pointer (some ⟨w.heap.size, 0, none⟩)]) ∧ w' = w.alloc (.cells #[.slice a len cap] 55) := by
  go_enter Tryz.func36, Tryz.ntmps36
  go_wp2
  go_ret
  exact ⟨rfl, rfl⟩

theorem rev_drop (ps : List Pd) (q : Nat) (hq : q < ps.length) : (ps.drop q).reverse = (ps.drop (q + 1)).reverse ++ [ps[q]] := by
  rw [← List.reverse_cons, ← List.drop_eq_getElem_cons hq]

set_option maxRecDepth 100000 in
set_option maxHeartbeats 2000000 in
theorem back1_in (m fu l Bs : Nat) (S0 : Nat → Prop) (g cap : Nat) (ps : List Pd) (hok : ∀ p ∈ ps, p.ok m) (hfu : 1 ≤ fu) (J Jx : List (PdX m) → World → Prop)
    (hY : ∀ pre (x : PdX m) W, J pre W → pre.length < ps.length → YieldAt Fence.wide (fu - 1) Tryz.prog l (encX x) W fun e W' =>
      (e = .returned (.bool true) ∧ J (pre ++ [x]) W' ∧ Kept S0 W W') ∨ (e = .returned (.bool false) ∧ Jx (pre ++ [x]) W'))
    (W : World) (hBs : W.cell? ⟨Bs, 0, none⟩ = some (.slice (some ⟨g, 0, none⟩) ps.length cap)) (hSb : ¬ S0 Bs) (hSg : ¬ S0 g) (hc : W.rangeAt g 0 (cellsOf ps)) (h0 : J [] W) (hlen : ps.length ≤ 1000001) :
    CallsIn Fence.wide fu Tryz.prog 75 #[.func (.yield l) #[] #[], .pointer (some ⟨Bs, 0, none⟩)] W fun e W' => (∃ v, e = .returned v) ∧
      ((∃ ys, ys.map (fun x : PdX m => x.1.2) = ps.reverse ∧ J ys W') ∨ (∃ pre, True ∧ Jx pre W')) := by
  have hro : Fence.wide.round = none := rfl
  have HOK := Lib.hid hok; have HY := Lib.hid hY; have HC := Lib.hid hc; have H0 := Lib.hid h0
  clear hok hY hc h0
  obtain ⟨_, hzs⟩ := zero_of_info Tryz.infoWrite2
  have HZS := Lib.hid hzs; clear hzs
  refine callsIn_of_wp Tryz.func75 rfl trivial ?_ hro
  simp only [Tryz.ntmps75, List.size_toArray, List.length_cons, List.length_nil, Nat.reduceAdd, Nat.reduceSub, Array.replicate_succ, Array.replicate_zero, List.push_toArray, List.append_toArray, List.nil_append, List.cons_append]
  gi_wp2
  gi_loopw [3] (fun i wr => ∃ (r : Nat) (pre : List (PdX m)), r ≤ ps.length ∧ i = .int .i64 ((r : Int) - 1) ∧ Hid (pre.map (fun x : PdX m => x.1.2) = (ps.drop r).reverse) ∧ Hid (pre.length + r = ps.length) ∧ Hid (J pre wr) ∧ Hid (Kept S0 W wr))
    (fun i _ => (intOf i + 1).toNat)
  case atStart => exact ⟨ps.length, [], Nat.le_refl _, rfl, by simp [Hid], by simp [Hid], H0, Kept.refl _ _⟩
  case round =>
    obtain ⟨r, pre, hr, rfl, hpre, hpl, hJ, hK⟩ := hrel
    cases r with
    | zero =>
      gi_wp2
      go_end0
      exact ⟨⟨_, rfl⟩, .inl ⟨pre, by simpa using hpre.out, hJ.out⟩⟩
    | succ q =>
      rw [show (((q + 1 : Nat) : Int) - 1) = (q : Int) by omega]
      have hq : q < ps.length := by omega
      have hpk := HOK.out ps[q] (by simp)
      have hcl := Pd.cells_length hpk
      have hbs : wr.cell? ⟨Bs, 0, none⟩ = some (.slice (some ⟨g, 0, none⟩) ps.length cap) := (hK.out.cell (p := ⟨Bs, 0, none⟩) (World.block_lt_of_cell? _ _ hBs) hSb).trans hBs
      have hrg : wr.rangeAt g (q * 129) ps[q].cells := fun j v hv => by
        have h1 := HC.out (q * 129 + j) v (cellsOf_get ps HOK.out q hq j v hv)
        rw [Nat.zero_add] at h1
        exact (hK.out.cell (p := ⟨g, q * 129 + j, none⟩) (World.block_lt_of_cell? _ _ h1) hSg).trans h1
      obtain ⟨fn, tmps, assign, body, hy, hR⟩ := HY.out pre ⟨((q : Int), ps[q]), hpk⟩ wr hJ.out (by have := hpl.out; omega)
      have hsz : (Tryz.prog.info? 85).map (·.size) = some ps[q].cells.length := by rw [hcl]; exact HZS.out
      have hrd := rev_drop ps q hq
      unfold encX at hy
      dsimp only at hy
      generalize hCL : ps[q].cells = CL at *
      have HRG := Lib.hid hrg; have HSZ := Lib.hid hsz; have HPK := Lib.hid hpk; have HR := Lib.hid hR; have HCL := Lib.hid hCL; have HRD := Lib.hid hrd
      clear hrg hsz hR hCL hcl hrd
      gi_wp2_with (refine wpListIn_load_mid rfl 85 (.tmp 15) rfl g (q * 129) rfl CL _ HRG.out Tryz.underlying85 rfl HSZ.out hro ?_)
      refine HR.out.mono ?_
      rintro e W3 (⟨rfl, hJ3, hk3⟩ | ⟨rfl, hJx3⟩)
      · have HJ3 := Lib.hid hJ3; have HK3 := Lib.hid hk3; clear hJ3 hk3
        gi_wp2
        go_roundw
        case rel =>
          refine ⟨q, pre ++ [⟨((q : Int), ps[q]), hpk⟩], by omega, by go_num, ?_, ?_, HJ3, Lib.hid (hK.out.trans HK3.out (fun _ _ h => h))⟩
          · show List.map _ _ = _
            rw [List.map_append, hpre.out, HRD.out]
            rfl
          · show List.length _ + _ = _
            have := hpl.out
            rw [List.length_append, List.length_singleton]
            omega
        case measure => simp [intOf]
      · have HJx3 := Lib.hid hJx3; clear hJx3
        gi_wp2
        refine bodyPost_ret (results_none rfl _ _ _) rfl ?_
        exact ⟨⟨_, rfl⟩, .inr ⟨_, trivial, HJx3.out⟩⟩

set_option maxRecDepth 100000 in
set_option maxHeartbeats 1000000 in
/-- .. at the nil slice: no round. -/
theorem back1_nil_in (fu l Bs : Nat) (R : World → Prop) (W : World) (hBs : W.cell? ⟨Bs, 0, none⟩ = some (.slice none 0 0)) (h0 : R W) :
    CallsIn Fence.wide fu Tryz.prog 75 #[.func (.yield l) #[] #[], .pointer (some ⟨Bs, 0, none⟩)] W fun e W' => (∃ v, e = .returned v) ∧ R W' := by
  have H0 := Lib.hid h0; clear h0
  refine callsIn_of_wp Tryz.func75 rfl trivial ?_ rfl
  simp only [Tryz.ntmps75, List.size_toArray, List.length_cons, List.length_nil, Nat.reduceAdd, Nat.reduceSub, Array.replicate_succ, Array.replicate_zero, List.push_toArray, List.append_toArray, List.nil_append, List.cons_append]
  gi_wp2
  gi_loopw [3] (fun i wr => i = .int .i64 (-1) ∧ Hid (R wr)) (fun _ _ => 0)
  case atStart => exact ⟨rfl, H0⟩
  case round =>
    obtain ⟨rfl, hJs⟩ := hrel
    gi_wp2
    go_end0
    exact ⟨⟨_, rfl⟩, hJs.out⟩

/-- slices.Backward over a row of pending writes: all come, the last first, if each round keeps the row. -/
theorem back_stops (m fu Bs : Nat) (S0 : Nat → Prop) (pv : Value) (ps : List Pd) (hok : ∀ p ∈ ps, p.ok m) (hfu : 1 ≤ fu) (hlen : ps.length ≤ 1000001) (w : World) (hBs : w.cell? ⟨Bs, 0, none⟩ = some pv) (hSb : ¬ S0 Bs)
    (ho : w.ownsRow 0 85 129 pv ps.length (cellsOf ps)) (hSg : ∀ g, pv.ownBlock = some g → ¬ S0 g) :
    SeqStopsK Fence.wide fu Tryz.prog 75 #[.pointer (some ⟨Bs, 0, none⟩)] (encX (m := m)) (Kept S0) (fun ys => ys.map (fun x : PdX m => x.1.2) = ps.reverse) (fun _ => True) ps.length w := fun l J Jx W hW _ _ hY h0 => by
  have hc' := (hW.cell (p := ⟨Bs, 0, none⟩) (World.block_lt_of_cell? _ _ hBs)).trans hBs
  rcases ho.2 with ⟨rfl, h00⟩ | ⟨g, cap, cur, rfl, _, hg, _⟩
  · have hp : ps = [] := List.eq_nil_of_length_eq_zero h00
    subst hp
    exact (back1_nil_in fu l Bs (J []) W hc' h0).mono fun e W' ⟨he, hj⟩ => ⟨he, .inl ⟨[], rfl, hj⟩⟩
  · refine (back1_in m fu l Bs S0 g cap ps hok hfu J Jx hY W hc' hSb (hSg g rfl) (fun j v hv => ?_) h0 hlen)
    have h1 := ho.cells rfl j v hv
    rw [Addr.add_lit] at h1
    exact (hW.cell (p := ⟨g, 0 + j, none⟩) (Array.getElem?_eq_some_iff.1 hg).1).trans h1

end Go.Proofs.YtgefbolnfenfcaaGreat
