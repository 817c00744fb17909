/-
  CONTRACT of package disk: Crash.
-/
import Derived.Test.YtgefbolnfenfcaaGreatDb
namespace Go.Proofs.YtgefbolnfenfcaaGreat
open Go.RowKit Go.Mk Go.Shelf

/-- The image behind some undone writes. -/
def backs {m : Nat} (im : List UInt8) (pre : List (PdX m)) : List UInt8 := (pre.map (fun x : PdX m => x.1.2)).foldl (fun l p => lay l p.k p.bef) im
theorem backs_snoc {m : Nat} (im : List UInt8) (pre : List (PdX m)) (x : PdX m) : backs im (pre ++ [x]) = lay (backs im pre) x.1.2.k x.1.2.bef := by simp [backs]
theorem backs_all {m : Nat} (im : List UInt8) (pre : List (PdX m)) (ps : List Pd) (h : pre.map (fun x : PdX m => x.1.2) = ps.reverse) : backs im pre = undo ps im := by
  unfold backs undo
  rw [h, List.foldl_reverse]

theorem Tryz.aggDisk : ∀ w, (isAgg 26).run Tryz.prog w = .ok false w := fun w => by unfold isAgg; rw [Sem.run_bind, run_underlying Tryz.underlying26 w]; rfl
theorem Tryz.aggInt : ∀ w, (isAgg 3).run Tryz.prog w = .ok false w := fun w => by unfold isAgg; rw [Sem.run_bind, run_underlying Tryz.underlying3 w]; rfl

set_option maxRecDepth 100000 in
set_option maxHeartbeats 4000000 in
theorem crash_any {w : World} {b gi : Nat} {tail : List Value} {im : List UInt8} {ps : List Pd} {pv : Value} {n : Nat} {calls : Int} (h : DkAt w b gi tail im ps pv n calls)
    (base : List UInt8) (hch : Chain base ps im) (hbl : base.length = 64 * n) (ao : Option Addr) (kcap : Nat) (ks : List Bool) (hL : Lies w w.heap.size ao (ks.map .bool)) (hn : ks ≠ [] → ∀ a, ao = some a → a.block ≠ gi) (torn octets : Int) (hp : ps.length ≤ 1000001) (hkl : ks.length ≤ 1000001) :
    Calls Tryz.prog 13 #[.pointer (some ⟨b, 0, none⟩), .slice ao ks.length kcap, .int .i64 torn, .int .i64 octets] w fun e w' => (∃ v, e = .returned v) ∧
      DkAt w' b gi tail (crash ks torn (octs octets) 0 (ps.map Pd.wt) base) [] (.slice none 0 0) n (-1) ∧ Kept (fun k => k = b ∨ k = gi) w w' := by
  obtain ⟨pa, pcap, rfl⟩ := h.pvs
  have hc1 := h.c1
  have hblt := h.lt
  have HB := Lib.hid (fun W => backward_any pa ps.length pcap W)
  have H := Lib.hid h; have HCH := Lib.hid hch; have HBL := Lib.hid hbl; have HL := Lib.hid hL; have HN := Lib.hid hn; have HP := Lib.hid hp; have HKL := Lib.hid hkl
  clear h hch hbl hL hn hp hkl
  refine (callsIn_wide (n := 5)).1 ?_
  refine callsIn_of_wp_marks Tryz.func13 rfl trivial ?_ rfl
  refine wpIn_wide.2 ?_
  simp only [Tryz.ntmps13, List.size_toArray, List.length_cons, List.length_nil, Nat.reduceAdd, Nat.reduceSub, Array.replicate_succ, Array.replicate_zero, List.push_toArray, List.append_toArray, List.nil_append, List.cons_append]
  go_wp2_with fail
  refine (HB.out _).mono ?_
  rintro e w1 ⟨rfl, hw⟩
  subst w1
  go_wp2_with fail
  -- for _, w := range slices.Backward(d.pending)
  have hk0 : Kept (fun _ => False) w ((w.alloc (.cells #[.pointer (some ⟨b, 0, none⟩)] 26)).alloc (.cells #[.slice pa ps.length pcap] 55)) := ((Kept.refl _ w).alloc _).alloc _
  have hsz0 : ((w.alloc (.cells #[.pointer (some ⟨b, 0, none⟩)] 26)).alloc (.cells #[.slice pa ps.length pcap] 55)).heap.size = w.heap.size + 2 := by simp
  have hcd : ((w.alloc (.cells #[.pointer (some ⟨b, 0, none⟩)] 26)).alloc (.cells #[.slice pa ps.length pcap] 55)).cell? ⟨w.heap.size, 0, none⟩ = some (.pointer (some ⟨b, 0, none⟩)) := by
    rw [World.cell?_alloc_lt _ _ _ (by simp)]
    exact World.cell?_alloc_new w _ _ 0
  have hcs : ((w.alloc (.cells #[.pointer (some ⟨b, 0, none⟩)] 26)).alloc (.cells #[.slice pa ps.length pcap] 55)).cell? ⟨w.heap.size + 1, 0, none⟩ = some (.slice pa ps.length pcap) := by
    have := World.cell?_alloc_new (w.alloc (.cells #[.pointer (some ⟨b, 0, none⟩)] 26)) #[.slice pa ps.length pcap] 55 0
    rw [World.size_alloc] at this
    exact this
  have hx0 := H.out.kept hk0 (fun h => h) (fun h => h) (fun _ _ h => h)
  generalize ((w.alloc (.cells #[.pointer (some ⟨b, 0, none⟩)] 26)).alloc (.cells #[.slice pa ps.length pcap] 55)) = W0 at hk0 hsz0 hcd hcs hx0 ⊢
  have hgi := H.out.lt2
  have hpl : ∀ g, (Value.slice pa ps.length pcap).ownBlock = some g → g < w.heap.size ∧ g ≠ b ∧ g ≠ gi := fun g hg => ⟨(owns_lt H.out.own g hg).2, H.out.ne2 g hg⟩
  obtain ⟨hzv, hzs⟩ := zero_of_info Tryz.infoWrite2
  have hs0 := zc_size 0
  generalize zc 0 = z0 at hzv hs0
  have HZ := Lib.hid hzv; have HZS := Lib.hid hzs; have HS0 := Lib.hid hs0; have HPL := Lib.hid hpl
  clear hzv hzs hs0 hpl
  refine (wpIn_wide (n := 4)).1 ?_
  refine wpIn_rangeFunc_ownH (P := Tryz.prog) (F := Fence.wide) (n := 4) rfl (by omega) (gf := 75) (lb := #[.pointer (some ⟨w.heap.size + 1, 0, none⟩)]) rfl trivial (enters_of Tryz.func75 (by kernel_rfl) rfl)
    (Kp := Kept (fun k => k = gi ∨ w.heap.size + 2 ≤ k)) (back_stops n 3 (w.heap.size + 1) (fun k => k = gi ∨ w.heap.size + 2 ≤ k) (.slice pa ps.length pcap) ps H.out.ok (by omega) HP.out W0 hcs (by omega) hx0.own (fun g hg => by have := HPL.out g hg; omega))
    (fun h k => h.trans k (fun _ _ h => h)) (fun W l o o' hl _ _ _ => (Kept.refl _ W).grown (grownBy_putObj' W l o') (fun k hk _ => by cases hk; right; omega)) (Below.refl _ _) (fun _ => rfl)
    (fun pre W => DkAt W b gi tail (backs im pre) ps (.slice pa ps.length pcap) n calls ∧ W.cell? ⟨w.heap.size, 0, none⟩ = some (.pointer (some ⟨b, 0, none⟩)) ∧ Kept (fun k => k = gi ∨ w.heap.size ≤ k) w W ∧ w.heap.size + 2 ≤ W.heap.size)
    (fun _ _ _ => False) ?own (fun _ _ _ _ _ hs _ _ => hs) ⟨hx0, hcd, hk0.mono (fun _ _ h => h.elim), by omega⟩
    (fun x a' W => ∃ Bx, w.heap.size + 2 ≤ Bx ∧ W.heap[Bx]? = some (.cells x.1.2.cells.toArray 85 (0, 0)) ∧ a' = { tmps := #[.pointer (some ⟨b, 0, none⟩), .slice ao ks.length kcap, .int .i64 torn, .int .i64 octets, .pointer (some ⟨w.heap.size, 0, none⟩), undef, undef, undef, undef, .pointer (some ⟨Bx, 0, none⟩), undef, undef, .pointer (some ⟨b, 0, none⟩), .pointer (some ⟨b, 0, none⟩), .pointer (some ⟨b, 1, none⟩), .slice pa ps.length pcap, .func (.func 75) #[] #[.pointer (some ⟨w.heap.size + 1, 0, none⟩)], .int .i64 x.1.1, .agg x.1.2.cells.toArray, undef, undef, undef, undef, undef, undef, undef, undef, undef, undef, undef, undef, undef, undef, undef, undef, undef, undef, undef, undef, undef, undef, undef, undef, undef, undef, undef, undef, undef, undef, undef, undef, undef, undef, undef, undef, undef, undef, undef, undef, undef, undef, undef, undef, undef, undef, undef, undef, undef, undef, undef, undef, undef, undef, undef, undef], defers := [] })
    ?ownx ?assign ?body ?done ?stop
  case own =>
    rintro pre A B row ⟨h1, h2, h3, h4⟩ hg hr
    have kr : Kept (fun k => row = some k) A B := (Kept.refl _ A).grown hg (fun k hk _ => hk)
    have hlt := h1.lt
    refine ⟨h1.kept kr (fun e => ?_) (fun e => ?_) (fun g hg e => ?_), (kr.cell (p := ⟨w.heap.size, 0, none⟩) (World.block_lt_of_cell? _ _ h2) (fun e => ?_)).trans h2, h3.trans kr (fun i hi e => ?_), Nat.le_trans h4 kr.size⟩
    · have := (hr _ e).1; omega
    · have := (hr _ e).1; omega
    · have := (hr _ e).1; have := HPL.out g hg; omega
    · have := (hr _ e).1; simp at this; omega
    · have := (hr _ e).1; omega
  case ownx =>
    rintro x a' _ A B row ⟨Bx, hB, hh, ha⟩ hg hr
    refine ⟨Bx, hB, ?_, ha⟩
    have kr : Kept (fun k => row = some k) A B := (Kept.refl _ A).grown hg (fun k hk _ => hk)
    rw [kr.block Bx (Array.getElem?_eq_some_iff.1 hh).1 (fun e => ?_)]
    · exact hh
    · obtain ⟨_, o, ho, hc⟩ := hr _ e
      rw [hh] at ho
      cases ho
      simp [Obj.isCells] at hc
  case assign =>
    rintro l pre x W K ⟨h1, h2, h3, h4⟩ hK
    have hok := Pd.cells_length x.2
    have hszx : (Tryz.prog.info? 85).map (·.size) = some x.1.2.cells.toArray.size := by rw [List.size_toArray, hok]; exact HZS.out
    have hszz : z0.size = x.1.2.cells.toArray.size := by rw [HS0.out, List.size_toArray, hok]
    have hone : x.1.2.cells.toArray.all (·.oneCell') = true := all_oneCell_toArray (Pd.cells_one _)
    unfold encX
    go_simp
    have H1 := Lib.hid h1; have H2 := Lib.hid h2; have H3 := Lib.hid h3; have HKK := Lib.hid hK; have HSX := Lib.hid hszx; have HSZ := Lib.hid hszz; have HONE := Lib.hid hone
    clear h1 h2 h3 hK hszx hszz hone hok
    gi_wp2_with (first
      | refine wpListIn_alloc_row rfl 85 rfl z0 HZ.out ?_
      | refine wpListIn_store_new rfl 85 (.tmp 9) (.tmp 18) rfl x.1.2.cells.toArray z0 rfl rfl HSX.out HSZ.out HONE.out ?_)
    exact HKK.out _ _ ((KeepsOthers.alloc _ _).from _) ((Kept.refl _ W).alloc _) ⟨H1.out.kept ((Kept.refl (fun _ => False) W).alloc _) (fun h => h) (fun h => h) (fun _ _ h => h), by rw [World.cell?_alloc_lt _ _ _ (World.block_lt_of_cell? _ _ H2.out)]; exact H2.out, H3.out.alloc _, by simp; omega⟩ ⟨W.heap.size, h4, heap_alloc_new _ _, rfl⟩
  case body =>
    rintro l pre x a' W hl _ ⟨h1, h2, h3, h4⟩ ⟨Bx, hBx, hxb, rfl⟩ hlt
    have hxk : W.drew.cell? ⟨Bx, 0, none⟩ = some (.int .i64 x.1.2.k) := cell_of_row W.drew Bx 0 _ _ _ hxb
    have hx1 : DkAt W.drew b gi tail (backs im pre) ps (.slice pa ps.length pcap) n calls := h1.kept (S := fun _ => False) (Kept.drew (Kept.refl _ W)) (fun h => h) (fun h => h) (fun _ _ h => h)
    have hsec := sector_any hx1 x.1.2.k x.2.1
    have hsrc : ∀ j v, (x.1.2.bef.map bv)[j]? = some v → W.drew.cell? ((⟨Bx, 1, none⟩ : Addr).add j) = some v := by
      intro j v hv
      rw [Addr.add_lit, Nat.add_comm 1 j]
      rw [cell_of_row W.drew Bx (j + 1) _ _ _ hxb]
      simp only [Pd.cells, List.getElem?_toArray, List.getElem?_cons_succ]
      rw [List.getElem?_append_left (List.getElem?_eq_some_iff.1 hv).1]
      exact hv
    have hlenb : (x.1.2.bef.map bv).length = Nat.min 64 64 := by rw [List.length_map, x.2.2.1]; rfl
    have hfit : 64 * x.1.2.k + (x.1.2.bef.map bv).length ≤ ((backs im pre).map bv ++ tail).length := by
      have := h1.len
      have := x.2.1
      rw [hlenb, List.length_append, List.length_map]
      simp
      omega
    have HXK := Lib.hid hxk; have HX1 := Lib.hid hx1; have HSEC := Lib.hid hsec; have HSRC := Lib.hid hsrc; have HLENB := Lib.hid hlenb; have HFIT := Lib.hid hfit; have H2 := Lib.hid (show W.drew.cell? ⟨w.heap.size, 0, none⟩ = some (.pointer (some ⟨b, 0, none⟩)) from h2); have H3 := Lib.hid h3
    have HXB := Lib.hid hxb
    clear hxk hx1 hsec hsrc hlenb hfit h2 h3 h1 hxb hlt
    refine wpIn_block ?_
    refine wpIn_region_round l _ (by rintro ⟨a, w, h⟩; exact h) (by kernel_rfl) (by kernel_rfl) ?_
    change wpAny _ _ _ _ _ _ _ (World.drew _)
    refine wpAny_take (i := 1) (oi := { dst := some 20, op := .fieldAddr 85 (.tmp 9) 0, type := _, pos := _, after := _, guard := none }) (v := .pointer (some ⟨Bx, 0, none⟩)) rfl (by kernel_rfl) (by kernel_rfl) (by kernel_rfl) (fun _ _ _ h => h) (Or.inl ⟨by rfl, by intro w; go_simp⟩) ?_; simp only [Act.put, List.setIfInBounds_toArray, List.set_cons_zero, List.set_cons_succ]
    refine wpAny_take (i := 4) (oi := { dst := some 23, op := .fieldAddr 85 (.tmp 9) 1, type := _, pos := _, after := _, guard := none }) (v := .pointer (some ⟨Bx, 1, none⟩)) rfl (by kernel_rfl) (by kernel_rfl) (by kernel_rfl) (fun _ _ _ h => h) (Or.inl ⟨by rfl, by intro w; go_simp⟩) ?_; simp only [Act.put, List.setIfInBounds_toArray, List.set_cons_zero, List.set_cons_succ]
    refine wpAny_take (i := 5) (oi := { dst := some 24, op := .slice 83 (.tmp 23) none none none, type := _, pos := _, after := _, guard := none }) (v := .slice (some ⟨Bx, 1, none⟩) 64 64) rfl (by kernel_rfl) (by kernel_rfl) (by kernel_rfl) (fun _ _ _ h => h) (Or.inl ⟨by rfl, by intro w; go_simp⟩) ?_; simp only [Act.put, List.setIfInBounds_toArray, List.set_cons_zero, List.set_cons_succ]
    refine wpAny_ready (rs := [0, 2]) (by kernel_rfl) (by simp) ?_; refine (AllReady.cons (o := { dst := some 19, op := .load 26 (.tmp 4), type := _, pos := _, after := _, guard := none }) rfl (fun K hK => ?_) (AllReady.cons (o := { dst := some 21, op := .load 3 (.tmp 20), type := _, pos := _, after := _, guard := none }) rfl (fun K hK => ?_) AllReady.nil))
    refine step_load_one rfl 26 (.tmp 4) rfl ⟨w.heap.size, 0, none⟩ rfl (.pointer (some ⟨b, 0, none⟩)) H2.out Tryz.aggDisk ?_; refine hK _ _ ?_; clear hK K; simp only [Act.put, List.setIfInBounds_toArray, List.set_cons_zero, List.set_cons_succ]; refine wpAny_ready (rs := [2]) (by kernel_rfl) (by simp) ?_; refine (AllReady.cons (o := { dst := some 21, op := .load 3 (.tmp 20), type := _, pos := _, after := _, guard := none }) rfl (fun K hK => ?_) AllReady.nil); refine step_load_one rfl 3 (.tmp 20) rfl ⟨Bx, 0, none⟩ rfl (.int .i64 x.1.2.k) HXK.out Tryz.aggInt ?_; refine hK _ _ ?_; clear hK K; simp only [Act.put, List.setIfInBounds_toArray, List.set_cons_zero, List.set_cons_succ]
    rotate_left
    refine step_load_one rfl 3 (.tmp 20) rfl ⟨Bx, 0, none⟩ rfl (.int .i64 x.1.2.k) HXK.out Tryz.aggInt ?_; refine hK _ _ ?_; clear hK K; simp only [Act.put, List.setIfInBounds_toArray, List.set_cons_zero, List.set_cons_succ]; refine wpAny_ready (rs := [0]) (by kernel_rfl) (by simp) ?_; refine (AllReady.cons (o := { dst := some 19, op := .load 26 (.tmp 4), type := _, pos := _, after := _, guard := none }) rfl (fun K hK => ?_) AllReady.nil); refine step_load_one rfl 26 (.tmp 4) rfl ⟨w.heap.size, 0, none⟩ rfl (.pointer (some ⟨b, 0, none⟩)) H2.out Tryz.aggDisk ?_; refine hK _ _ ?_; clear hK K; simp only [Act.put, List.setIfInBounds_toArray, List.set_cons_zero, List.set_cons_succ]
    all_goals
      refine wpAny_ready (rs := [3]) (by kernel_rfl) (by simp) ?_; refine (AllReady.cons (o := { dst := some 22, op := .call { callee := .value (.func 37), args := #[.tmp 19, .tmp 21], argTypes := #[26, 3] }, type := _, pos := _, after := _, guard := none }) rfl (fun K hK => ?_) AllReady.nil)
      refine step_call2 rfl 37 (.tmp 19) (.tmp 21) #[26, 3] rfl (enters_of Tryz.func37 (by kernel_rfl) rfl) (.pointer (some ⟨b, 0, none⟩)) (.int .i64 x.1.2.k) rfl rfl _ (fun w' => w' = W.drew) HSEC.out ?_
      intro w1 hw
      subst w1
      refine hK _ _ ?_; clear hK K; simp only [Act.put, List.setIfInBounds_toArray, List.set_cons_zero, List.set_cons_succ]
      refine wpAny_ready (rs := [6]) (by kernel_rfl) (by simp) ?_; refine (AllReady.cons (o := { dst := some 25, op := .call { callee := .builtin .copy, args := #[.tmp 22, .tmp 24], argTypes := #[34, 34] }, type := _, pos := _, after := _, guard := none }) rfl (fun K hK => ?_) AllReady.nil)
      refine step_copy_kept rfl (.tmp 22) (.tmp 24) 34 34 rfl 5 Tryz.underlying34 Tryz.sizeByte (some ⟨gi, 64 * x.1.2.k, none⟩) (some ⟨Bx, 1, none⟩) 64 _ 64 64 rfl rfl gi (64 * x.1.2.k) ((backs im pre).map bv ++ tail) 5 HX1.out.img (x.1.2.bef.map bv) HLENB.out (fun _ => ⟨rfl, _, rfl, HSRC.out⟩) HFIT.out (bv_one _) ?_
      intro w2 hg2 hk2
      refine hK _ _ ?_; clear hK K; simp only [Act.put, List.setIfInBounds_toArray, List.set_cons_zero, List.set_cons_succ]
      refine wpAny_done (by kernel_rfl) ?_ _
      have kd : Kept (fun k => k = gi) W w2 := (Kept.drew (Kept.refl (fun k => k = gi) W)).trans hk2.out (fun _ _ h => h)
      have hgi' : gi < W0.heap.size := by omega
      refine ⟨keepsFrom_of_kept kd (fun k hk => by omega), kd.mono (fun _ _ h => .inl h), ?_, (hk2.out.cell (p := ⟨w.heap.size, 0, none⟩) (World.block_lt_of_cell? _ _ H2.out) (by show ¬ w.heap.size = gi; omega)).trans H2.out, H3.out.trans kd (fun _ _ h => .inl h), Nat.le_trans h4 kd.size⟩
      rw [backs_snoc]
      exact HX1.out.setSec x.1.2.k x.2.1 x.1.2.bef (by rw [x.2.2.1]; exact Nat.le_refl _) hk2.out hg2.out
  case done =>
    rintro D xs W hD hS ⟨h1, h2, h3, h4⟩ hK
    rw [backs_all im xs ps hS, HCH.out.undo HBL.out H.out.ok] at h1
    have hc1W := h1.c1
    have hfin : crash ks torn (octs octets) 0 ((ps.map Pd.wt).drop 0) base = crash ks torn (octs octets) 0 (ps.map Pd.wt) base := by simp
    have HFIN := Lib.hid hfin; have H1 := Lib.hid h1; have H2 := Lib.hid h2; have H3 := Lib.hid h3; have HKD := Lib.hid hK
    clear hfin h1 h3 hK
    go_wp2_with fail
    go_loopw [31] (fun v wr => ∃ (j : Nat) (cur : List UInt8), j ≤ ps.length ∧ v = .int .i64 j ∧ Hid (DkAt wr b gi tail cur ps (.slice pa ps.length pcap) n calls) ∧ Hid (crash ks torn (octs octets) j ((ps.map Pd.wt).drop j) cur = crash ks torn (octs octets) 0 (ps.map Pd.wt) base) ∧ Hid (Kept (fun k => k = gi) W wr))
      (fun v _ => ps.length - (intOf v).toNat)
    case atStart => exact ⟨0, base, Nat.zero_le _, rfl, H1, HFIN, Lib.hid (Kept.refl _ _)⟩
    case round =>
      obtain ⟨j, cur, hj, rfl, hx, hf, hk⟩ := hrel
      by_cases hlt : j < ps.length
      · have hok := hx.out.ok ps[j] (by simp)
        obtain ⟨g, hpa, hrange⟩ : ∃ g, pa = some ⟨g, 0, none⟩ ∧ wr.rangeAt g (j * 129) ps[j].cells := by
          rcases hx.out.own.2 with ⟨_, h00⟩ | ⟨g, c, cr, hv, _⟩
          · omega
          · cases hv
            refine ⟨g, rfl, fun q v hv => ?_⟩
            have := hx.out.own.cells rfl (j * 129 + q) v (cellsOf_get ps hx.out.ok j hlt q v hv)
            rw [Addr.add_lit, Nat.zero_add] at this
            exact this
        subst hpa
        have hcl := Pd.cells_length hok
        have hdrop : (ps.map Pd.wt).drop j = ps[j].wt :: (ps.map Pd.wt).drop (j + 1) := by
          rw [List.drop_eq_getElem_cons (by simpa using hlt)]
          simp
        have hstep := hf.out
        rw [hdrop, crash] at hstep
        generalize hp : ps[j] = p at *
        have hszx : (Tryz.prog.info? 85).map (·.size) = some p.cells.toArray.size := by rw [List.size_toArray, hcl]; exact HZS.out
        have hszl : (Tryz.prog.info? 85).map (·.size) = some p.cells.length := by rw [hcl]; exact HZS.out
        have hszz : z0.size = p.cells.toArray.size := by rw [HS0.out, List.size_toArray, hcl]
        have hone : p.cells.toArray.all (·.oneCell') = true := all_oneCell_toArray (Pd.cells_one _)
        have HOK := Lib.hid hok; have HRG := Lib.hid hrange; have HSX := Lib.hid hszx; have HSL := Lib.hid hszl; have HSZ := Lib.hid hszz; have HONE := Lib.hid hone; have HSTEP := Lib.hid hstep
        clear hok hrange hszx hszl hszz hone hcl hdrop hstep
        -- what the cases want of the world behind 'w := pending[k]'
        obtain ⟨Bx, hBx⟩ : ∃ Bx, wr.heap.size = Bx := ⟨_, rfl⟩
        obtain ⟨W1, hW1⟩ : ∃ W1, wr.alloc (.cells p.cells.toArray 85) = W1 := ⟨_, rfl⟩
        have hw1 : Kept (fun k => k = gi) wr W1.drew := by rw [← hW1]; exact Kept.drew ((Kept.refl _ wr).alloc _)
        have hxb : W1.drew.heap[Bx]? = some (.cells p.cells.toArray 85 (0, 0)) := by rw [← hW1, ← hBx]; exact heap_alloc_new _ _
        have hx1 : DkAt W1.drew b gi tail cur ps (.slice (some ⟨g, 0, none⟩) ps.length pcap) n calls := by
          rw [← hW1]
          exact hx.out.kept (S := fun _ => False) (Kept.drew ((Kept.refl _ wr).alloc _)) (fun h => h) (fun h => h) (fun _ _ h => h)
        have hbox0 : wr.cell? ⟨w.heap.size, 0, none⟩ = some (.pointer (some ⟨b, 0, none⟩)) := (hk.out.cell (p := ⟨w.heap.size, 0, none⟩) (World.block_lt_of_cell? _ _ H2.out) (by show ¬ w.heap.size = gi; omega)).trans H2.out
        have hbox : W1.drew.cell? ⟨w.heap.size, 0, none⟩ = some (.pointer (some ⟨b, 0, none⟩)) := (hw1.cell (p := ⟨w.heap.size, 0, none⟩) (World.block_lt_of_cell? _ _ hbox0) (by show ¬ w.heap.size = gi; omega)).trans hbox0
        have hxk : W1.drew.cell? ⟨Bx, 0, none⟩ = some (.int .i64 p.k) := cell_of_row W1.drew Bx 0 _ _ _ hxb
        have hsec := sector_any hx1 p.k HOK.out.1
        have hsrcA : ∀ q v, (p.aft.map bv)[q]? = some v → W1.drew.cell? ((⟨Bx, 65, none⟩ : Addr).add q) = some v := by
          intro q v hv
          have hb64 := HOK.out.2.1
          rw [Addr.add_lit, show 65 + q = (64 + q) + 1 by omega, cell_of_row W1.drew Bx (64 + q + 1) _ _ _ hxb]
          simp only [Pd.cells, List.getElem?_toArray, List.getElem?_cons_succ]
          rw [List.getElem?_append_right (by rw [List.length_map, hb64]; omega), List.length_map, hb64, show 64 + q - 64 = q by omega]
          exact hv
        have hoc : min (max octets 0) 64 = ((octs octets : Nat) : Int) := by unfold octs; omega
        have hocl := octs_le octets
        have hocl2 : ((octs octets : Nat) : Int) ≤ 64 := by omega
        have hal := HOK.out.2.2
        have hcl := hx1.len
        have hkn := HOK.out.1
        have HW1 := Lib.hid hw1; have HX1 := Lib.hid hx1; have HBOX := Lib.hid hbox; have HXK := Lib.hid hxk; have HSEC := Lib.hid hsec; have HOC := Lib.hid hoc
        clear hw1 hx1 hbox hxk hsec hoc hbox0 hxb
        subst hBx hW1
        have HLT := Lib.hid hlt
        have hps := HP.out
        by_cases ht : (j : Int) = torn
        · have hs1 : crash1 ks torn (octs octets) j p.wt cur = lay cur p.k (p.aft.take (octs octets)) := by unfold crash1; rw [if_pos ht]; rfl
          rw [hs1] at HSTEP
          obtain ⟨CP, hCP⟩ : ∃ CP, p.aft.take (octs octets) = CP := ⟨_, rfl⟩
          rw [hCP] at HSTEP
          have hcpl : CP.length = octs octets := by rw [← hCP, List.length_take, hal]; omega
          obtain ⟨SV, hSV⟩ : ∃ SV, CP.map bv = SV := ⟨_, rfl⟩
          have hlens : SV.length = Nat.min (octs octets) 64 := by rw [← hSV, List.length_map, hcpl]; exact (Nat.min_eq_left hocl).symm
          have hsrc : ∀ q v, SV[q]? = some v → (wr.alloc (.cells p.cells.toArray 85)).drew.cell? ((⟨wr.heap.size, 65, none⟩ : Addr).add q) = some v := by
            intro q v hv
            refine hsrcA q v ?_
            rw [← hSV, ← hCP, List.map_take, List.getElem?_take] at hv
            split at hv
            · exact hv
            · cases hv
          have hfit : 64 * p.k + SV.length ≤ (cur.map bv ++ tail).length := by
            rw [← hSV, List.length_map, hcpl, List.length_append, List.length_map]
            omega
          have hcp : CP.length ≤ 64 := by omega
          have hone2 : ∀ v ∈ SV, v.oneCell' = true := by rw [← hSV]; exact bv_one _
          have HSV := Lib.hid hSV; have HLENS := Lib.hid hlens; have HSRC := Lib.hid hsrc; have HFIT := Lib.hid hfit; have HCP := Lib.hid hcp; have HONE2 := Lib.hid hone2
          clear hSV hlens hsrc hfit hcp hone2 hsrcA hs1 hCP hcpl
          subst ht
          go_wp2_with (first
            | refine wpList_load_mid rfl 85 (.tmp 34) rfl g (j * 129) rfl p.cells _ HRG.out Tryz.underlying85 rfl HSL.out ?_
            | refine wpList_alloc_row rfl 85 rfl z0 HZ.out ?_
            | refine wpList_store_new rfl 85 (.tmp 11) (.tmp 35) rfl p.cells.toArray z0 rfl rfl HSX.out HSZ.out HONE.out ?_)
          go_simp
          refine wp_onlyN ?_
          refine wp_region_any (by kernel_rfl) ?_
          change wpAny _ _ _ _ _ _ _ (World.drew _)
          refine wpAny_take (i := 1) (oi := { dst := some 41, op := .fieldAddr 85 (.tmp 11) 0, type := _, pos := _, after := _, guard := none }) (v := .pointer (some ⟨wr.heap.size, 0, none⟩)) rfl (by kernel_rfl) (by kernel_rfl) (by kernel_rfl) (fun _ _ _ h => h) (Or.inl ⟨by rfl, by intro w; go_simp⟩) ?_; simp only [Act.put, List.setIfInBounds_toArray, List.set_cons_zero, List.set_cons_succ]
          refine wpAny_take (i := 4) (oi := { dst := some 44, op := .fieldAddr 85 (.tmp 11) 2, type := _, pos := _, after := _, guard := none }) (v := .pointer (some ⟨wr.heap.size, 65, none⟩)) rfl (by kernel_rfl) (by kernel_rfl) (by kernel_rfl) (fun _ _ _ h => h) (Or.inl ⟨by rfl, by intro w; go_simp⟩) ?_; simp only [Act.put, List.setIfInBounds_toArray, List.set_cons_zero, List.set_cons_succ]
          refine wpAny_take (i := 5) (oi := { dst := some 45, op := .move (.tmp 3), type := _, pos := _, after := _, guard := none }) (v := .int .i64 octets) rfl (by kernel_rfl) (by kernel_rfl) (by kernel_rfl) (fun _ _ _ h => h) (Or.inl ⟨by rfl, by intro w; go_simp⟩) ?_; simp only [Act.put, List.setIfInBounds_toArray, List.set_cons_zero, List.set_cons_succ]
          refine wpAny_take (i := 6) (oi := { dst := some 46, op := .call { callee := .builtin .max, args := #[.tmp 45, .const (.int .i64 0)], argTypes := #[3, 3] }, type := _, pos := _, after := _, guard := none }) (v := .int .i64 (max octets 0)) rfl (by kernel_rfl) (by kernel_rfl) (by kernel_rfl) (fun _ _ _ h => h) (yields_max rfl (.tmp 45) (.const (.int .i64 0)) #[3, 3] rfl octets 0 _ rfl rfl rfl) ?_; simp only [Act.put, List.setIfInBounds_toArray, List.set_cons_zero, List.set_cons_succ]
          refine wpAny_take (i := 7) (oi := { dst := some 47, op := .call { callee := .builtin .min, args := #[.tmp 46, .const (.int .i64 64)], argTypes := #[3, 3] }, type := _, pos := _, after := _, guard := none }) (v := .int .i64 (octs octets : Nat)) rfl (by kernel_rfl) (by kernel_rfl) (by kernel_rfl) (fun _ _ _ h => h) (yields_min rfl (.tmp 46) (.const (.int .i64 64)) #[3, 3] rfl (max octets 0) 64 _ rfl rfl HOC.out) ?_; simp only [Act.put, List.setIfInBounds_toArray, List.set_cons_zero, List.set_cons_succ]
          refine wpAny_take (i := 8) (oi := { dst := some 48, op := .slice 83 (.tmp 44) none (some (.tmp 47)) none, type := _, pos := _, after := _, guard := none }) (v := .slice (some ⟨wr.heap.size, 65, none⟩) (octs octets) 64) rfl (by kernel_rfl) (by kernel_rfl) (by kernel_rfl) (fun _ _ _ h => h) (Or.inl ⟨by rfl, by intro w; go_simp⟩) ?_; simp only [Act.put, List.setIfInBounds_toArray, List.set_cons_zero, List.set_cons_succ]
          refine wpAny_ready (rs := [0, 2]) (by kernel_rfl) (by simp) ?_; refine (AllReady.cons (o := { dst := some 40, op := .load 26 (.tmp 4), type := _, pos := _, after := _, guard := none }) rfl (fun K hK => ?_) (AllReady.cons (o := { dst := some 42, op := .load 3 (.tmp 41), type := _, pos := _, after := _, guard := none }) rfl (fun K hK => ?_) AllReady.nil))
          refine step_load_one rfl 26 (.tmp 4) rfl ⟨w.heap.size, 0, none⟩ rfl (.pointer (some ⟨b, 0, none⟩)) HBOX.out Tryz.aggDisk ?_; refine hK _ _ ?_; clear hK K; simp only [Act.put, List.setIfInBounds_toArray, List.set_cons_zero, List.set_cons_succ]; refine wpAny_ready (rs := [2]) (by kernel_rfl) (by simp) ?_; refine (AllReady.cons (o := { dst := some 42, op := .load 3 (.tmp 41), type := _, pos := _, after := _, guard := none }) rfl (fun K hK => ?_) AllReady.nil); refine step_load_one rfl 3 (.tmp 41) rfl ⟨wr.heap.size, 0, none⟩ rfl (.int .i64 p.k) HXK.out Tryz.aggInt ?_; refine hK _ _ ?_; clear hK K; simp only [Act.put, List.setIfInBounds_toArray, List.set_cons_zero, List.set_cons_succ]
          rotate_left
          refine step_load_one rfl 3 (.tmp 41) rfl ⟨wr.heap.size, 0, none⟩ rfl (.int .i64 p.k) HXK.out Tryz.aggInt ?_; refine hK _ _ ?_; clear hK K; simp only [Act.put, List.setIfInBounds_toArray, List.set_cons_zero, List.set_cons_succ]; refine wpAny_ready (rs := [0]) (by kernel_rfl) (by simp) ?_; refine (AllReady.cons (o := { dst := some 40, op := .load 26 (.tmp 4), type := _, pos := _, after := _, guard := none }) rfl (fun K hK => ?_) AllReady.nil); refine step_load_one rfl 26 (.tmp 4) rfl ⟨w.heap.size, 0, none⟩ rfl (.pointer (some ⟨b, 0, none⟩)) HBOX.out Tryz.aggDisk ?_; refine hK _ _ ?_; clear hK K; simp only [Act.put, List.setIfInBounds_toArray, List.set_cons_zero, List.set_cons_succ]
          all_goals
            refine wpAny_ready (rs := [3]) (by kernel_rfl) (by simp) ?_; refine (AllReady.cons (o := { dst := some 43, op := .call { callee := .value (.func 37), args := #[.tmp 40, .tmp 42], argTypes := #[26, 3] }, type := _, pos := _, after := _, guard := none }) rfl (fun K hK => ?_) AllReady.nil)
            refine step_call2 rfl 37 (.tmp 40) (.tmp 42) #[26, 3] rfl (enters_of Tryz.func37 (by kernel_rfl) rfl) (.pointer (some ⟨b, 0, none⟩)) (.int .i64 p.k) rfl rfl _ (fun w1 => w1 = (wr.alloc (.cells p.cells.toArray 85)).drew) HSEC.out ?_
            intro w2 hw
            subst w2
            refine hK _ _ ?_; clear hK K; simp only [Act.put, List.setIfInBounds_toArray, List.set_cons_zero, List.set_cons_succ]
            refine wpAny_ready (rs := [9]) (by kernel_rfl) (by simp) ?_; refine (AllReady.cons (o := { dst := some 49, op := .call { callee := .builtin .copy, args := #[.tmp 43, .tmp 48], argTypes := #[34, 34] }, type := _, pos := _, after := _, guard := none }) rfl (fun K hK => ?_) AllReady.nil)
            refine step_copy_kept rfl (.tmp 43) (.tmp 48) 34 34 rfl 5 Tryz.underlying34 Tryz.sizeByte (some ⟨gi, 64 * p.k, none⟩) (some ⟨wr.heap.size, 65, none⟩) 64 _ (octs octets) 64 rfl rfl gi (64 * p.k) (cur.map bv ++ tail) 5 HX1.out.img SV HLENS.out (fun _ => ⟨rfl, _, rfl, HSRC.out⟩) HFIT.out HONE2.out ?_
            intro w2 hg2 hk2
            refine hK _ _ ?_; clear hK K; simp only [Act.put, List.setIfInBounds_toArray, List.set_cons_zero, List.set_cons_succ]
            refine wpAny_done (by kernel_rfl) ?_ _
            unfold onlyN
            have hx2 := HX1.out.setSec p.k HOK.out.1 CP HCP.out hk2.out (by rw [HSV.out]; exact hg2.out)
            have HX2 := Lib.hid hx2; have HK2 := Lib.hid (hk.out.trans (HW1.out.trans hk2.out (S := fun k => k = gi) (fun _ _ h => h)) (S := fun k => k = gi) (fun _ _ h => h)); clear hx2 hg2 hk2
            go_wp2
            go_roundw
            case rel => exact ⟨j + 1, _, HLT.out, by go_num, HX2, Lib.hid HSTEP.out, HK2⟩
            case measure => have := HLT.out; simp [intOf]; omega
        · have htb : ((j : Int) == torn) = false := by simpa using ht
          by_cases hjk : j < ks.length
          · -- keep[k]
            obtain ⟨kb, ko, rfl, hkb, hkc⟩ := HL.out (by intro h; rw [List.map_eq_nil_iff] at h; rw [h] at hjk; simp at hjk)
            have hkg := HN.out (by intro h; rw [h] at hjk; simp at hjk) _ rfl
            have hkc0 := hkc j (.bool ks[j]) (by simp [hjk])
            have hkcW := (H3.out.cell (p := ⟨kb, ko + j, none⟩) hkb (by show ¬ (kb = gi ∨ w.heap.size ≤ kb); simp only at hkg; omega)).trans hkc0
            have hkcr := (hk.out.cell (p := ⟨kb, ko + j, none⟩) (World.block_lt_of_cell? _ _ hkcW) (by exact hkg)).trans hkcW
            have hkc1 : (wr.alloc (.cells p.cells.toArray 85)).cell? ⟨kb, ko + j, none⟩ = some (.bool ks[j]) := by rw [World.cell?_alloc_lt _ _ _ (World.block_lt_of_cell? _ _ hkcr)]; exact hkcr
            have hgk : ks[j]? = some ks[j] := List.getElem?_eq_getElem hjk
            clear hkc hkc0 hkcW hkcr hkb
            cases hkj : ks[j] with
            | true =>
              rw [hkj] at hkc1 hgk
              have hs1 : crash1 ks torn (octs octets) j p.wt cur = lay cur p.k p.aft := by unfold crash1; rw [if_neg ht, if_pos hgk]; rfl
              rw [hs1] at HSTEP
              obtain ⟨CP, hCP⟩ : ∃ CP, p.aft = CP := ⟨_, rfl⟩
              rw [hCP] at HSTEP
              have hcpl : CP.length = 64 := by rw [← hCP, hal]
              obtain ⟨SV, hSV⟩ : ∃ SV, CP.map bv = SV := ⟨_, rfl⟩
              have hlens : SV.length = Nat.min 64 64 := by rw [← hSV, List.length_map, hcpl]; rfl
              have hsrc : ∀ q v, SV[q]? = some v → (wr.alloc (.cells p.cells.toArray 85)).drew.cell? ((⟨wr.heap.size, 65, none⟩ : Addr).add q) = some v := by
                intro q v hv
                refine hsrcA q v ?_
                rw [hCP, hSV]
                exact hv
              have hfit : 64 * p.k + SV.length ≤ (cur.map bv ++ tail).length := by
                rw [← hSV, List.length_map, hcpl, List.length_append, List.length_map]
                omega
              have hcp : CP.length ≤ 64 := by omega
              have hone2 : ∀ v ∈ SV, v.oneCell' = true := by rw [← hSV]; exact bv_one _
              have HSV := Lib.hid hSV; have HLENS := Lib.hid hlens; have HSRC := Lib.hid hsrc; have HFIT := Lib.hid hfit; have HCP := Lib.hid hcp; have HONE2 := Lib.hid hone2
              clear hSV hlens hsrc hfit hcp hone2 hsrcA hs1 hCP hcpl hgk hkj hkg ht
              go_wp2_with (first
            | refine wpList_load_mid rfl 85 (.tmp 34) rfl g (j * 129) rfl p.cells _ HRG.out Tryz.underlying85 rfl HSL.out ?_
            | refine wpList_alloc_row rfl 85 rfl z0 HZ.out ?_
            | refine wpList_store_new rfl 85 (.tmp 11) (.tmp 35) rfl p.cells.toArray z0 rfl rfl HSX.out HSZ.out HONE.out ?_)
              go_simp
              refine wp_onlyN ?_
              refine wp_region_any (by kernel_rfl) ?_
              change wpAny _ _ _ _ _ _ _ (World.drew _)
              refine wpAny_take (i := 1) (oi := { dst := some 62, op := .fieldAddr 85 (.tmp 11) 0, type := _, pos := _, after := _, guard := none }) (v := .pointer (some ⟨wr.heap.size, 0, none⟩)) rfl (by kernel_rfl) (by kernel_rfl) (by kernel_rfl) (fun _ _ _ h => h) (Or.inl ⟨by rfl, by intro w; go_simp⟩) ?_; simp only [Act.put, List.setIfInBounds_toArray, List.set_cons_zero, List.set_cons_succ]
              refine wpAny_take (i := 4) (oi := { dst := some 65, op := .fieldAddr 85 (.tmp 11) 2, type := _, pos := _, after := _, guard := none }) (v := .pointer (some ⟨wr.heap.size, 65, none⟩)) rfl (by kernel_rfl) (by kernel_rfl) (by kernel_rfl) (fun _ _ _ h => h) (Or.inl ⟨by rfl, by intro w; go_simp⟩) ?_; simp only [Act.put, List.setIfInBounds_toArray, List.set_cons_zero, List.set_cons_succ]
              refine wpAny_take (i := 5) (oi := { dst := some 66, op := .slice 83 (.tmp 65) none none none, type := _, pos := _, after := _, guard := none }) (v := .slice (some ⟨wr.heap.size, 65, none⟩) 64 64) rfl (by kernel_rfl) (by kernel_rfl) (by kernel_rfl) (fun _ _ _ h => h) (Or.inl ⟨by rfl, by intro w; go_simp⟩) ?_; simp only [Act.put, List.setIfInBounds_toArray, List.set_cons_zero, List.set_cons_succ]
              refine wpAny_ready (rs := [0, 2]) (by kernel_rfl) (by simp) ?_; refine (AllReady.cons (o := { dst := some 61, op := .load 26 (.tmp 4), type := _, pos := _, after := _, guard := none }) rfl (fun K hK => ?_) (AllReady.cons (o := { dst := some 63, op := .load 3 (.tmp 62), type := _, pos := _, after := _, guard := none }) rfl (fun K hK => ?_) AllReady.nil))
              refine step_load_one rfl 26 (.tmp 4) rfl ⟨w.heap.size, 0, none⟩ rfl (.pointer (some ⟨b, 0, none⟩)) HBOX.out Tryz.aggDisk ?_; refine hK _ _ ?_; clear hK K; simp only [Act.put, List.setIfInBounds_toArray, List.set_cons_zero, List.set_cons_succ]; refine wpAny_ready (rs := [2]) (by kernel_rfl) (by simp) ?_; refine (AllReady.cons (o := { dst := some 63, op := .load 3 (.tmp 62), type := _, pos := _, after := _, guard := none }) rfl (fun K hK => ?_) AllReady.nil); refine step_load_one rfl 3 (.tmp 62) rfl ⟨wr.heap.size, 0, none⟩ rfl (.int .i64 p.k) HXK.out Tryz.aggInt ?_; refine hK _ _ ?_; clear hK K; simp only [Act.put, List.setIfInBounds_toArray, List.set_cons_zero, List.set_cons_succ]
              rotate_left
              refine step_load_one rfl 3 (.tmp 62) rfl ⟨wr.heap.size, 0, none⟩ rfl (.int .i64 p.k) HXK.out Tryz.aggInt ?_; refine hK _ _ ?_; clear hK K; simp only [Act.put, List.setIfInBounds_toArray, List.set_cons_zero, List.set_cons_succ]; refine wpAny_ready (rs := [0]) (by kernel_rfl) (by simp) ?_; refine (AllReady.cons (o := { dst := some 61, op := .load 26 (.tmp 4), type := _, pos := _, after := _, guard := none }) rfl (fun K hK => ?_) AllReady.nil); refine step_load_one rfl 26 (.tmp 4) rfl ⟨w.heap.size, 0, none⟩ rfl (.pointer (some ⟨b, 0, none⟩)) HBOX.out Tryz.aggDisk ?_; refine hK _ _ ?_; clear hK K; simp only [Act.put, List.setIfInBounds_toArray, List.set_cons_zero, List.set_cons_succ]
              all_goals
                refine wpAny_ready (rs := [3]) (by kernel_rfl) (by simp) ?_; refine (AllReady.cons (o := { dst := some 64, op := .call { callee := .value (.func 37), args := #[.tmp 61, .tmp 63], argTypes := #[26, 3] }, type := _, pos := _, after := _, guard := none }) rfl (fun K hK => ?_) AllReady.nil)
                refine step_call2 rfl 37 (.tmp 61) (.tmp 63) #[26, 3] rfl (enters_of Tryz.func37 (by kernel_rfl) rfl) (.pointer (some ⟨b, 0, none⟩)) (.int .i64 p.k) rfl rfl _ (fun w1 => w1 = (wr.alloc (.cells p.cells.toArray 85)).drew) HSEC.out ?_
                intro w2 hw
                subst w2
                refine hK _ _ ?_; clear hK K; simp only [Act.put, List.setIfInBounds_toArray, List.set_cons_zero, List.set_cons_succ]
                refine wpAny_ready (rs := [6]) (by kernel_rfl) (by simp) ?_; refine (AllReady.cons (o := { dst := some 67, op := .call { callee := .builtin .copy, args := #[.tmp 64, .tmp 66], argTypes := #[34, 34] }, type := _, pos := _, after := _, guard := none }) rfl (fun K hK => ?_) AllReady.nil)
                refine step_copy_kept rfl (.tmp 64) (.tmp 66) 34 34 rfl 5 Tryz.underlying34 Tryz.sizeByte (some ⟨gi, 64 * p.k, none⟩) (some ⟨wr.heap.size, 65, none⟩) 64 _ 64 64 rfl rfl gi (64 * p.k) (cur.map bv ++ tail) 5 HX1.out.img SV HLENS.out (fun _ => ⟨rfl, _, rfl, HSRC.out⟩) HFIT.out HONE2.out ?_
                intro w2 hg2 hk2
                refine hK _ _ ?_; clear hK K; simp only [Act.put, List.setIfInBounds_toArray, List.set_cons_zero, List.set_cons_succ]
                refine wpAny_done (by kernel_rfl) ?_ _
                unfold onlyN
                have hx2 := HX1.out.setSec p.k HOK.out.1 CP HCP.out hk2.out (by rw [HSV.out]; exact hg2.out)
                have HX2 := Lib.hid hx2; have HK2 := Lib.hid (hk.out.trans (HW1.out.trans hk2.out (S := fun k => k = gi) (fun _ _ h => h)) (S := fun k => k = gi) (fun _ _ h => h)); clear hx2 hg2 hk2
                go_wp2
                go_roundw
                case rel => exact ⟨j + 1, _, HLT.out, by go_num, HX2, Lib.hid HSTEP.out, HK2⟩
                case measure => have := HLT.out; simp [intOf]; omega
            | false =>
              rw [hkj] at hkc1 hgk
              have hs1 : crash1 ks torn (octs octets) j p.wt cur = cur := by unfold crash1; rw [if_neg ht, if_neg (by rw [hgk]; simp)]
              rw [hs1] at HSTEP
              clear hsrcA hs1 hgk hkj hkg ht
              go_wp2_with (first
            | refine wpList_load_mid rfl 85 (.tmp 34) rfl g (j * 129) rfl p.cells _ HRG.out Tryz.underlying85 rfl HSL.out ?_
            | refine wpList_alloc_row rfl 85 rfl z0 HZ.out ?_
            | refine wpList_store_new rfl 85 (.tmp 11) (.tmp 35) rfl p.cells.toArray z0 rfl rfl HSX.out HSZ.out HONE.out ?_)
              have HX2 := Lib.hid (hx.out.kept ((Kept.refl (fun _ => False) wr).alloc (.cells p.cells.toArray 85)) (fun h => h) (fun h => h) (fun _ _ h => h)); have HK2 := Lib.hid (hk.out.alloc (.cells p.cells.toArray 85))
              go_wp2
              go_roundw
              case rel => exact ⟨j + 1, _, HLT.out, by go_num, HX2, Lib.hid HSTEP.out, HK2⟩
              case measure => have := HLT.out; simp [intOf]; omega
          · have hgk : ks[j]? = none := List.getElem?_eq_none (by omega)
            have hs1 : crash1 ks torn (octs octets) j p.wt cur = cur := by unfold crash1; rw [if_neg ht, if_neg (by rw [hgk]; simp)]
            rw [hs1] at HSTEP
            clear hsrcA hs1 hgk ht
            go_wp2_with (first
            | refine wpList_load_mid rfl 85 (.tmp 34) rfl g (j * 129) rfl p.cells _ HRG.out Tryz.underlying85 rfl HSL.out ?_
            | refine wpList_alloc_row rfl 85 rfl z0 HZ.out ?_
            | refine wpList_store_new rfl 85 (.tmp 11) (.tmp 35) rfl p.cells.toArray z0 rfl rfl HSX.out HSZ.out HONE.out ?_)
            have HX2 := Lib.hid (hx.out.kept ((Kept.refl (fun _ => False) wr).alloc (.cells p.cells.toArray 85)) (fun h => h) (fun h => h) (fun _ _ h => h)); have HK2 := Lib.hid (hk.out.alloc (.cells p.cells.toArray 85))
            go_wp2
            go_roundw
            case rel => exact ⟨j + 1, _, HLT.out, by go_num, HX2, Lib.hid HSTEP.out, HK2⟩
            case measure => have := HLT.out; simp [intOf]; omega
      · obtain rfl : j = ps.length := by omega
        have hxx := hx.out
        have hbox : wr.cell? ⟨w.heap.size, 0, none⟩ = some (.pointer (some ⟨b, 0, none⟩)) := (hk.out.cell (p := ⟨w.heap.size, 0, none⟩) (World.block_lt_of_cell? _ _ H2.out) (by show ¬ w.heap.size = gi; omega)).trans H2.out
        have hbox2 : (wr.setCell ⟨b, 1, none⟩ (.slice none 0 0)).cell? ⟨w.heap.size, 0, none⟩ = some (.pointer (some ⟨b, 0, none⟩)) := by
          rw [World.cell?_setCell_other _ _ _ _ (fun e => by have := congrArg Addr.block e; simp at this; omega)]; exact hbox
        have hx2 := hxx.setPend (.slice none 0 0) [] (by simp) (World.ownsRow_nil _ _ _ _) (by simp [Value.ownBlock])
        have hx3 := hx2.setCalls (-1) (by omega)
        have hc1' := hxx.c1
        have hf1' := hxx.f1
        have hc2' := hx2.c2
        have hf2' := hx2.f2
        have hkd : ((wr.setCell ⟨b, 1, none⟩ (.slice none 0 0)).setCell ⟨b, 2, none⟩ (.int .i64 (-1))).heap[D]? = some (.deferred (some [])) := by
          have hb : D ≠ b := by omega
          rw [Below.heap_setCell _ _ _ _ hb, Below.heap_setCell _ _ _ _ hb, hk.out.block D (Array.getElem?_eq_some_iff.1 HKD.out).1 (by omega)]
          exact HKD.out
        have hfe : cur = crash ks torn (octs octets) 0 (ps.map Pd.wt) base := by
          have := hf.out
          rw [List.drop_eq_nil_of_le (by simp)] at this
          exact this
        subst hfe
        have HX3 := Lib.hid hx3; have HKD2 := Lib.hid hkd; clear hx3 hx2 hxx hkd
        go_wp2
        refine ⟨by simp, .inl ⟨_, _, rfl, run_takeDeferred HKD2.out, ?_⟩⟩
        have kd : Kept (fun k => k = D) ((wr.setCell ⟨b, 1, none⟩ (.slice none 0 0)).setCell ⟨b, 2, none⟩ (.int .i64 (-1))) _ := (Kept.refl (fun k => k = D) _).grown (grownBy_putObj' _ D (.deferred none)) (fun k hk _ => by cases hk; rfl)
        refine ⟨_, results_none rfl _ _ _, ⟨_, rfl⟩, HX3.out.kept kd (by omega) (by omega) (by simp [Value.ownBlock]), ?_⟩
        have k1 := (H3.out.trans hk.out (S := fun k => k = gi ∨ w.heap.size ≤ k) (fun _ _ h => .inl h)).mono (S' := fun k => k = b ∨ k = gi) (fun k hk h => by omega)
        have k2 := Kept.setCell (p := ⟨b, 2, none⟩) (Kept.setCell (p := ⟨b, 1, none⟩) k1 (fun _ => .inl rfl) (.slice none 0 0)) (fun _ => .inl rfl) (.int .i64 (-1))
        exact k2.trans kd (fun k hk h => by omega)
  case stop =>
    rintro D c pre W _ _ h _
    exact h.elim

end Go.Proofs.YtgefbolnfenfcaaGreat
