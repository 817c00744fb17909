/-
  CONTRACT of package disk: Write.
-/
import Derived.Test.YtgefbolnfenfcaaGreatDn
import Derived.Test.YtgefbolnfenfcaaGreatDl
namespace Go.Proofs.YtgefbolnfenfcaaGreat
open Go.RowKit Go.Mk

/-- Sixty-four noughts. -/
def Z64 : List UInt8 := List.replicate 64 0
/-- The cells of a write with nothing but its place. -/
def zc (k : Int) : Array Value := (.int .i64 k :: (Z64.map bv ++ Z64.map bv)).toArray
theorem zc_size (k : Int) : (zc k).size = 129 := by simp [zc, Z64]
theorem zc_one (k : Int) : (zc k).all (·.oneCell') = true := by
  refine all_oneCell_toArray (fun v hv => ?_)
  simp only [List.mem_cons] at hv
  rcases hv with rfl | hv
  · rfl
  · exact Pd.cells_one ⟨0, Z64, Z64⟩ v (by simp only [Pd.cells, List.mem_cons]; exact .inr hv)

theorem Tryz.infoWrite : (Tryz.prog.info? 85).map (fun i => (i.zero, i.size, i.bytes)) = some (some (.agg (zc 0)), 129, 136) := by kernel_rfl
theorem Tryz.infoWrite2 : (Tryz.prog.info? 85).map (fun i => (i.zero, i.size)) = some (some (.agg (zc 0)), 129) := by kernel_rfl
theorem Tryz.sizeByte : (Tryz.prog.info? 5).map (·.size) = some 1 := by kernel_rfl
theorem built_write (k : Int) : Tryz.prog.built 85 [(0, .int .i64 k)] = some (zc k) := by
  kernel_rfl



/-- The cells of a write into which both parts were copied. -/
theorem zc_filled (k : Nat) (x y : List UInt8) (hx : x.length = 64) (hy : y.length = 64) : splice (splice (.int .i64 k :: (Z64.map bv ++ Z64.map bv)) 1 (x.map bv)) 65 (y.map bv) = Pd.cells ⟨k, x, y⟩ := by
  have h1 : splice (Value.int .i64 k :: (Z64.map bv ++ Z64.map bv)) 1 (x.map bv) = .int .i64 k :: (x.map bv ++ Z64.map bv) := by
    simp only [splice, List.take_succ_cons, List.take_zero, List.length_map, hx, List.cons_append, List.nil_append]
    rw [show (1 + 64 : Nat) = 64 + 1 from rfl, List.drop_succ_cons, List.drop_append_of_le_length (by simp [Z64]), List.drop_of_length_le (by simp [Z64])]
    simp
  rw [h1]
  simp only [splice, List.length_map, hy, Pd.cells]
  rw [show (65 : Nat) = 64 + 1 from rfl, List.take_succ_cons, show (64 + 1 + 64 : Nat) = 128 + 1 from rfl, List.drop_succ_cons, List.take_append_of_le_length (by simp [hx]), List.take_of_length_le (by simp [hx]), List.drop_of_length_le (by simp [hx, Z64])]
  simp

theorem Tryz.kindWrite : (match (Tryz.prog.underlying 85) with | some (.struct _) => true | _ => false) = true := by kernel_rfl

theorem DkAt.append {w w6 : World} {b gi : Nat} {tail : List Value} {im : List UInt8} {ps qs : List Pd} {pv v : Value} {n : Nat} {calls : Int} (h : DkAt w b gi tail im ps pv n calls) (hk : Kept (fun i => pv.ownBlock = some i) w w6)
    (ho : w6.ownsRow 0 85 129 v qs.length (cellsOf qs)) (hv : ∀ g, v.ownBlock = some g → g ≠ b ∧ g ≠ gi) (hq : ∀ p ∈ qs, p.ok n) :
    DkAt (w6.setCell ⟨b, 1, none⟩ v) b gi tail im qs v n calls ∧ w6.cell? ⟨b, 1, none⟩ = some pv ∧ w6.frozen? ⟨b, 1, none⟩ = false := by
  have nb : ¬ pv.ownBlock = some b := fun e => (h.ne2 b e).1 rfl
  have ng : ¬ pv.ownBlock = some gi := fun e => (h.ne2 gi e).2 rfl
  have kp : Kept (fun k => k = b) w6 (w6.setCell ⟨b, 1, none⟩ v) := Kept.setCell (p := ⟨b, 1, none⟩) (Kept.refl (fun k => k = b) w6) (fun _ => rfl) _
  have c0 := (hk.cell (p := ⟨b, 0, none⟩) h.lt nb).trans h.c0
  have c1 := (hk.cell (p := ⟨b, 1, none⟩) h.lt nb).trans h.c1
  have c2 := (hk.cell (p := ⟨b, 2, none⟩) h.lt nb).trans h.c2
  have f0 := (hk.frozen (p := ⟨b, 0, none⟩) h.lt nb).trans h.f0
  have f1 := (hk.frozen (p := ⟨b, 1, none⟩) h.lt nb).trans h.f1
  have f2 := (hk.frozen (p := ⟨b, 2, none⟩) h.lt nb).trans h.f2
  have hlt : gi < w6.heap.size := Nat.lt_of_lt_of_le h.lt2 hk.size
  refine ⟨⟨?_, World.cell?_setCell_same _ _ _ c1, ?_, ?_, ?_, ?_, (kp.block gi hlt h.ne1).trans ((hk.block gi h.lt2 ng).trans h.img), owns_kept ho kp (fun g hg => (hv g hg).1), h.ne1, hv, h.len, h.n1, h.n2, hq, h.cb⟩, c1, f1⟩
  · rw [World.cell?_setCell_other _ _ _ _ (by simp)]; exact c0
  · rw [World.cell?_setCell_other _ _ _ _ (by simp)]; exact c2
  · rw [World.frozen?_setCell]; exact f0
  · rw [World.frozen?_setCell]; exact f1
  · rw [World.frozen?_setCell]; exact f2

set_option maxRecDepth 100000 in
set_option maxHeartbeats 1000000 in
/-- Write, where all is well. -/
theorem write_ok {w : World} {b gi : Nat} {tail : List Value} {im : List UInt8} {ps : List Pd} {pv : Value} {n : Nat} {calls : Int} (h : DkAt w b gi tail im ps pv n calls)
    (k : Nat) (hk : k < n) (ao : Option Addr) (cap : Nat) (l : List UInt8) (hl : l.length = 64) (hL : Lies w w.heap.size ao (l.map bv)) (hn : ∀ a, ao = some a → pv.ownBlock ≠ some a.block ∧ a.block ≠ b) (hc : calls ≠ 0) (hp : ps.length ≤ 1000000) :
    Calls Tryz.prog 19 #[.pointer (some ⟨b, 0, none⟩), .int .i64 k, .slice ao 64 cap] w fun e w' => e = .returned (.int .i64 0) ∧
      (∃ pv', DkAt w' b gi tail (lay im k l) (ps ++ [⟨k, sec im k, l⟩]) pv' n (less calls) ∧ (pv'.ownBlock = pv.ownBlock ∨ ∃ g, pv'.ownBlock = some g ∧ w.heap.size ≤ g)) ∧ Kept (fun i => i = b ∨ i = gi ∨ pv.ownBlock = some i) w w' := by
  obtain ⟨ab, aof, rfl, hab, hac⟩ := hL (by intro h; rw [List.map_eq_nil_iff] at h; rw [h] at hl; simp at hl)
  obtain ⟨pa, pcap, rfl⟩ := h.pvs
  have hn := hn _ rfl
  have hh := has_any h k
  rw [decide_eq_true (by omega)] at hh
  have hu := useCall_any h
  rw [show (calls != 0) = true by simpa using hc] at hu
  obtain ⟨hzv, hzs⟩ := zero_of_info Tryz.infoWrite2
  have hsl := sec_length h.len hk
  have hbk := built_write k
  have hsk := zc_size k
  have hs0 := zc_size 0
  have hok := zc_one k
  have hfil := zc_filled k (sec im k) l hsl hl
  have hzk : zc k = (Value.int .i64 k :: (Z64.map bv ++ Z64.map bv)).toArray := rfl
  generalize (Value.int .i64 k :: (Z64.map bv ++ Z64.map bv)) = ZL at hfil hzk
  rw [hzk] at hbk hsk hok
  generalize zc 0 = z0 at hzv hs0
  rw [List.size_toArray] at hsk
  have hszk : (Tryz.prog.info? 85).map (·.size) = some ZL.toArray.size := by rw [List.size_toArray, hsk]; exact hzs
  have hszz : z0.size = ZL.toArray.size := by rw [hs0, List.size_toArray, hsk]
  have HFIL := Lib.hid hfil; have HBK := Lib.hid hbk; have HSK := Lib.hid hsk; have HOK := Lib.hid hok; have HSZK := Lib.hid hszk; have HSZZ := Lib.hid hszz; have HSL := Lib.hid hsl
  clear hzk hbk hsk hs0 hok hszk hszz hfil hsl
  have HH := Lib.hid hh; have HU := Lib.hid hu; have H := Lib.hid h; have HZ := Lib.hid hzv; have HZS := Lib.hid hzs; have HAC := Lib.hid hac; have HAB := Lib.hid hab; have HN := Lib.hid hn; have HLL := Lib.hid hl; have HK := Lib.hid hk; have HP := Lib.hid hp
  clear hh hu h hzv hzs hL hn hl hc hk hp hac hab
  go_enter Tryz.func19, Tryz.ntmps19
  go_wp2_with fail
  refine HH.out.mono ?_
  rintro e w1 ⟨rfl, hw⟩
  subst w1
  go_wp2_with fail
  refine HU.out.mono ?_
  rintro e w1 ⟨rfl, h1, k1⟩
  have H1 := Lib.hid h1; have K1 := Lib.hid k1; clear h1 k1
  go_wp2_with (first
    | refine wpList_build_one rfl 85 0 (.tmp 20) rfl (.int .i64 k) rfl ZL.toArray HBK.out ?_
    | refine wpList_alloc_row rfl 85 rfl z0 HZ.out ?_
    | refine wpList_store_new rfl 85 (.tmp 7) (.tmp 21) rfl ZL.toArray z0 rfl rfl HSZK.out HSZZ.out HOK.out ?_)
  go_simp
  -- copy(w.before[:], d.sector(at))
  obtain ⟨p, hp⟩ : ∃ p, w1.heap.size = p := ⟨_, rfl⟩
  have hx2 : DkAt (w1.alloc (.cells ZL.toArray 85)).drew b gi tail im ps (.slice pa ps.length pcap) n (less calls) := H1.out.kept (S := fun _ => False) (Kept.drew ((Kept.refl _ w1).alloc _)) (fun h => h) (fun h => h) (fun _ _ h => h)
  have HW0 := Lib.hid ((Kept.drew ((Kept.refl (fun _ => False) w1).alloc (.cells ZL.toArray 85))))
  have hg2 : (w1.alloc (.cells ZL.toArray 85)).drew.heap[p]? = some (.cells ZL.toArray 85 (0, 0)) := by rw [← hp]; exact heap_alloc_new _ _
  rw [hp]
  have HP1 := Lib.hid hp; clear hp
  have hsec := sector_any hx2 k HK.out
  have hsrc : ∀ j v, ((sec im k).map bv)[j]? = some v → (w1.alloc (.cells ZL.toArray 85)).drew.cell? ((⟨gi, 64 * k, none⟩ : Addr).add j) = some v := by
    intro j v hv
    obtain ⟨b', off', e', _, hc'⟩ := hx2.lies_sec k (by intro h; rw [h] at hv; simp at hv)
    cases e'
    rw [Addr.add_lit]
    exact hc' j v hv
  have hlen : ((sec im k).map bv).length = Nat.min 64 64 := by rw [List.length_map, HSL.out]; rfl
  have hfit : 1 + ((sec im k).map bv).length ≤ ZL.length := by rw [hlen, HSK.out]; decide
  have HG2 := Lib.hid hg2; have HX2 := Lib.hid hx2; have HSEC := Lib.hid hsec; have HSRC := Lib.hid hsrc; have HLEN := Lib.hid hlen; have HFIT := Lib.hid hfit
  clear hg2 hx2 hsec hsrc hlen hfit
  generalize hC : 64 * n + tail.length - 64 * k = C at HSEC
  generalize hSV : (sec im k).map bv = SV at HSRC HLEN HFIT
  have HSV := Lib.hid hSV; have HC := Lib.hid hC; clear hSV hC
  generalize hK64 : 64 * k = K64 at HSEC HSRC
  have HK64 := Lib.hid hK64; clear hK64
  go_region_law (first
    | (refine step_copy_kept rfl (.tmp 23) (.tmp 26) 34 34 rfl 5 Tryz.underlying34 Tryz.sizeByte (some ⟨p, 1, none⟩) (some ⟨gi, K64, none⟩) 64 64 64 C rfl rfl p 1 ZL 85 HG2.out SV HLEN.out (fun _ => ⟨rfl, _, rfl, HSRC.out⟩) HFIT.out (by rw [← HSV.out]; exact bv_one _) ?_; intro w2 hg3 hk3)
    | (go_simp; go_wp2_with (go_at_call 37; refine HSEC.out.mono ?_; rintro e w2 ⟨rfl, hw⟩; subst w2)))
  have hk3' := hk3.out
  have hb1 := H1.out.lt
  have hb2 := H1.out.lt2
  have hp1 := HP1.out
  have hx3 := HX2.out.kept hk3' (by omega) (by omega) (fun g hg => by have := (owns_lt H1.out.own g hg).2; omega)
  have hac3 : ∀ j u, (l.map bv)[j]? = some u → w2.cell? ((⟨ab, aof, none⟩ : Addr).add j) = some u := by
    intro j u hu
    have hz := K1.out.size
    have hab' := HAB.out
    rw [Addr.add_lit]
    rw [hk3'.cell (p := ⟨ab, aof + j, none⟩) (by simp; omega) (by show ¬ ab = p; omega), HW0.out.cell (p := ⟨ab, aof + j, none⟩) (by simp; omega) (fun h => h), K1.out.cell (p := ⟨ab, aof + j, none⟩) hab' HN.out.2]
    exact HAC.out j u hu
  have hlen3 : (l.map bv).length = Nat.min 64 64 := by rw [List.length_map, HLL.out]; rfl
  have hfit3 : 65 + (l.map bv).length ≤ (splice ZL 1 SV).length := by rw [hlen3, length_splice _ _ _ HFIT.out, HSK.out]; decide
  have HX3 := Lib.hid hx3; have HAC3 := Lib.hid hac3; have HLEN3 := Lib.hid hlen3; have HFIT3 := Lib.hid hfit3
  clear hx3 hac3 hlen3 hfit3 hk3' hb1 hb2 hp1
  generalize hLV : l.map bv = LV at HAC3 HLEN3 HFIT3 HFIL
  have HLV := Lib.hid hLV; clear hLV
  rw [HSV.out] at HFIL
  generalize hCL : Pd.cells ⟨k, sec im k, l⟩ = CL at HFIL
  have HCL := Lib.hid hCL; clear hCL
  -- copy(w.after[:], b)
  go_wp2_with (first
    | (refine wpList_copy_kept rfl (.tmp 29) (.tmp 30) 34 34 rfl 5 Tryz.underlying34 Tryz.sizeByte (some ⟨p, 65, none⟩) (some ⟨ab, aof, none⟩) 64 64 64 cap rfl rfl p 65 (splice ZL 1 SV) 85 hg3.out LV HLEN3.out (fun _ => ⟨rfl, _, rfl, HAC3.out⟩) HFIT3.out (by rw [← HLV.out]; exact bv_one _) ?_; intro w3 hg4 hk4))
  go_simp
  rw [HFIL.out] at hg4
  have hk4' := hk4.out
  have hb1 := H1.out.lt
  have hb2 := H1.out.lt2
  have hp1 := HP1.out
  have hx4 := HX3.out.kept hk4' (by omega) (by omega) (fun g hg => by have := (owns_lt H1.out.own g hg).2; omega)
  have hcl : CL.length = 129 := by rw [← HCL.out]; simp [Pd.cells, HSL.out, HLL.out]
  have hone : ∀ u ∈ CL, u.oneCell' = true := by rw [← HCL.out]; exact Pd.cells_one _
  have hdp : p < w3.heap.size := (Array.getElem?_eq_some_iff.1 hg4.out).1
  have hrange : w3.drew.rangeAt p 0 CL := fun j v hv => by
    rw [Nat.zero_add, cell_of_row w3.drew p j CL.toArray 85 (0, 0) hg4.out]
    simpa using hv
  obtain ⟨d61, hd61, hdr⟩ : ∃ d, Tryz.prog.underlying 85 = some d ∧ d.isRow = true := ⟨_, Tryz.underlying85, rfl⟩
  obtain ⟨i1, hi1, hy0, hy1, hy2⟩ := info_parts Tryz.infoWrite
  have hzc0 := zc_size 0
  generalize zc 0 = z1 at hy0 hzc0
  have hsz : (Tryz.prog.info? 85).map (·.size) = some CL.length := by rw [hcl]; exact HZS.out
  have hagg : ∀ w, (isAgg 55).run Tryz.prog w = .ok false w := fun w => by unfold isAgg; rw [Sem.run_bind, run_underlying Tryz.underlying55 w]; rfl
  have hc1 := hx4.c1
  have hf1 := hx4.f1
  have hsrc5 : Src Tryz.prog 129 55 (.slice (some ⟨w3.heap.size, 0, none⟩) 1 1) 1 CL (w3.drew.alloc (.cells CL.toArray 85)) :=
    Src.ofSlice _ Tryz.underlying55 _ 1 1 CL (by rw [hcl]) (fun j u hu => by
      rw [Addr.add_lit, Nat.zero_add]
      rw [show (w3.drew.alloc (.cells CL.toArray 85)).cell? ⟨w3.heap.size, j, none⟩ = _ from World.cell?_alloc_new w3.drew CL.toArray 85 j]
      simpa using hu) hone
  have hown5 : (w3.drew.alloc (.cells CL.toArray 85)).ownsRow 0 85 129 (.slice pa ps.length pcap) ps.length (cellsOf ps) := owns_kept hx4.own (S := fun _ => False) ((Kept.drew (Kept.refl _ w3)).alloc _) (fun _ _ h => h)
  have HR := Lib.hid hrange; have HSZ := Lib.hid hsz; have HAGG := Lib.hid hagg; have HD61 := Lib.hid hd61; have HDR := Lib.hid hdr
  have hc1a : (w3.drew.alloc (.cells CL.toArray 85)).cell? ⟨b, 1, none⟩ = some (.slice pa ps.length pcap) := by rw [World.cell?_alloc_lt _ _ _ (by have := hx4.lt; simpa using this)]; exact hc1
  have HC1 := Lib.hid (show w3.drew.cell? ⟨b, 1, none⟩ = some (.slice pa ps.length pcap) from hc1); have HC1A := Lib.hid hc1a
  have HSRC5 := Lib.hid hsrc5; have HOWN5 := Lib.hid hown5; have HI1 := Lib.hid hi1; have HY0 := Lib.hid hy0; have HX4 := Lib.hid hx4; have HCLL := Lib.hid hcl
  have HZ1 := Lib.hid hzc0; have HDP := Lib.hid hdp
  have HB1 := Lib.hid (show ps.length + 1 ≤ maxLen by have := HP.out; unfold maxLen; omega); have HB2 := Lib.hid (show (ps.length + 1) * 136 ≤ 140737488355328 by have := HP.out; omega)
  have HCL1 := Lib.hid (show i1.size = CL.length by rw [hy1, hcl]); have HCL2 := Lib.hid (show 0 < CL.length by omega); have HCL3 := Lib.hid (show CL.length ≤ 16777216 by omega)
  clear hone hrange hdr hsrc5 hown5 hi1 hy0 hx4 hcl hzc0 hdp hb1 hb2 hp1 hk4' hagg hsz hd61 hc1 hf1 hc1a
  refine wp_region_any (by kernel_rfl) ?_
  change wpAny _ _ _ _ _ _ _ (World.drew _)
  refine wpAny_take (i := 0) (oi := { dst := some 32, op := .move (.tmp 0), type := _, pos := _, after := _, guard := none }) (v := .pointer (some ⟨b, 0, none⟩)) rfl (by kernel_rfl) (by kernel_rfl) (by kernel_rfl) (fun _ _ _ h => h) (Or.inl ⟨by rfl, by intro w; go_simp⟩) ?_
  simp only [Act.put, List.setIfInBounds_toArray, List.set_cons_zero, List.set_cons_succ]
  refine wpAny_take (i := 1) (oi := { dst := some 33, op := .move (.tmp 0), type := _, pos := _, after := _, guard := none }) (v := .pointer (some ⟨b, 0, none⟩)) rfl (by kernel_rfl) (by kernel_rfl) (by kernel_rfl) (fun _ _ _ h => h) (Or.inl ⟨by rfl, by intro w; go_simp⟩) ?_
  simp only [Act.put, List.setIfInBounds_toArray, List.set_cons_zero, List.set_cons_succ]
  refine wpAny_take (i := 2) (oi := { dst := some 34, op := .nilCheck (.tmp 33), type := _, pos := _, after := _, guard := none }) (v := .pointer (some ⟨b, 0, none⟩)) rfl (by kernel_rfl) (by kernel_rfl) (by kernel_rfl) (fun _ _ _ h => h) (Or.inl ⟨by rfl, by intro w; go_simp⟩) ?_
  simp only [Act.put, List.setIfInBounds_toArray, List.set_cons_zero, List.set_cons_succ]
  refine wpAny_take (i := 3) (oi := { dst := some 35, op := .fieldAddr 57 (.tmp 34) 1, type := _, pos := _, after := _, guard := none }) (v := .pointer (some ⟨b, 1, none⟩)) rfl (by kernel_rfl) (by kernel_rfl) (by kernel_rfl) (fun _ _ _ h => h) (Or.inl ⟨by rfl, by intro w; go_simp⟩) ?_
  simp only [Act.put, List.setIfInBounds_toArray, List.set_cons_zero, List.set_cons_succ]
  refine wpAny_ready (rs := [4, 5]) (by kernel_rfl) (by simp) ?_; refine (AllReady.cons (o := { dst := some 36, op := .load 55 (.tmp 35), type := _, pos := _, after := _, guard := none }) rfl (fun K hK => ?_) (AllReady.cons (o := { dst := some 37, op := .load 85 (.tmp 7), type := _, pos := _, after := _, guard := none }) rfl (fun K hK => ?_) AllReady.nil))
  refine step_load_one rfl 55 (.tmp 35) rfl ⟨b, 1, none⟩ rfl (.slice pa ps.length pcap) HC1.out HAGG.out ?_; refine hK _ _ ?_; clear hK K; simp only [Act.put, List.setIfInBounds_toArray, List.set_cons_zero, List.set_cons_succ]; refine wpAny_ready (rs := [5]) (by kernel_rfl) (by simp) ?_; refine (AllReady.cons (o := { dst := some 37, op := .load 85 (.tmp 7), type := _, pos := _, after := _, guard := none }) rfl (fun K hK => ?_) AllReady.nil); refine step_load_mid rfl 85 (.tmp 7) rfl p 0 rfl CL d61 HR.out HD61.out HDR.out HSZ.out ?_; refine hK _ _ ?_; clear hK K; simp only [Act.put, List.setIfInBounds_toArray, List.set_cons_zero, List.set_cons_succ]; refine wpAny_ready (rs := [6]) (by kernel_rfl) (by simp) ?_; refine (AllReady.cons (o := { dst := some 38, op := .buildSlice 55 1 #[(0, .tmp 37)], type := _, pos := _, after := _, guard := none }) rfl (fun K hK => ?_) AllReady.nil); refine step_buildSlice_one rfl 55 85 (.tmp 37) rfl i1 (.agg z1) CL rfl Tryz.underlying55 HI1.out HY0.out HCL1.out HCL2.out HCL3.out ?_; refine hK _ _ ?_; clear hK K; simp only [Act.put, List.setIfInBounds_toArray, List.set_cons_zero, List.set_cons_succ]
  rotate_left
  refine step_load_mid rfl 85 (.tmp 7) rfl p 0 rfl CL d61 HR.out HD61.out HDR.out HSZ.out ?_; refine hK _ _ ?_; clear hK K; simp only [Act.put, List.setIfInBounds_toArray, List.set_cons_zero, List.set_cons_succ]; refine wpAny_ready (rs := [4, 6]) (by kernel_rfl) (by simp) ?_; refine (AllReady.cons (o := { dst := some 36, op := .load 55 (.tmp 35), type := _, pos := _, after := _, guard := none }) rfl (fun K hK => ?_) (AllReady.cons (o := { dst := some 38, op := .buildSlice 55 1 #[(0, .tmp 37)], type := _, pos := _, after := _, guard := none }) rfl (fun K hK => ?_) AllReady.nil))
  refine step_load_one rfl 55 (.tmp 35) rfl ⟨b, 1, none⟩ rfl (.slice pa ps.length pcap) HC1.out HAGG.out ?_; refine hK _ _ ?_; clear hK K; simp only [Act.put, List.setIfInBounds_toArray, List.set_cons_zero, List.set_cons_succ]; refine wpAny_ready (rs := [6]) (by kernel_rfl) (by simp) ?_; refine (AllReady.cons (o := { dst := some 38, op := .buildSlice 55 1 #[(0, .tmp 37)], type := _, pos := _, after := _, guard := none }) rfl (fun K hK => ?_) AllReady.nil); refine step_buildSlice_one rfl 55 85 (.tmp 37) rfl i1 (.agg z1) CL rfl Tryz.underlying55 HI1.out HY0.out HCL1.out HCL2.out HCL3.out ?_; refine hK _ _ ?_; clear hK K; simp only [Act.put, List.setIfInBounds_toArray, List.set_cons_zero, List.set_cons_succ]
  rotate_left
  refine step_buildSlice_one rfl 55 85 (.tmp 37) rfl i1 (.agg z1) CL rfl Tryz.underlying55 HI1.out HY0.out HCL1.out HCL2.out HCL3.out ?_; refine hK _ _ ?_; clear hK K; simp only [Act.put, List.setIfInBounds_toArray, List.set_cons_zero, List.set_cons_succ]; refine wpAny_ready (rs := [4]) (by kernel_rfl) (by simp) ?_; refine (AllReady.cons (o := { dst := some 36, op := .load 55 (.tmp 35), type := _, pos := _, after := _, guard := none }) rfl (fun K hK => ?_) AllReady.nil); refine step_load_one rfl 55 (.tmp 35) rfl ⟨b, 1, none⟩ rfl (.slice pa ps.length pcap) HC1A.out HAGG.out ?_; refine hK _ _ ?_; clear hK K; simp only [Act.put, List.setIfInBounds_toArray, List.set_cons_zero, List.set_cons_succ]
  all_goals
    refine wpAny_ready (rs := [7]) (by kernel_rfl) (by simp) ?_; refine (AllReady.cons (o := { dst := some 39, op := .call { callee := .builtin .append, args := #[.tmp 36, .tmp 38], argTypes := #[55, 55] }, type := _, pos := _, after := _, guard := none }) rfl (fun K hK => ?_) AllReady.nil)
    refine step_app rfl (.tmp 36) (.tmp 38) 55 55 rfl 85 i1 (.agg z1) 129 136 Tryz.underlying55 HI1.out HY0.out hy1 hy2 HZ1.out (.slice pa ps.length pcap) ps.length (cellsOf ps) rfl HOWN5.out (.slice (some ⟨w3.heap.size, 0, none⟩) 1 1) 1 CL rfl HSRC5.out HB1.out HB2.out ?_
    intro ao6 cap6 w6 ho6 hg6 hr6
    refine hK _ _ ?_; clear hK K; simp only [Act.put, List.setIfInBounds_toArray, List.set_cons_zero, List.set_cons_succ]
    refine wpAny_take (i := 8) (oi := { dst := some 40, op := .nilCheck (.tmp 32), type := _, pos := _, after := _, guard := none }) (v := .pointer (some ⟨b, 0, none⟩)) rfl (by kernel_rfl) (by kernel_rfl) (by kernel_rfl) (fun _ _ _ h => h) (Or.inl ⟨by rfl, by intro w; go_simp⟩) ?_; simp only [Act.put, List.setIfInBounds_toArray, List.set_cons_zero, List.set_cons_succ]
    refine wpAny_take (i := 9) (oi := { dst := some 41, op := .fieldAddr 57 (.tmp 40) 1, type := _, pos := _, after := _, guard := none }) (v := .pointer (some ⟨b, 1, none⟩)) rfl (by kernel_rfl) (by kernel_rfl) (by kernel_rfl) (fun _ _ _ h => h) (Or.inl ⟨by rfl, by intro w; go_simp⟩) ?_; simp only [Act.put, List.setIfInBounds_toArray, List.set_cons_zero, List.set_cons_succ]
    refine wpAny_ready (rs := [10]) (by kernel_rfl) (by simp) ?_; refine (AllReady.cons (o := { dst := none, op := .store 55 (.tmp 41) (.tmp 39), type := _, pos := _, after := _, guard := none }) rfl (fun K hK => ?_) AllReady.nil)
    -- where the disk stands behind the append
    have k6 : Kept (fun i => (Value.slice pa ps.length pcap).ownBlock = some i) w3 w6 := (((Kept.refl _ w3).drew).alloc _).grown hg6.out (fun q hq _ => hq)
    have hcl6 := HCL.out
    have hpd : Pd.ok n ⟨k, sec im k, l⟩ := ⟨HK.out, HSL.out, HLL.out⟩
    have ho6' : w6.ownsRow 0 85 129 (.slice ao6 (ps.length + 1) cap6) (ps ++ [(⟨k, sec im k, l⟩ : Pd)]).length (cellsOf (ps ++ [(⟨k, sec im k, l⟩ : Pd)])) := by
      rw [cellsOf_snoc, hcl6, List.length_append, List.length_singleton]
      exact ho6.out
    have hz3 : p < w3.heap.size := HDP.out
    have hlt3 := HX4.out.lt
    have hlt4 := HX4.out.lt2
    have hown6 : ∀ g, (Value.slice ao6 (ps.length + 1) cap6).ownBlock = some g → g ≠ b ∧ g ≠ gi := by
      intro g hg
      rcases hr6.out with h | h
      · rw [h] at hg; exact HX4.out.ne2 g hg
      · rw [h] at hg; cases hg; simp; omega
    obtain ⟨hx7, hc6, hf6⟩ := HX4.out.append k6 ho6' hown6 (fun q hq => by
      rcases List.mem_append.1 hq with hq | hq
      · exact HX4.out.ok q hq
      · rw [List.mem_singleton] at hq; rw [hq]; exact hpd)
    have hn1 := HN.out
    have hk4'' := hk4.out
    have hac7 : ∀ j u, LV[j]? = some u → (w6.setCell ⟨b, 1, none⟩ (.slice ao6 (ps.length + 1) cap6)).cell? ((⟨ab, aof, none⟩ : Addr).add j) = some u := by
      intro j u hu
      have h3 := HAC3.out j u hu
      have hb3 := World.block_lt_of_cell? _ _ h3
      rw [Addr.add_lit] at h3 hb3 ⊢
      have hab' := HAB.out
      have hk1s := K1.out.size
      have hp1 := HP1.out
      have e3 := (hk4''.cell (p := ⟨ab, aof + j, none⟩) hb3 (by show ¬ ab = p; omega)).trans h3
      have e6 := (k6.cell (p := ⟨ab, aof + j, none⟩) (World.block_lt_of_cell? _ _ e3) hn1.1).trans e3
      rw [World.cell?_setCell_other _ _ _ _ (fun e => hn1.2 (congrArg Addr.block e).symm)]
      exact e6
    have hsec7 := sector_any hx7 k HK.out
    rw [HC.out, HK64.out] at hsec7
    have hfit7 : K64 + LV.length ≤ (im.map bv ++ tail).length := by
      have := HX4.out.len
      have := HK.out
      have := HK64.out
      rw [HLEN3.out, List.length_append, List.length_map]
      simp
      omega
    have kall : Kept (fun i => i = b ∨ i = gi ∨ (Value.slice pa ps.length pcap).ownBlock = some i) w (w6.setCell ⟨b, 1, none⟩ (.slice ao6 (ps.length + 1) cap6)) := by
      have hz1 := K1.out.size
      have hp1 := HP1.out
      have ka := K1.out.mono (S' := fun i => i = b ∨ i = gi ∨ (Value.slice pa ps.length pcap).ownBlock = some i) (fun _ _ h => .inl h)
      have kb := ka.trans HW0.out (fun _ _ h => h.elim)
      have kc := kb.trans hk3.out (fun i hi h => by exfalso; omega)
      have kd := kc.trans hk4'' (fun i hi h => by exfalso; omega)
      have ke := kd.trans k6 (fun i hi h => .inr (.inr h))
      exact Kept.setCell (p := ⟨b, 1, none⟩) ke (fun _ => .inl rfl) _
    have hvf : (Value.slice ao6 (ps.length + 1) cap6).ownBlock = (Value.slice pa ps.length pcap).ownBlock ∨ ∃ g, (Value.slice ao6 (ps.length + 1) cap6).ownBlock = some g ∧ w.heap.size ≤ g := by
      rcases hr6.out with h | h
      · exact .inl h
      · refine .inr ⟨_, h, ?_⟩
        have h1 := K1.out.size
        have hp1 := HP1.out
        simp
        omega
    have K6 := Lib.hid k6; have HX7 := Lib.hid hx7; have HAC7 := Lib.hid hac7; have HSEC7 := Lib.hid hsec7; have HFIT7 := Lib.hid hfit7; have KALL := Lib.hid kall; have HVF := Lib.hid hvf
    clear k6 hx7 hac7 hsec7 hfit7 kall hvf hcl6 hpd ho6' hz3 hlt3 hlt4 hown6 hk4'' hn1
    go_simp
    refine hK _ _ ?_; clear hK K
    refine wpAny_done (by kernel_rfl) ?_ _
    clear hc6 hf6
    generalize w6.setCell ⟨b, 1, none⟩ (.slice ao6 (ps.length + 1) cap6) = w7 at HX7 HAC7 HSEC7 KALL ⊢
    go_wp2_with fail
    refine HSEC7.out.mono ?_
    rintro e w8 ⟨rfl, hw⟩
    subst w8
    go_wp2_with (first
      | (refine wpList_copy_kept rfl (.tmp 44) (.tmp 45) 34 34 rfl 5 Tryz.underlying34 Tryz.sizeByte (some ⟨gi, K64, none⟩) (some ⟨ab, aof, none⟩) 64 C 64 cap rfl rfl gi K64 (im.map bv ++ tail) 5 HX7.out.img LV HLEN3.out (fun _ => ⟨rfl, _, rfl, HAC7.out⟩) HFIT7.out (by rw [← HLV.out]; exact bv_one _) ?_; intro w9 hg9 hk9))
    go_wp2
    go_ret
    have hg9' := hg9.out
    rw [← HK64.out, ← HLV.out] at hg9'
    exact ⟨rfl, ⟨_, HX7.out.setSec k HK.out l (by rw [HLL.out]; exact Nat.le_refl _) hk9.out hg9', HVF.out⟩, KALL.out.trans hk9.out (fun _ _ h => .inr (.inl h))⟩

/-- What Write answers. -/
def writeE (n : Nat) (calls : Int) (k : Int) (l : List UInt8) : Int := if (0 ≤ k ∧ k < n) ∧ l.length = 64 then (if calls = 0 then 20 else 0) else 2

set_option maxHeartbeats 400000 in
/-- Write of what cannot be written. -/
theorem write_bad {w : World} {b gi : Nat} {tail : List Value} {im : List UInt8} {ps : List Pd} {pv : Value} {n : Nat} {calls : Int} (h : DkAt w b gi tail im ps pv n calls)
    (k : Int) (ao : Option Addr) (cap N : Nat) (hb : ¬ ((0 ≤ k ∧ k < n) ∧ N = 64)) :
    Calls Tryz.prog 19 #[.pointer (some ⟨b, 0, none⟩), .int .i64 k, .slice ao N cap] w fun e w' => e = .returned (.int .i64 2) ∧ w' = w := by
  have hh := has_any h k
  by_cases hk : 0 ≤ k ∧ k < n
  · have hn : ¬ N = 64 := fun e => hb ⟨hk, e⟩
    have hn2 : ((N : Int) != 64) = true := by simp; omega
    have hn3 : ¬ (N : Int) = 64 := by omega
    rw [decide_eq_true hk] at hh
    have HH := Lib.hid hh; clear hh h hb hk
    go_enter Tryz.func19, Tryz.ntmps19
    go_wp2_with fail
    refine HH.out.mono ?_
    rintro e w1 ⟨rfl, hw⟩
    subst w1
    go_wp2
    go_ret
    exact ⟨rfl, rfl⟩
  · rw [decide_eq_false hk] at hh
    have HH := Lib.hid hh; clear hh h hb hk
    go_enter Tryz.func19, Tryz.ntmps19
    go_wp2_with fail
    refine HH.out.mono ?_
    rintro e w1 ⟨rfl, hw⟩
    subst w1
    go_wp2
    go_ret
    exact ⟨rfl, rfl⟩

set_option maxHeartbeats 400000 in
/-- Write without power. -/
theorem write_off {w : World} {b gi : Nat} {tail : List Value} {im : List UInt8} {ps : List Pd} {pv : Value} {n : Nat} (h : DkAt w b gi tail im ps pv n 0)
    (k : Int) (ao : Option Addr) (cap : Nat) (hk : 0 ≤ k ∧ k < n) :
    Calls Tryz.prog 19 #[.pointer (some ⟨b, 0, none⟩), .int .i64 k, .slice ao 64 cap] w fun e w' => e = .returned (.int .i64 20) ∧ DkAt w' b gi tail im ps pv n 0 ∧ Kept (fun i => i = b) w w' := by
  have hh := has_any h k
  rw [decide_eq_true hk] at hh
  have HU := Lib.hid (useCall_any h)
  have HH := Lib.hid hh; clear hh h hk
  go_enter Tryz.func19, Tryz.ntmps19
  go_wp2_with fail
  refine HH.out.mono ?_
  rintro e w1 ⟨rfl, hw⟩
  subst w1
  go_wp2_with fail
  refine HU.out.mono ?_
  rintro e w1 ⟨rfl, h1, k1⟩
  have H1 := Lib.hid h1; have K1 := Lib.hid k1; clear h1 k1
  go_wp2
  go_ret
  exact ⟨rfl, H1.out, K1.out⟩

end Go.Proofs.YtgefbolnfenfcaaGreat
