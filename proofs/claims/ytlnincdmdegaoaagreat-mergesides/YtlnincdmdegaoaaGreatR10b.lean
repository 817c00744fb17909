/-
  The reference of layer 10: Merge.
-/
import Derived.Test.YtlnincdmdegaoaaGreatGL9
import Derived.Test.YtlnincdmdegaoaaGreatGEe
import Derived.Deep.RegionHeld
import Derived.Deep.CutBlock
import Derived.Deep.DeepCutAuto
namespace Go.Proofs.YtlnincdmdegaoaaGreat
open Go.RowKit Go.Mk Go.Maps

theorem ds_cell {w : World} {b off : Nat} {es : List Ent} (hc : ∀ j (h : j < es.length), Bo w b (off + j * 6) es[j].2.1 es[j].2.2 es[j].1) : ∀ j u, (cellsE es)[j]? = some u → w.cell? ⟨b, off + j, none⟩ = some u := by
  intro j u hu
  have hlen := cellsE_len es
  have hj : j < es.length * 6 := by rw [← hlen]; exact (List.getElem?_eq_some_iff.1 hu).1
  have hi : j / 6 < es.length := by omega
  have hr : j % 6 < 6 := Nat.mod_lt _ (by decide)
  have hjj : j = j / 6 * 6 + j % 6 := by omega
  have hB := hc (j / 6) hi
  generalize j / 6 = i at *
  generalize j % 6 = r at *
  have hx : (cellsE1 es[i])[r]? = some ((cellsE1 es[i])[r]'(by simpa [cellsE1] using hr)) := List.getElem?_eq_getElem _
  have h2 := cellsE_get es i hi r _ hx
  rw [← hjj, hu] at h2
  injection h2 with h2
  rw [hjj, ← Nat.add_assoc, h2]
  match r, hr with
  | 0, _ => exact hB.c0
  | 1, _ => exact hB.c1
  | 2, _ => exact hB.c2
  | 3, _ => exact hB.c3
  | 4, _ => exact hB.c4
  | 5, _ => exact hB.c5

theorem src_sd {w : World} {B : Nat} {ao : Option Addr} {cap : Nat} {es : List Ent} (h : SDs w B ⟨ao, cap, es⟩) : Src Tryz.prog 6 22 (.slice ao es.length cap) es.length (cellsE es) w := by
  have hlen := cellsE_len es
  cases ao with
  | none =>
    have he : es = [] := by
      apply Classical.byContradiction
      intro hn
      obtain ⟨b, off, e, _⟩ := h.ds.row hn
      cases e
    subst he
    exact Src.ofNil w Tryz.underlying22 cap
  | some a =>
    refine Src.ofSlice w Tryz.underlying22 a es.length cap (cellsE es) hlen (fun j u hu => ?_) (cellsE_one es)
    have hn : es ≠ [] := by
      rintro rfl
      simp [cellsE] at hu
    obtain ⟨b, off, e, _, hc⟩ := h.ds.row hn
    dsimp only at e hc
    cases e
    rw [Addr.add_lit]
    exact ds_cell hc j u hu

/-- What comes of a key, as it lies in memory. -/
def mgE (a b c : List Ent) (k : List UInt8) : Option (List Ent) :=
  if sameA (getK keyE k a) (getK keyE k b) = true then some (getK keyE k c) else if (sameA (getK keyE k a) (getK keyE k c) || sameA (getK keyE k b) (getK keyE k c)) = true then some (getK keyE k b) else none

theorem mgE_dds (a b c : List Ent) (k : List UInt8) : (mgE a b c k).map dds = mgK (dds a) (dds b) (dds c) k := by
  unfold mgE mgK sameA
  simp only [dds_getK, decide_eq_true_eq, Bool.or_eq_true]
  split
  · simp [dds_getK]
  · split
    · simp [dds_getK]
    · rfl

theorem mgE_none (a b c : List Ent) (k : List UInt8) : (mgE a b c k).isNone = (mgK (dds a) (dds b) (dds c) k).isNone := by
  rw [← mgE_dds]
  cases mgE a b c k <;> rfl

theorem mgE_getD (a b c : List Ent) (k : List UInt8) : dds ((mgE a b c k).getD []) = (mgK (dds a) (dds b) (dds c) k).getD [] := by
  rw [← mgE_dds]
  cases mgE a b c k <;> rfl

theorem mgE_mem (a b c : List Ent) (k : List UInt8) : ∀ e ∈ (mgE a b c k).getD [], e ∈ b ∨ e ∈ c := by
  unfold mgE
  intro e he
  split at he
  · exact .inr (mem_getK.1 he).1
  · split at he
    · exact .inl (mem_getK.1 he).1
    · cases he

theorem dds_flat (f : List UInt8 → List Ent) (g : List UInt8 → List DD) (h : ∀ k, dds (f k) = g k) : ∀ s : List (List UInt8), dds (s.flatMap f) = s.flatMap g
  | [] => rfl
  | k :: r => by
    have ih := dds_flat f g h r
    unfold dds at ih ⊢
    rw [List.flatMap_cons, List.map_append, ih, List.flatMap_cons]
    congr 1
    exact h k

/-- Two rows under way: the merged definitions, the conflicts. -/
structure Mo (w2 : World) (v1 v2 : Value) (out : List Ent) (cf : List (List UInt8)) (wx : World) : Prop where
  o1 : wx.ownsRow w2.heap.size 43 6 v1 out.length (cellsE out)
  o2 : wx.ownsRow w2.heap.size 9 1 v2 cf.length (strs cf)
  apart : ∀ k, v1.ownBlock = some k → v2.ownBlock ≠ some k
  k : Kept (fun _ => False) w2 wx

theorem Mo.keep {w2 : World} {v1 v2 : Value} {out : List Ent} {cf : List (List UInt8)} {wx wy : World} (h : Mo w2 v1 v2 out cf wx) (hk : Kept (fun _ => False) wx wy) : Mo w2 v1 v2 out cf wy :=
  ⟨owns_kept h.o1 hk (fun _ _ h => h), owns_kept h.o2 hk (fun _ _ h => h), h.apart, h.k.trans hk (fun _ _ h => h)⟩

theorem Mo.app1 {w2 : World} {v1 v2 v' : Value} {out ys : List Ent} {cf : List (List UInt8)} {wx wy : World} (h : Mo w2 v1 v2 out cf wx) (ho : wy.ownsRow 0 43 6 v' (out.length + ys.length) (cellsE out ++ cellsE ys)) (hg : wx.grownBy wy v1.ownBlock) (hb : v'.ownBlock = v1.ownBlock ∨ v'.ownBlock = some wx.heap.size) : Mo w2 v' v2 (out ++ ys) cf wy := by
  have hlt := owns_lt h.o1
  have hlt2 := owns_lt h.o2
  have hrow : ∀ k, v'.ownBlock = some k → w2.heap.size ≤ k := fun k hk => by
    rcases hb with hb | hb
    · rw [hb] at hk; exact (hlt k hk).1
    · rw [hb] at hk; cases hk; exact h.k.size
  have k4 : Kept (fun k => v1.ownBlock = some k) wx wy := Kept.grown (Kept.refl _ wx) hg (fun k hk _ => hk)
  refine ⟨?_, owns_kept h.o2 k4 (fun k hk h1 => h.apart k h1 hk), fun k hk h2 => ?_, h.k.trans k4 (fun i hi h1 => by have := (hlt i h1).1; omega)⟩
  · have ho5 := owns_base (base' := w2.heap.size) ho hrow
    rw [show cellsE out ++ cellsE ys = cellsE (out ++ ys) by simp [cellsE], ← List.length_append] at ho5
    exact ho5
  · rcases hb with hb | hb
    · rw [hb] at hk; exact h.apart k hk h2
    · rw [hb] at hk; cases hk; have := (hlt2 _ h2).2; omega

theorem Mo.app2 {w2 : World} {v1 v2 v' : Value} {out : List Ent} {cf : List (List UInt8)} {key : List UInt8} {wx wy : World} {o : Obj} (h : Mo w2 v1 v2 out cf wx) (ho : wy.ownsRow 0 9 1 v' (cf.length + 1) (strs cf ++ [.string (bs key)])) (hg : (wx.alloc o).grownBy wy v2.ownBlock) (hb : v'.ownBlock = v2.ownBlock ∨ v'.ownBlock = some (wx.heap.size + 1)) : Mo w2 v1 v' out (cf ++ [key]) wy := by
  have hlt := owns_lt h.o2
  have hlt1 := owns_lt h.o1
  have hrow : ∀ k, v'.ownBlock = some k → w2.heap.size ≤ k := fun k hk => by
    rcases hb with hb | hb
    · rw [hb] at hk; exact (hlt k hk).1
    · rw [hb] at hk; cases hk; have := h.k.size; omega
  have k4 : Kept (fun k => v2.ownBlock = some k) wx wy := Kept.grown ((Kept.refl _ wx).alloc _) hg (fun k hk _ => hk)
  refine ⟨owns_kept h.o1 k4 (fun k hk h1 => h.apart k hk h1), ?_, fun k hk h2 => ?_, h.k.trans k4 (fun i hi h1 => by have := (hlt i h1).1; omega)⟩
  · have ho5 := owns_base (base' := w2.heap.size) ho hrow
    rw [show strs cf ++ [Value.string (bs key)] = strs (cf ++ [key]) by simp [strs], show cf.length + 1 = (cf ++ [key]).length by simp] at ho5
    exact ho5
  · rcases hb with hb | hb
    · rw [hb] at h2; exact h.apart k hk h2
    · rw [hb] at h2; cases h2; have := (hlt1 _ hk).2; omega

/-- What the reference's Merge answers. -/
def RmPost (w : World) (m : List DD) (cf : List (List UInt8)) (e : Ending) (w' : World) : Prop :=
  ∃ oa oc out ca cc, e = .returned (.tuple #[.slice oa out.length oc, .slice ca cf.length cc]) ∧ dds out = m ∧ Rl w' oa out ∧ Lies w' w'.heap.size ca (strs cf) ∧ Kept (fun _ => False) w w'

set_option maxHeartbeats 4000000 in
set_option maxRecDepth 100000 in
theorem rmerge10_any (la : Option Addr) (lc : Nat) (a : List Ent) (lb : Option Addr) (ld : Nat) (b : List Ent) (le : Option Addr) (lf : Nat) (c : List Ent) (w : World) (hA : Rl w la a) (hB : Rl w lb b) (hC : Rl w le c)
    (na : a.length ≤ 1000) (nb : b.length ≤ 1000) (nc : c.length ≤ 1000) :
    Calls Tryz.prog 11 #[.slice la a.length lc, .slice lb b.length ld, .slice le c.length lf] w (RmPost w (mergeD (dds a) (dds b) (dds c)) (mergeC (dds a) (dds b) (dds c))) := by
  obtain ⟨i0, hinf, hz0, hz1, hz2⟩ := info_parts Tryz.infoDef
  obtain ⟨js, hins, hy0, hy1, hy2⟩ := info_parts Tryz.infoStr
  have HA := Lib.hid hA; have HB := Lib.hid hB; have HC := Lib.hid hC
  have kA : Kept (fun _ => False) w (w.alloc (.cells #[.slice la a.length lc, .slice lb b.length ld, .slice le c.length lf] 22)) := (Kept.refl _ w).alloc _
  have KA := Lib.hid kA
  have hLs : Ls (w.alloc (.cells #[.slice la a.length lc, .slice lb b.length ld, .slice le c.length lf] 22)) (w.heap.size + 1) (some ⟨w.heap.size, 0, none⟩) [⟨la, lc, a⟩, ⟨lb, ld, b⟩, ⟨le, lf, c⟩] := by
    refine ⟨fun _ => ⟨w.heap.size, 0, rfl, by omega, fun j hj => ?_⟩, fun s hs => ?_⟩
    · have h0 := fun j => World.cell?_alloc_new w #[.slice la a.length lc, .slice lb b.length ld, .slice le c.length lf] 22 j
      have hj3 : j = 0 ∨ j = 1 ∨ j = 2 := by simp at hj; omega
      rcases hj3 with rfl | rfl | rfl
      · exact h0 0
      · exact h0 1
      · exact h0 2
    · simp only [List.mem_cons, List.not_mem_nil, or_false] at hs
      rcases hs with rfl | rfl | rfl
      · exact (hA.ds.keep kA).mono (Nat.le_succ w.heap.size)
      · exact (hB.ds.keep kA).mono (Nat.le_succ w.heap.size)
      · exact (hC.ds.keep kA).mono (Nat.le_succ w.heap.size)
  have hfl : flatS [⟨la, lc, a⟩, ⟨lb, ld, b⟩, ⟨le, lf, c⟩] = a ++ b ++ c := by simp [flatS]
  have HKE := Lib.hid (rkeys10_any (some ⟨w.heap.size, 0, none⟩) 3 [⟨la, lc, a⟩, ⟨lb, ld, b⟩, ⟨le, lf, c⟩] _ _ (by rw [World.size_alloc]; omega) hLs (fun e he => by
    rw [hfl] at he
    simp only [List.mem_append] at he
    rcases he with (h | h) | h
    · exact hA.len e h
    · exact hB.len e h
    · exact hC.len e h) (by rw [hfl]; simp only [List.length_append]; omega) (by simp))
  have hkk : keysL (dds (flatS [⟨la, lc, a⟩, ⟨lb, ld, b⟩, ⟨le, lf, c⟩])) = keys3 (dds a) (dds b) (dds c) := by
    rw [hfl]
    simp [keys3, dds]
  rw [hkk] at HKE
  have HGA := Lib.hid (fun (key : List UInt8) (wx : World) (h : Kept (fun _ => False) w wx) => rget_any la lc a key w.heap.size wx h.size (hA.ds.keep h) hA.len (by omega) hA.rise)
  have HGB := Lib.hid (fun (key : List UInt8) (wx : World) (h : Kept (fun _ => False) w wx) => rget_any lb ld b key w.heap.size wx h.size (hB.ds.keep h) hB.len (by omega) hB.rise)
  have HGC := Lib.hid (fun (key : List UInt8) (wx : World) (h : Kept (fun _ => False) w wx) => rget_any le lf c key w.heap.size wx h.size (hC.ds.keep h) hC.len (by omega) hC.rise)
  have HKL := Lib.hid (show (keys3 (dds a) (dds b) (dds c)).length ≤ 3000 by
    have h2 : ∀ (l : List DD) (s : List (List UInt8)), Rise id s → (l.foldl (fun s d => putK id (keyD d) s) s).length ≤ s.length + l.length := by
      intro l
      induction l with
      | nil => intro s _; simp
      | cons d r ih =>
        intro s hs
        rw [List.foldl_cons]
        have h3 := ih _ (rise_putK (a := keyD d) hs)
        have h4 := putK_le (a := keyD d) hs
        simp only [List.length_cons]
        omega
    have h3 := h2 (dds a ++ dds b ++ dds c) [] List.Pairwise.nil
    simp only [List.length_nil, List.length_append, dds_len, Nat.zero_add] at h3
    unfold keys3 keysL
    omega)
  have HMD := Lib.hid (show mergeD (dds a) (dds b) (dds c) = dds ((keys3 (dds a) (dds b) (dds c)).flatMap (fun k => (mgE a b c k).getD [])) from (dds_flat _ _ (fun k => mgE_getD a b c k) _).symm)
  have HMC := Lib.hid (show mergeC (dds a) (dds b) (dds c) = (keys3 (dds a) (dds b) (dds c)).filter (fun k => (mgE a b c k).isNone) from by
    unfold mergeC
    congr 1
    funext k
    rw [mgE_none])
  have HRI := Lib.hid (show Rise keyD (mergeD (dds a) (dds b) (dds c)) from flat_rise (fun k => mg_key k [] (fun d hd => by cases hd)) (fun k => mg_len ((map_rise (f := fun e : Ent => e.1) (ka := keyE) (kb := keyD) (fun _ => rfl)).2 hB.rise) ((map_rise (f := fun e : Ent => e.1) (ka := keyE) (kb := keyD) (fun _ => rfl)).2 hC.rise) k [] (Nat.zero_le _)) (rise_keys _))
  clear hA hB hC hLs hfl hkk kA
  generalize mergeD (dds a) (dds b) (dds c) = MD at *
  generalize mergeC (dds a) (dds b) (dds c) = MC at *
  generalize keys3 (dds a) (dds b) (dds c) = ks at *
  go_enter Tryz.func11, Tryz.ntmps11
  go_wp2_with fail
  refine HKE.out.mono ?_
  rintro e w2 ⟨ka, kc, rfl, hks, k2⟩
  have HKS := Lib.hid hks; have K2 := Lib.hid (KA.out.trans k2 (fun _ _ h => h))
  clear hks k2 HKE
  go_wp2
  go_loopg [9, 10, 11] ks.length (fun m v1 v2 c1 wr => ∃ j, m = ks.length - j ∧ j ≤ ks.length ∧ c1 = .int .i64 (j : Int) ∧ ((ks.take j).flatMap (fun k => (mgE a b c k).getD [])).length ≤ j ∧ Mo w2 v1 v2 ((ks.take j).flatMap (fun k => (mgE a b c k).getD [])) ((ks.take j).filter (fun k => (mgE a b c k).isNone)) wr)
  case atStart => exact ⟨0, rfl, Nat.zero_le _, rfl, Nat.le_refl _, ⟨World.ownsRow_nil _ _ _ _, World.ownsRow_nil _ _ _ _, (fun k h => by cases h), Kept.refl _ _⟩⟩
  case round =>
    obtain ⟨j, hm, hj, rfl, hol, hmo⟩ := hrel
    have HM := Lib.hid hm; have HOL := Lib.hid hol; have HMO := Lib.hid hmo
    clear hm hol hmo
    by_cases hlt : j < ks.length
    · obtain ⟨b0, o0, rfl, hb0, hc0⟩ := HKS.out (by intro h; simp [strs] at h; rw [h] at hlt; simp at hlt)
      have HKC := Lib.hid (show ∀ wx, Kept (fun _ => False) w2 wx → wx.cell? ⟨b0, o0 + j, none⟩ = some (.string (bs ks[j])) from fun wx h => (h.cell (p := ⟨b0, o0 + j, none⟩) hb0 (fun h => h)).trans (hc0 j (.string (bs ks[j])) (by simp [strs, hlt])))
      have HF1 := Lib.hid (show (ks.take (j + 1)).flatMap (fun k => (mgE a b c k).getD []) = (ks.take j).flatMap (fun k => (mgE a b c k).getD []) ++ (mgE a b c ks[j]).getD [] by
        rw [List.take_add_one, List.getElem?_eq_getElem hlt, Option.toList_some, List.flatMap_append]
        simp)
      have HF2 := Lib.hid (show (ks.take (j + 1)).filter (fun k => (mgE a b c k).isNone) = (ks.take j).filter (fun k => (mgE a b c k).isNone) ++ (if (mgE a b c ks[j]).isNone = true then [ks[j]] else []) by
        rw [List.take_add_one, List.getElem?_eq_getElem hlt, Option.toList_some, List.filter_append]
        congr 1
        by_cases h : (mgE a b c ks[j]).isNone = true
        · rw [if_pos h]; simp [h]
        · rw [if_neg h]; simp [h])
      have HCL := Lib.hid (show ((ks.take j).filter (fun k => (mgE a b c k).isNone)).length ≤ j from Nat.le_trans (List.length_filter_le _ _) (by rw [List.length_take]; omega))
      have i1 : (j : Int) < (ks.length : Int) := by omega
      have hkl3 := HKL.out
      clear hc0
      generalize (ks.take j).flatMap (fun k => (mgE a b c k).getD []) = out at *
      generalize (ks.take j).filter (fun k => (mgE a b c k).isNone) = cf at *
      generalize ks[j] = kk at *
      have hmg : mgE a b c kk = if sameA (getK keyE kk a) (getK keyE kk b) = true then some (getK keyE kk c) else if (sameA (getK keyE kk a) (getK keyE kk c) || sameA (getK keyE kk b) (getK keyE kk c)) = true then some (getK keyE kk b) else none := rfl
      rw [hmg] at HF1 HF2
      clear hmg
      have hga := HGA.out kk; have hgb := HGB.out kk; have hgc := HGC.out kk
      have hxa := fun x (hx : x ∈ getK keyE kk a) => (HA.out.len x (mem_getK.1 hx).1).n
      have hxb := fun x (hx : x ∈ getK keyE kk b) => (HB.out.len x (mem_getK.1 hx).1).n
      have hxc := fun x (hx : x ∈ getK keyE kk c) => (HC.out.len x (mem_getK.1 hx).1).n
      have la1 := getK_len HA.out.rise kk; have lb1 := getK_len HB.out.rise kk; have lc1 := getK_len HC.out.rise kk
      have HG1 := Lib.hid hga; have HG2 := Lib.hid hgb; have HG3 := Lib.hid hgc; have HX1 := Lib.hid hxa; have HX2 := Lib.hid hxb; have HX3 := Lib.hid hxc
      clear hga hgb hgc hxa hxb hxc
      generalize getK keyE kk a = xa at *
      generalize getK keyE kk b = xb at *
      generalize getK keyE kk c = xc at *
      have KD := Lib.hid (HMO.out.keep (Kept.drew (Kept.refl (fun _ => False) wr)))
      go_upto_region 7 with fail
      have hS := HKC.out _ KD.out.k
      go_region_held (fun w' => w'.cell? ⟨b0, o0 + j, none⟩ = some (.string (bs kk))) (with_reducible assumption) (first
        | (go_at_call_of 18 (Value.slice la a.length lc); refine (HG1.out _ (K2.out.trans KD.out.k (fun _ _ h => h))).mono ?_; rintro e w3 ⟨ao3, cap3, rfl, s3, -, k3⟩; have S3 := Lib.hid s3; have M3 := Lib.hid (KD.out.keep k3); have hS3 := HKC.out _ M3.out.k; clear s3 k3)
        | (go_at_call_of 18 (Value.slice lb b.length ld); refine (HG2.out _ (K2.out.trans M3.out.k (fun _ _ h => h))).mono ?_; rintro e w4 ⟨ao4, cap4, rfl, s4, -, k4⟩; have S4 := Lib.hid s4; have T4 := Lib.hid ((S3.out.keep k4).mono k4.size); have M4 := Lib.hid (M3.out.keep k4); have hS4 := HKC.out _ M4.out.k; clear s4 k4)
        | (go_at_call_of 18 (Value.slice le c.length lf); refine (HG3.out _ (K2.out.trans M4.out.k (fun _ _ h => h))).mono ?_; rintro e w5 ⟨ao5, cap5, rfl, s5, -, k5⟩; have S5 := Lib.hid s5; have T5 := Lib.hid ((S4.out.keep k5).mono k5.size); have U5 := Lib.hid ((T4.out.keep k5).mono k5.size); have M5 := Lib.hid (M4.out.keep k5); have hS5 := HKC.out _ M5.out.k; clear s5 k5))
      all_goals
        have HS1 := Lib.hid (rsameall_any ao3 cap3 xa ao4 cap4 xb w5.heap.size w5 U5.out.ds T5.out.ds HX1.out HX2.out (Nat.le_trans la1 (by decide)))
        have HS2 := Lib.hid (fun (wx : World) (h : Kept (fun _ => False) w5 wx) => rsameall_any ao3 cap3 xa ao5 cap5 xc w5.heap.size wx (U5.out.keep h).ds (S5.out.keep h).ds HX1.out HX3.out (Nat.le_trans la1 (by decide)))
        have HS3 := Lib.hid (fun (wx : World) (h : Kept (fun _ => False) w5 wx) => rsameall_any ao4 cap4 xb ao5 cap5 xc w5.heap.size wx (T5.out.keep h).ds (S5.out.keep h).ds HX2.out HX3.out (Nat.le_trans lb1 (by decide)))
        generalize sameA xa xb = s1 at *
        generalize sameA xa xc = s2 at *
        generalize sameA xb xc = s3 at *
        go_wp2_with fail
        refine HS1.out.mono ?_
        rintro e w6 ⟨rfl, k6⟩
        have K6 := Lib.hid k6; clear k6
        cases s1 with
        | true =>
          have M9 := Lib.hid (M5.out.keep K6.out)
          have S9 := Lib.hid (S5.out.keep K6.out)
          have HE1 := Lib.hid (HF1.out.trans (show _ = out ++ xc by simp))
          have HE2 := Lib.hid (HF2.out.trans (show _ = cf by simp))
          have hol := HOL.out
          have HO3 := Lib.hid (owns_base (base' := 0) M9.out.o1 (fun _ _ => Nat.zero_le _))
          go_wp2_with (at_builtin; refine wpList_app _ rfl (.tmp 47) (.tmp 48) 22 22 rfl 43 i0 (.agg #[.int .i64 0, .string ⟨#[]⟩, .string ⟨#[]⟩, .slice none 0 0, .string ⟨#[]⟩, .string ⟨#[]⟩]) 6 96 Tryz.underlying22 hinf hz0 hz1 hz2 rfl _ _ _ rfl HO3.out (.slice ao5 xc.length cap5) xc.length (cellsE xc) rfl (src_sd S9.out) ?b1 ?b2 ?next)
          case b1 => unfold maxLen; omega
          case b2 => omega
          case next =>
            intro v' w10 ho10 hg10 hb10 _
            have M10 := Lib.hid (M9.out.app1 ho10 hg10 hb10)
            clear ho10 hg10 hb10
            go_wp2
            go_roundg (ks.length - (j + 1))
            case measure => have := HM.out; omega
            case rel => exact ⟨j + 1, rfl, by omega, by go_num, by rw [HE1.out, List.length_append]; omega, by rw [HE1.out, HE2.out]; exact M10.out⟩
        | false =>
          go_wp2_with fail
          refine (HS2.out _ K6.out).mono ?_
          rintro e w7 ⟨rfl, k7⟩
          have K7 := Lib.hid (K6.out.trans k7 (fun _ _ h => h)); clear k7
          cases s2 with
          | true =>
            have M9 := Lib.hid (M5.out.keep K7.out)
            have S9 := Lib.hid (T5.out.keep K7.out)
            have HE1 := Lib.hid (HF1.out.trans (show _ = out ++ xb by simp))
            have HE2 := Lib.hid (HF2.out.trans (show _ = cf by simp))
            have hol := HOL.out
            have HO3 := Lib.hid (owns_base (base' := 0) M9.out.o1 (fun _ _ => Nat.zero_le _))
            go_wp2_with (at_builtin; refine wpList_app _ rfl (.tmp 58) (.tmp 59) 22 22 rfl 43 i0 (.agg #[.int .i64 0, .string ⟨#[]⟩, .string ⟨#[]⟩, .slice none 0 0, .string ⟨#[]⟩, .string ⟨#[]⟩]) 6 96 Tryz.underlying22 hinf hz0 hz1 hz2 rfl _ _ _ rfl HO3.out (.slice ao4 xb.length cap4) xb.length (cellsE xb) rfl (src_sd S9.out) ?b1 ?b2 ?next)
            case b1 => unfold maxLen; omega
            case b2 => omega
            case next =>
              intro v' w10 ho10 hg10 hb10 _
              have M10 := Lib.hid (M9.out.app1 ho10 hg10 hb10)
              clear ho10 hg10 hb10
              go_wp2
              go_roundg (ks.length - (j + 1))
              case measure => have := HM.out; omega
              case rel => exact ⟨j + 1, rfl, by omega, by go_num, by rw [HE1.out, List.length_append]; omega, by rw [HE1.out, HE2.out]; exact M10.out⟩
          | false =>
            go_wp2_with fail
            refine (HS3.out _ K7.out).mono ?_
            rintro e w8 ⟨rfl, k8⟩
            have K8 := Lib.hid (K7.out.trans k8 (fun _ _ h => h)); clear k8
            have M9 := Lib.hid (M5.out.keep K8.out)
            cases s3 with
            | true =>
              have S9 := Lib.hid (T5.out.keep K8.out)
              have HE1 := Lib.hid (HF1.out.trans (show _ = out ++ xb by simp))
              have HE2 := Lib.hid (HF2.out.trans (show _ = cf by simp))
              have hol := HOL.out
              have HO3 := Lib.hid (owns_base (base' := 0) M9.out.o1 (fun _ _ => Nat.zero_le _))
              go_wp2_with (at_builtin; refine wpList_app _ rfl (.tmp 58) (.tmp 59) 22 22 rfl 43 i0 (.agg #[.int .i64 0, .string ⟨#[]⟩, .string ⟨#[]⟩, .slice none 0 0, .string ⟨#[]⟩, .string ⟨#[]⟩]) 6 96 Tryz.underlying22 hinf hz0 hz1 hz2 rfl _ _ _ rfl HO3.out (.slice ao4 xb.length cap4) xb.length (cellsE xb) rfl (src_sd S9.out) ?b1 ?b2 ?next)
              case b1 => unfold maxLen; omega
              case b2 => omega
              case next =>
                intro v' w10 ho10 hg10 hb10 _
                have M10 := Lib.hid (M9.out.app1 ho10 hg10 hb10)
                clear ho10 hg10 hb10
                go_wp2
                go_roundg (ks.length - (j + 1))
                case measure => have := HM.out; omega
                case rel => exact ⟨j + 1, rfl, by omega, by go_num, by rw [HE1.out, List.length_append]; omega, by rw [HE1.out, HE2.out]; exact M10.out⟩
            | false =>
              have HE1 := Lib.hid (HF1.out.trans (show _ = out by simp))
              have HE2 := Lib.hid (HF2.out.trans (show _ = cf ++ [kk] by simp))
              have hol := HOL.out
              have hcl := HCL.out
              have q0 := HKC.out _ M9.out.k
              have HO3 := Lib.hid (owns_base (base' := 0) M9.out.o2 (fun _ _ => Nat.zero_le _))
              go_wp2_with (at_builtin; refine wpList_app _ rfl (.tmp 61) (.tmp 66) 30 30 rfl 9 js (.string ⟨#[]⟩) 1 16 Tryz.underlying30 hins hy0 hy1 hy2 rfl _ _ _ rfl (HO3.out.alloc _) (.slice (some ⟨w8.heap.size, 0, none⟩) 1 1) 1 [.string (bs kk)] rfl (src_one Tryz.underlying30 w8 _ _ rfl) ?b1 ?b2 ?next)
              case b1 => unfold maxLen; omega
              case b2 => omega
              case next =>
                intro v' w10 ho10 hg10 hb10 _
                have M10 := Lib.hid (M9.out.app2 ho10 hg10 (by simpa using hb10))
                clear ho10 hg10 hb10
                go_wp2
                go_roundg (ks.length - (j + 1))
                case measure => have := HM.out; omega
                case rel => exact ⟨j + 1, rfl, by omega, by go_num, by rw [HE1.out]; omega, by rw [HE1.out, HE2.out]; exact M10.out⟩
    · obtain rfl : j = ks.length := by omega
      have hmo := HMO.out
      rw [List.take_length, ← HMC.out] at hmo
      have HMM := Lib.hid (show ∀ e ∈ ks.flatMap (fun k => (mgE a b c k).getD []), e ∈ b ∨ e ∈ c from fun e he => by
        obtain ⟨k, _, h⟩ := List.mem_flatMap.1 he
        exact mgE_mem a b c k e h)
      generalize ks.flatMap (fun k => (mgE a b c k).getD []) = out at *
      obtain ⟨oa, oc, rfl⟩ := owns_slice hmo.o1
      obtain ⟨ca, cc2, rfl⟩ := owns_slice hmo.o2
      have MO := Lib.hid hmo
      have KW := Lib.hid (K2.out.trans hmo.k (fun _ _ h => h))
      have HRL := Lib.hid (show Rl wr oa out from ⟨owns_ds hmo.o1 (fun e he => by
          have h1 : Lies w w.heap.size e.2.1 (strs e.1.vs) ∧ e.1.vs.length ≤ e.2.2 := by
            rcases HMM.out e he with h | h
            · exact HB.out.ds.lies e h
            · exact HC.out.ds.lies e h
          exact ⟨(h1.1.kept KW.out (fun _ _ _ h => h)).mono KW.out.size, h1.2⟩), fun e he => by
          rcases HMM.out e he with h | h
          · exact HB.out.len e h
          · exact HC.out.len e h, (map_rise (f := fun e : Ent => e.1) (ka := keyE) (kb := keyD) (fun _ => rfl)).1 (by
          have h := HRI.out
          rw [HMD.out] at h
          exact h)⟩)
      clear hmo hlt
      go_wp2
      go_ret2
      exact ⟨oa, oc, out, ca, cc2, rfl, HMD.out.symm, HRL.out, owns_lies MO.out.o2, KW.out⟩

end Go.Proofs.YtlnincdmdegaoaaGreat
