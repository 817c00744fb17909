/-
  CONTRACTS of package diff: keysOf, of two snapshots.
-/
import Derived.Test.YtlnincdmdegaoaaGreatGTg
import Derived.Test.YtlnincdmdegaoaaGreatGTi
import Derived.Test.YtlnincdmdegaoaaGreatUk
import Derived.Test.YtlnincdmdegaoaaGreatGEe
import Derived.LoopN
namespace Go.Proofs.YtlnincdmdegaoaaGreat
open Go.RowKit Go.Mk Go.Maps Go.Shelf

def setP (s : List (List UInt8)) (l : List DD) : List (List UInt8) := l.foldl (fun s d => putK id (keyD d) s) s
theorem setP_keys (l m : List DD) : setP (setP [] l) m = keysL (l ++ m) := by unfold setP keysL; rw [List.foldl_append]

theorem key_len8 {d : DD} (h : rightD d = true) : (keyD d).length ≤ 3000000 := by
  have h1 := right_small h
  have := h1.c; have := h1.s
  unfold keyD
  rw [if_pos h]
  split
  · simp; omega
  · omega

/-- The set under way. -/
structure Uw (w : World) (s : List (List UInt8)) (W : World) : Prop where
  tb : TbU W w.heap.size s
  cell : W.cell? ⟨w.heap.size + 1, 0, none⟩ = some (.map (some w.heap.size))
  k : Kept (fun _ => False) w W
  sz : w.heap.size + 2 ≤ W.heap.size

theorem Uw.kept {S : Nat → Prop} {w : World} {s : List (List UInt8)} {A B : World} (h : Uw w s A) (hk : Kept S A B) (h0 : ¬ S w.heap.size) (h1 : ¬ S (w.heap.size + 1)) (hlow : ∀ k, k < w.heap.size → ¬ S k := by first | (intro _ _ h; exact h) | (intro k hk h; omega)) : Uw w s B :=
  ⟨h.tb.kept hk h0, (hk.cell (p := ⟨w.heap.size + 1, 0, none⟩) (World.block_lt_of_cell? _ _ h.cell) h1).trans h.cell, h.k.trans hk (fun i hi e => hlow i hi e), Nat.le_trans h.sz hk.size⟩

theorem uw_new (w : World) : Uw w [] ((w.alloc (.map #[] 0)).alloc (.cells #[.map (some w.heap.size)] 63)) := by
  have h1 := (tbU_new w).kept ((Kept.refl (fun _ => False) _).alloc (.cells #[.map (some w.heap.size)] 63)) (fun h => h)
  have h2 := World.cell?_alloc_new (w.alloc (.map #[] 0)) #[.map (some w.heap.size)] 63 0
  rw [World.size_alloc] at h2
  exact ⟨h1, h2, ((Kept.refl _ w).alloc _).alloc _, by simp⟩

theorem Uw.put {w : World} {s : List (List UInt8)} {W : World} (h : Uw w s W) (k : List UInt8) (hk : k.length ≤ maxLen) (hl : s.length ≤ 1000000) :
    ∃ W', (Instr.mapUpdate 63 (.map (some w.heap.size)) (.string (bs k)) (.agg #[])).run Tryz.prog W = .ok () W' ∧ Uw w (putK id k s) W' ∧ Kept (fun k => k = w.heap.size) W W' := by
  obtain ⟨W', h1, h2, h3⟩ := h.tb.put k hk hl
  exact ⟨W', h1, ⟨h2, (h3.cell (p := ⟨w.heap.size + 1, 0, none⟩) (World.block_lt_of_cell? _ _ h.cell) (by simp)).trans h.cell, h.k.trans h3 (fun i hi e => by omega), Nat.le_trans h.sz h3.size⟩, h3⟩

/-- What a round reads. -/
abbrev cellsK (n bx : Nat) (x : Ent) (w' : World) : Prop := w'.cell? ⟨n + 1, 0, none⟩ = some (.map (some n)) ∧ cells6 bx x.1.k x.1.c x.1.p (.slice x.2.1 x.1.vs.length x.2.2) x.1.s x.1.t w'

theorem cellsK_kept {S : Nat → Prop} {n bx : Nat} {x : Ent} {A B : World} (h : cellsK n bx x A) (hk : Kept S A B) (h1 : ¬ S (n + 1)) (h2 : ¬ S bx) : cellsK n bx x B := by
  obtain ⟨c, q0, q1, q2, q3, q4, q5⟩ := h
  have hb := World.block_lt_of_cell? _ _ q0
  exact ⟨(hk.cell (p := ⟨n + 1, 0, none⟩) (World.block_lt_of_cell? _ _ c) h1).trans c, (hk.cell (p := ⟨bx, 0, none⟩) hb h2).trans q0, (hk.cell (p := ⟨bx, 1, none⟩) hb h2).trans q1, (hk.cell (p := ⟨bx, 2, none⟩) hb h2).trans q2, (hk.cell (p := ⟨bx, 3, none⟩) hb h2).trans q3, (hk.cell (p := ⟨bx, 4, none⟩) hb h2).trans q4, (hk.cell (p := ⟨bx, 5, none⟩) hb h2).trans q5⟩

theorem len8_ent {p : Option Nat} {m : List Ent} {w : World} (h : TbO w p m) : ∀ e ∈ m, Len8 e.1 := fun e he => by
  have h := right_small (h.right e he)
  exact ⟨Nat.le_trans h.c (by omega), Nat.le_trans h.p (by omega), Nat.le_trans h.s (by omega), Nat.le_trans h.t (by omega), Nat.le_trans h.n (by omega), fun x hx => Nat.le_trans (h.v x hx) (by omega)⟩

theorem low_rows {p : Option Nat} {m : List Ent} {w : World} (h : TbO w p m) : ∀ e ∈ m, e.1.vs ≠ [] → ∀ a, e.2.1 = some a → a.block < w.heap.size := fun e he hv a ha => by
  obtain ⟨g, off, e1, hb, _⟩ := (h.lies e he).1 (by unfold strs; simpa using hv)
  rw [e1] at ha
  cases ha
  exact hb

theorem low_tab {p : Option Nat} {m : List Ent} {w : World} (h : TbO w p m) : ∀ b, p = some b → b < w.heap.size := fun b hb => by
  rcases h with ⟨h, _⟩ | ⟨b', h, hb'⟩
  · rw [h] at hb; cases hb
  · rw [h] at hb; cases hb; exact hb'.lt

theorem low_keys {w wx : World} {m : List Ent} {ko : Option Addr} {kc : Nat} (h : wx.ownsRow w.heap.size 9 1 (.slice ko m.length kc) m.length (strs (m.map keyE))) : m ≠ [] → ∀ a, ko = some a → w.heap.size ≤ a.block ∧ a.block < wx.heap.size := fun hne a ha => by
  obtain ⟨g, hg⟩ := owns_off h (by simpa using hne)
  rw [hg] at ha
  cases ha
  exact owns_lt h g (by rw [hg]; rfl)

set_option maxRecDepth 100000 in
set_option maxHeartbeats 4000000 in
theorem dkeysof_any (v u : Value) (l m : List DD) (b cap : Nat) (w : World) (h1 : Sn w v l) (h2 : Sn w u m) (hc0 : w.cell? ⟨b, 0, none⟩ = some v) (hc1 : w.cell? ⟨b, 1, none⟩ = some u) (hl : l.length ≤ 1000) (hm : m.length ≤ 1000) :
    Calls Tryz.prog 60 #[.slice (some ⟨b, 0, none⟩) 2 cap] w (KuPost w (keysL (l ++ m))) := by
  obtain ⟨q1, rfl⟩ := h1.pointer
  obtain ⟨q2, rfl⟩ := h2.pointer
  obtain ⟨p1, m1, hp1, ht1, rfl⟩ := h1
  obtain ⟨p2, m2, hp2, ht2, rfl⟩ := h2
  change Calls _ _ _ _ (KuPost w (keysL (dds m1 ++ dds m2)))
  rw [← setP_keys]
  have hmm := @run_makeMap Tryz.prog
  have HP1 := Lib.hid hp1; have HT1 := Lib.hid ht1; have HP2 := Lib.hid hp2; have HT2 := Lib.hid ht2
  have HC0 := Lib.hid hc0; have HC1 := Lib.hid hc1
  have HNa := Lib.hid (show m1.length ≤ 1000 by simpa using hl)
  have HNb := Lib.hid (show m2.length ≤ 1000 by simpa using hm)
  have L8a := Lib.hid (len8_ent ht1); have L8b := Lib.hid (len8_ent ht2)
  have RBa := Lib.hid (low_rows ht1); have RBb := Lib.hid (low_rows ht2)
  have TBa := Lib.hid (low_tab ht1); have TBb := Lib.hid (low_tab ht2)
  have U0 := Lib.hid (uw_new w)
  have hbl := World.block_lt_of_cell? _ _ hc0
  clear hp1 ht1 hp2 ht2 hc0 hc1 hl hm
  refine (callsIn_wide (n := 5)).1 ?_
  refine callsIn_of_wp_marks Tryz.func60 rfl trivial ?_ rfl
  refine wpIn_wide.2 ?_
  simp only [Tryz.ntmps60, List.size_toArray, List.length_cons, List.length_nil, Nat.reduceAdd, Nat.reduceSub, Array.replicate_succ, Array.replicate_zero, List.push_toArray, List.append_toArray, List.nil_append, List.cons_append]
  obtain ⟨wA, hwA⟩ : ∃ wA, (w.alloc (.map #[] 0)).alloc (.cells #[.map (some w.heap.size)] 63) = wA := ⟨_, rfl⟩
  rw [hwA] at U0
  go_wp2_with fail
  clear hwA
  refine wp_loop_rounds 3 ?_
  rw [rounds_succ]
  have d0 : wA.cell? ⟨b, 0, none⟩ = some (.pointer q1) := (U0.out.k.cell (p := ⟨b, 0, none⟩) (World.block_lt_of_cell? _ _ HC0.out) (fun h => h)).trans HC0.out
  have HALL1 := Lib.hid (all_any (.pointer q1) p1 m1 wA (HP1.out.keep U0.out.k) (HT1.out.keep U0.out.k) (by have := HNa.out; omega))
  go_wp2_with fail
  refine HALL1.out.mono ?_
  rintro e w2 ⟨Bka, Bma, rfl, hal⟩
  clear d0
  obtain ⟨koa, kca, hap, hown⟩ := hal.ap
  have APa := Lib.hid hap
  have HZA := Lib.hid U0.out.sz
  have BKa := Lib.hid (show w.heap.size < Bka ∧ Bka < w2.heap.size from ⟨by have := hal.bk; have := HZA.out; omega, World.block_lt_of_cell? _ _ hap.cell⟩)
  have BMa := Lib.hid (show w.heap.size < Bma ∧ Bma < w2.heap.size from ⟨by have := hal.bm; have := HZA.out; omega, World.block_lt_of_cell? _ _ hap.tab⟩)
  have KBa := Lib.hid (show m1 ≠ [] → ∀ a, koa = some a → w.heap.size < a.block ∧ a.block < w2.heap.size from fun hne a ha => by have := low_keys hown hne a ha; have := HZA.out; omega)
  have UWa := Lib.hid (show Uw w (setP [] (dds [])) w2 from U0.out.kept hal.k (fun h => h) (fun h => h))
  have USa := Lib.hid (show (setP [] (dds [])).length ≤ 0 + ([] : List Ent).length from Nat.le_refl _)
  have HZa := Lib.hid UWa.out.sz
  have hza := UWa.out.sz
  clear hal hap hown HALL1
  go_wp2_with fail
  obtain ⟨Sba, hSba⟩ : ∃ Sb : Nat → Prop, Sb = fun k => k = w.heap.size ∨ w2.heap.size + 1 < k := ⟨_, rfl⟩
  have s1 : ¬ Sba w2.heap.size := by rw [hSba]; dsimp only; omega
  have s2 : ¬ Sba (w2.heap.size + 1) := by rw [hSba]; dsimp only; omega
  have hno : ∀ k, k < w.heap.size ∨ (w.heap.size < k ∧ k < w2.heap.size) → ¬ (Sba k ∨ k = w2.heap.size ∨ k = w2.heap.size + 1) := fun k hk h => by
    rw [hSba] at h
    rcases h with (h | h) | h | h <;> omega
  have KP : ∀ A B, Ap p1 m1 Bka Bma koa kca A → Kept (fun k => Sba k ∨ k = w2.heap.size ∨ k = w2.heap.size + 1) A B → Ap p1 m1 Bka Bma koa kca B := fun A B hA hk =>
    hA.kept hk (hno _ (.inr BKa.out)) (hno _ (.inr BMa.out)) (fun hne a ha => hno _ (.inr (KBa.out hne a ha))) (fun b hb => hno _ (.inl (TBa.out b hb))) (fun e he hv a ha => hno _ (.inl (RBa.out e he hv a ha)))
  have HS1 := Lib.hid s1; have HS2 := Lib.hid s2; have HKPP := Lib.hid KP
  have HSK := Lib.hid (show ∀ k, (k = w.heap.size ∨ w2.heap.size + 1 < k) → Sba k from fun k hk => by rw [hSba]; exact hk)
  clear hno KP s1 s2 hSba
  refine (wpIn_wide (n := 4)).1 ?_
  refine wpIn_rangeG (P := Tryz.prog) (n := 4) (by omega) (gf := 48) (lb := #[.pointer (some ⟨Bka, 0, none⟩), .pointer (some ⟨Bma, 0, none⟩)]) rfl (enters_of Tryz.func48 (by kernel_rfl) rfl)
    Sba HS1.out HS2.out (all1_seq 3 (by omega) p1 m1 Bka Bma koa kca _ HKPP.out w2 APa.out L8a.out (by have := HNa.out; omega)) (Below.refl _ _) (fun _ => rfl)
    (fun pre W => Uw w (setP [] (dds pre)) W ∧ (setP [] (dds pre)).length ≤ 0 + pre.length ∧ True) (fun _ _ => False) ?hIa (fun _ _ _ h _ => h) ?hGa ?h0a
    (fun x a' W => ∃ bx, w2.heap.size + 1 < bx ∧ Bx W bx x.2.1 x.2.2 x.1 ∧ a' = { tmps := #[.slice (some ⟨b, 0, none⟩) 2 cap, undef, .slice none 0 0, .pointer (some ⟨w.heap.size + 1, 0, none⟩), undef, .pointer q1, .pointer (some ⟨bx, 0, none⟩), .map (some w.heap.size), .slice (some ⟨b, 0, none⟩) 2 cap, .int .i64 2, .int .i64 0, .bool true, .pointer (some ⟨b, 0, none⟩), .pointer q1, .pointer q1, .func (.func 48) #[] #[.pointer (some ⟨Bka, 0, none⟩), .pointer (some ⟨Bma, 0, none⟩)], .agg #[.int .i64 x.1.k, .string (bs x.1.c), .string (bs x.1.p), .slice x.2.1 x.1.vs.length x.2.2, .string (bs x.1.s), .string (bs x.1.t)], undef, undef, undef, undef, undef, undef, undef, undef], defers := [] })
    ?hAxa ?assigna ?bodya ?donea (fun _ _ _ h => h.elim)
  case hIa =>
    rintro pre A B ⟨h1, h2, h3⟩ hk
    exact ⟨h1.kept hk (by have := HZa.out; omega) (by have := HZa.out; omega), h2, trivial⟩
  case hGa =>
    rintro x A B hx h1 h2 hk
    exact hx.over h1 h2 hk
  case h0a => exact ⟨UWa.out, USa.out, trivial⟩
  case hAxa =>
    rintro x a' A B ⟨bx, h1, h2, h3⟩ hk
    exact ⟨bx, h1, h2.kept hk (by omega), h3⟩
  case assigna =>
    rintro l pre x W K hi hg hlt hK
    unfold encE
    go_simp
    have HKK := Lib.hid hK; have HB := Lib.hid (bx_new W x.2.1 x.2.2 x.1 43)
    clear hK hi hg
    refine wpIn_region_plain l _ (by rintro ⟨a, w, h⟩; exact h) (by kernel_rfl) ?_
    go_wp2
    exact HKK.out _ _ ((Kept.refl _ W).alloc _) ⟨W.heap.size, hlt, HB.out, rfl⟩
  case bodya =>
    rintro l pre x a' W ⟨h1, h2, h3⟩ hg ⟨bx, hb1, hb2, rfl⟩ hlt hN
    have h8 := right_small hg.right
    have HKEY := Lib.hid (dkey_any x.1 x.2.1 x.2.2 W.heap.size W.drew (hg.lies.kept (S := fun _ => False) (Kept.drew (Kept.refl _ W)) (fun _ _ _ h => h)) hg.cap (Nat.le_trans h8.s (by omega)) (Nat.le_trans h8.c (by omega)))
    have HU := Lib.hid h1; have H2 := Lib.hid h2; have H3 := Lib.hid h3; have HB := Lib.hid hb2
    have HKL := Lib.hid (show (keyD x.1).length ≤ maxLen by have h1 := key_len8 hg.right; unfold maxLen; omega)
    have HST := Lib.hid (show setP [] (dds (pre ++ [x])) = putK id (keyD x.1) (setP [] (dds pre)) by simp [setP, dds, List.foldl_append])
    clear h1 h2 h3 hg hb2 h8
    generalize keyD x.1 = key at *
    have hS : cellsK w.heap.size bx x W.drew := ⟨HU.out.cell, HB.out.c0, HB.out.c1, HB.out.c2, HB.out.c3, HB.out.c4, HB.out.c5⟩
    refine wpIn_block ?_
    refine wpIn_region_round l _ (by rintro ⟨a, w, h⟩; exact h) (by kernel_rfl) (by kernel_rfl) ?_
    change wpAny _ _ _ _ _ _ _ (World.drew _)
    refine wpAny_of_held (S := cellsK w.heap.size bx x) _ _ _ _ ?_
    · skip
      refine wpAnyH_take (i := 0) (oi := { dst := some 17, op := _, type := _, pos := _, after := _, guard := none }) (v := .map (some w.heap.size)) rfl (by kernel_rfl) (by kernel_rfl) (by kernel_rfl) (fun _ _ _ h => h) (Or.inl ⟨by rfl, by intro w hSw; (try dsimp only at hSw); go_simp⟩) (by assumption) ?_; simp only [Act.put, List.setIfInBounds_toArray, List.set_cons_zero, List.set_cons_succ]
      refine wpAnyH_take (i := 1) (oi := { dst := some 18, op := _, type := _, pos := _, after := _, guard := none }) (v := .agg #[.int .i64 x.1.k, .string (bs x.1.c), .string (bs x.1.p), .slice x.2.1 x.1.vs.length x.2.2, .string (bs x.1.s), .string (bs x.1.t)]) rfl (by kernel_rfl) (by kernel_rfl) (by kernel_rfl) (fun _ _ _ h => h) (Or.inl ⟨by rfl, by intro w hSw; (try dsimp only at hSw); go_simp⟩) (by assumption) ?_; simp only [Act.put, List.setIfInBounds_toArray, List.set_cons_zero, List.set_cons_succ]
      refine wpAnyH_take (i := 3) (oi := { dst := some 20, op := _, type := _, pos := _, after := _, guard := none }) (v := .agg #[]) rfl (by kernel_rfl) (by kernel_rfl) (by kernel_rfl) (fun _ _ _ h => h) (Or.inl ⟨by rfl, by intro w hSw; (try dsimp only at hSw); go_simp⟩) (by assumption) ?_; simp only [Act.put, List.setIfInBounds_toArray, List.set_cons_zero, List.set_cons_succ]
      refine wpAnyH_ready (rs := [2]) (by kernel_rfl) (by simp) ?_
      refine AllReadyH.cons rfl (fun K hK => ?_) AllReadyH.nil
      go_simp
      refine HKEY.out.mono ?_
      rintro e w5 ⟨rfl, k5⟩
      have K5 := Lib.hid (show Kept (fun _ => False) W w5 from (Kept.drew (Kept.refl (fun _ => False) W)).trans k5 (fun _ _ h => h))
      have hS5 := cellsK_kept hS k5 (fun h => h) (fun h => h)
      refine hK.out _ _ hS5 (fun hHeld => ?_)
      have U5 := Lib.hid (HU.out.kept K5.out (fun h => h) (fun h => h))
      obtain ⟨w6, hrun, hu6, k6⟩ := U5.out.put key HKL.out (by have := H2.out; have := HNa.out; omega)
      have HRISE := Lib.hid U5.out.tb.rise
      have hS6 := cellsK_kept hS5 k6 (by omega) (by have := HZa.out; omega)
      have U6 := Lib.hid hu6; have K6 := Lib.hid k6
      clear hK K k5 hu6 k6
      try simp only [Act.put, List.setIfInBounds_toArray, List.set_cons_zero, List.set_cons_succ]
      refine wpAnyH_ready (rs := [4]) (by kernel_rfl) (by simp) ?_
      refine AllReadyH.cons rfl (fun K hK => ?_) AllReadyH.nil
      go_simp
      refine hK.out _ _ hS6 (fun hHeld2 => ?_)
      clear hK K
      refine wpAnyH_done (by kernel_rfl) ?_ _
      have K56 : Kept (fun k => k = w.heap.size) W w6 := (K5.out.mono (fun _ _ h => h.elim)).trans K6.out (fun _ _ h => h)
      refine ⟨K56.mono (fun k _ h => HSK.out k (.inl h)), by rw [HST.out]; exact U6.out, by rw [HST.out]; have h4 := putK_le (a := key) HRISE.out; have := H2.out; simp only [List.length_append, List.length_singleton]; omega, trivial⟩
  case donea =>
    rintro xsa Wa hxsa ⟨hua, hsa, hxa⟩ hda
    rw [hxsa] at hua hsa
    have hla : xsa.length = m1.length := by have := congrArg List.length hxsa; rwa [dds_len, dds_len] at this
    rw [hla] at hsa
    have UA := Lib.hid hua; have SA := Lib.hid hsa; have DA := Lib.hid hda
    clear hua hsa hxa hda hxsa
    go_wp2_with fail
    rw [rounds_succ]
    have d1 : Wa.cell? ⟨b, 1, none⟩ = some (.pointer q2) := (UA.out.k.cell (p := ⟨b, 1, none⟩) (World.block_lt_of_cell? _ _ HC1.out) (fun h => h)).trans HC1.out
    have HALL2 := Lib.hid (all_any (.pointer q2) p2 m2 Wa (HP2.out.keep UA.out.k) (HT2.out.keep UA.out.k) (by have := HNb.out; omega))
    go_wp2_with fail
    refine HALL2.out.mono ?_
    rintro e w4 ⟨Bkb, Bmb, rfl, hal⟩
    clear d1
    obtain ⟨kob, kcb, hap, hown⟩ := hal.ap
    have APb := Lib.hid hap
    have HZW := Lib.hid UA.out.sz
    have BKb := Lib.hid (show w.heap.size < Bkb ∧ Bkb < w4.heap.size from ⟨by have := hal.bk; have := HZW.out; omega, World.block_lt_of_cell? _ _ hap.cell⟩)
    have BMb := Lib.hid (show w.heap.size < Bmb ∧ Bmb < w4.heap.size from ⟨by have := hal.bm; have := HZW.out; omega, World.block_lt_of_cell? _ _ hap.tab⟩)
    have KBb := Lib.hid (show m2 ≠ [] → ∀ a, kob = some a → w.heap.size < a.block ∧ a.block < w4.heap.size from fun hne a ha => by have := low_keys hown hne a ha; have := HZW.out; omega)
    have hlta := (Array.getElem?_eq_some_iff.1 DA.out).1
    have D0 := Lib.hid (show w4.heap[w2.heap.size]? = some (.deferred (some [])) from (hal.k.block _ hlta (fun h => h)).trans DA.out)
    have hlt2 : w2.heap.size < w4.heap.size := Nat.lt_of_lt_of_le hlta hal.k.size
    have UWb := Lib.hid (show Uw w (setP (setP [] (dds m1)) (dds [])) w4 from UA.out.kept hal.k (fun h => h) (fun h => h))
    have USb := Lib.hid (show (setP (setP [] (dds m1)) (dds [])).length ≤ 1000 + ([] : List Ent).length from by have := SA.out; have := HNa.out; show (setP [] (dds m1)).length ≤ _; simp; omega)
    have HZb := Lib.hid UWb.out.sz
    have hzb := UWb.out.sz
    clear hal hap hown HALL2 hlta
    go_wp2_with fail
    obtain ⟨Sbb, hSbb⟩ : ∃ Sb : Nat → Prop, Sb = fun k => k = w.heap.size ∨ w4.heap.size + 1 < k := ⟨_, rfl⟩
    have s1 : ¬ Sbb w4.heap.size := by rw [hSbb]; dsimp only; omega
    have s2 : ¬ Sbb (w4.heap.size + 1) := by rw [hSbb]; dsimp only; omega
    have hno : ∀ k, k < w.heap.size ∨ (w.heap.size < k ∧ k < w4.heap.size) → ¬ (Sbb k ∨ k = w4.heap.size ∨ k = w4.heap.size + 1) := fun k hk h => by
      rw [hSbb] at h
      rcases h with (h | h) | h | h <;> omega
    have KP : ∀ A B, Ap p2 m2 Bkb Bmb kob kcb A → Kept (fun k => Sbb k ∨ k = w4.heap.size ∨ k = w4.heap.size + 1) A B → Ap p2 m2 Bkb Bmb kob kcb B := fun A B hA hk =>
      hA.kept hk (hno _ (.inr BKb.out)) (hno _ (.inr BMb.out)) (fun hne a ha => hno _ (.inr (KBb.out hne a ha))) (fun b hb => hno _ (.inl (TBb.out b hb))) (fun e he hv a ha => hno _ (.inl (RBb.out e he hv a ha)))
    have HS1 := Lib.hid s1; have HS2 := Lib.hid s2; have HKPP := Lib.hid KP
    have HSK := Lib.hid (show ∀ k, (k = w.heap.size ∨ w4.heap.size + 1 < k) → Sbb k from fun k hk => by rw [hSbb]; exact hk)
    clear hno KP s1 s2 hSbb
    refine (wpIn_wide (n := 4)).1 ?_
    refine wpIn_rangeG (P := Tryz.prog) (n := 4) (by omega) (gf := 48) (lb := #[.pointer (some ⟨Bkb, 0, none⟩), .pointer (some ⟨Bmb, 0, none⟩)]) rfl (enters_of Tryz.func48 (by kernel_rfl) rfl)
      Sbb HS1.out HS2.out (all1_seq 3 (by omega) p2 m2 Bkb Bmb kob kcb _ HKPP.out w4 APb.out L8b.out (by have := HNb.out; omega)) (Below.refl _ _) (fun _ => rfl)
      (fun pre W => Uw w (setP (setP [] (dds m1)) (dds pre)) W ∧ (setP (setP [] (dds m1)) (dds pre)).length ≤ 1000 + pre.length ∧ W.heap[w2.heap.size]? = some (.deferred (some []))) (fun _ _ => False) ?hIb (fun _ _ _ h _ => h) ?hGb ?h0b
      (fun x a' W => ∃ bx, w4.heap.size + 1 < bx ∧ Bx W bx x.2.1 x.2.2 x.1 ∧ a' = { tmps := #[.slice (some ⟨b, 0, none⟩) 2 cap, undef, .slice none 0 0, .pointer (some ⟨w.heap.size + 1, 0, none⟩), undef, .pointer q2, .pointer (some ⟨bx, 0, none⟩), .map (some w.heap.size), .slice (some ⟨b, 0, none⟩) 2 cap, .int .i64 2, .int .i64 1, .bool true, .pointer (some ⟨b, 1, none⟩), .pointer q2, .pointer q2, .func (.func 48) #[] #[.pointer (some ⟨Bkb, 0, none⟩), .pointer (some ⟨Bmb, 0, none⟩)], .agg #[.int .i64 x.1.k, .string (bs x.1.c), .string (bs x.1.p), .slice x.2.1 x.1.vs.length x.2.2, .string (bs x.1.s), .string (bs x.1.t)], undef, undef, undef, undef, .int .i64 1, undef, undef, undef], defers := [] })
      ?hAxb ?assignb ?bodyb ?doneb (fun _ _ _ h => h.elim)
    case hIb =>
      rintro pre A B ⟨h1, h2, h3⟩ hk
      exact ⟨h1.kept hk (by have := HZb.out; omega) (by have := HZb.out; omega), h2, (hk.block _ (Array.getElem?_eq_some_iff.1 h3).1 (by omega)).trans h3⟩
    case hGb =>
      rintro x A B hx h1 h2 hk
      exact hx.over h1 h2 hk
    case h0b => exact ⟨UWb.out, USb.out, D0.out⟩
    case hAxb =>
      rintro x a' A B ⟨bx, h1, h2, h3⟩ hk
      exact ⟨bx, h1, h2.kept hk (by omega), h3⟩
    case assignb =>
      rintro l pre x W K hi hg hlt hK
      unfold encE
      go_simp
      have HKK := Lib.hid hK; have HB := Lib.hid (bx_new W x.2.1 x.2.2 x.1 43)
      clear hK hi hg
      refine wpIn_region_plain l _ (by rintro ⟨a, w, h⟩; exact h) (by kernel_rfl) ?_
      go_wp2
      exact HKK.out _ _ ((Kept.refl _ W).alloc _) ⟨W.heap.size, hlt, HB.out, rfl⟩
    case bodyb =>
      rintro l pre x a' W ⟨h1, h2, h3⟩ hg ⟨bx, hb1, hb2, rfl⟩ hlt hN
      have h8 := right_small hg.right
      have HKEY := Lib.hid (dkey_any x.1 x.2.1 x.2.2 W.heap.size W.drew (hg.lies.kept (S := fun _ => False) (Kept.drew (Kept.refl _ W)) (fun _ _ _ h => h)) hg.cap (Nat.le_trans h8.s (by omega)) (Nat.le_trans h8.c (by omega)))
      have HU := Lib.hid h1; have H2 := Lib.hid h2; have H3 := Lib.hid h3; have HB := Lib.hid hb2
      have HKL := Lib.hid (show (keyD x.1).length ≤ maxLen by have h1 := key_len8 hg.right; unfold maxLen; omega)
      have HST := Lib.hid (show setP (setP [] (dds m1)) (dds (pre ++ [x])) = putK id (keyD x.1) (setP (setP [] (dds m1)) (dds pre)) by simp [setP, dds, List.foldl_append])
      clear h1 h2 h3 hg hb2 h8
      generalize keyD x.1 = key at *
      have hS : cellsK w.heap.size bx x W.drew := ⟨HU.out.cell, HB.out.c0, HB.out.c1, HB.out.c2, HB.out.c3, HB.out.c4, HB.out.c5⟩
      refine wpIn_block ?_
      refine wpIn_region_round l _ (by rintro ⟨a, w, h⟩; exact h) (by kernel_rfl) (by kernel_rfl) ?_
      change wpAny _ _ _ _ _ _ _ (World.drew _)
      refine wpAny_of_held (S := cellsK w.heap.size bx x) _ _ _ _ ?_
      · skip
        refine wpAnyH_take (i := 0) (oi := { dst := some 17, op := _, type := _, pos := _, after := _, guard := none }) (v := .map (some w.heap.size)) rfl (by kernel_rfl) (by kernel_rfl) (by kernel_rfl) (fun _ _ _ h => h) (Or.inl ⟨by rfl, by intro w hSw; (try dsimp only at hSw); go_simp⟩) (by assumption) ?_; simp only [Act.put, List.setIfInBounds_toArray, List.set_cons_zero, List.set_cons_succ]
        refine wpAnyH_take (i := 1) (oi := { dst := some 18, op := _, type := _, pos := _, after := _, guard := none }) (v := .agg #[.int .i64 x.1.k, .string (bs x.1.c), .string (bs x.1.p), .slice x.2.1 x.1.vs.length x.2.2, .string (bs x.1.s), .string (bs x.1.t)]) rfl (by kernel_rfl) (by kernel_rfl) (by kernel_rfl) (fun _ _ _ h => h) (Or.inl ⟨by rfl, by intro w hSw; (try dsimp only at hSw); go_simp⟩) (by assumption) ?_; simp only [Act.put, List.setIfInBounds_toArray, List.set_cons_zero, List.set_cons_succ]
        refine wpAnyH_take (i := 3) (oi := { dst := some 20, op := _, type := _, pos := _, after := _, guard := none }) (v := .agg #[]) rfl (by kernel_rfl) (by kernel_rfl) (by kernel_rfl) (fun _ _ _ h => h) (Or.inl ⟨by rfl, by intro w hSw; (try dsimp only at hSw); go_simp⟩) (by assumption) ?_; simp only [Act.put, List.setIfInBounds_toArray, List.set_cons_zero, List.set_cons_succ]
        refine wpAnyH_ready (rs := [2]) (by kernel_rfl) (by simp) ?_
        refine AllReadyH.cons rfl (fun K hK => ?_) AllReadyH.nil
        go_simp
        refine HKEY.out.mono ?_
        rintro e w5 ⟨rfl, k5⟩
        have K5 := Lib.hid (show Kept (fun _ => False) W w5 from (Kept.drew (Kept.refl (fun _ => False) W)).trans k5 (fun _ _ h => h))
        have hS5 := cellsK_kept hS k5 (fun h => h) (fun h => h)
        refine hK.out _ _ hS5 (fun hHeld => ?_)
        have U5 := Lib.hid (HU.out.kept K5.out (fun h => h) (fun h => h))
        obtain ⟨w6, hrun, hu6, k6⟩ := U5.out.put key HKL.out (by have := H2.out; have := HNb.out; omega)
        have HRISE := Lib.hid U5.out.tb.rise
        have hS6 := cellsK_kept hS5 k6 (by omega) (by have := HZb.out; omega)
        have U6 := Lib.hid hu6; have K6 := Lib.hid k6
        clear hK K k5 hu6 k6
        try simp only [Act.put, List.setIfInBounds_toArray, List.set_cons_zero, List.set_cons_succ]
        refine wpAnyH_ready (rs := [4]) (by kernel_rfl) (by simp) ?_
        refine AllReadyH.cons rfl (fun K hK => ?_) AllReadyH.nil
        go_simp
        refine hK.out _ _ hS6 (fun hHeld2 => ?_)
        clear hK K
        refine wpAnyH_done (by kernel_rfl) ?_ _
        have K56 : Kept (fun k => k = w.heap.size) W w6 := (K5.out.mono (fun _ _ h => h.elim)).trans K6.out (fun _ _ h => h)
        refine ⟨K56.mono (fun k _ h => HSK.out k (.inl h)), by rw [HST.out]; exact U6.out, by rw [HST.out]; have h4 := putK_le (a := key) HRISE.out; have := H2.out; simp only [List.length_append, List.length_singleton]; omega, (K56.block _ (Array.getElem?_eq_some_iff.1 H3.out).1 (by omega)).trans H3.out⟩
    case doneb =>
      rintro xsb Wb hxsb ⟨hub, hsb, hxb⟩ hdb
      rw [hxsb] at hub hsb
      have hlb : xsb.length = m2.length := by have := congrArg List.length hxsb; rwa [dds_len, dds_len] at this
      rw [hlb] at hsb
      have UB := Lib.hid hub; have SB := Lib.hid hsb; have DB := Lib.hid hdb; have DC := Lib.hid hxb
      clear hub hsb hxb hdb hxsb
      go_wp2_with fail
      rw [rounds_succ]
      have cm := UB.out.cell
      have HMK := Lib.hid (mkeysU_any (some w.heap.size) Wb)
      generalize setP (setP [] (dds m1)) (dds m2) = ks at *
      go_wp2_with fail
      refine HMK.out.mono ?_
      rintro e w6 ⟨rfl, hw6⟩
      have K6 := Lib.hid (show Kept (fun _ => False) Wb w6 by rw [hw6]; exact (Kept.refl (fun _ => False) Wb).alloc _)
      have HUS := Lib.hid (usorted_any w.heap.size ks Wb.heap.size w6 (by rw [hw6]; exact World.cell?_alloc_new Wb _ _ 0) (UB.out.tb.kept K6.out (fun h => h)) (by have := SB.out; have := HNb.out; omega))
      clear hw6
      go_wp2_with fail
      refine HUS.out.mono ?_
      rintro e w7 ⟨ao, kc, rfl, ho, k7⟩
      have K7 := Lib.hid (K6.out.trans k7 (fun _ _ h => h))
      have HO := Lib.hid ho
      have hsz6 := K6.out.size
      have hszb := (Array.getElem?_eq_some_iff.1 DB.out).1
      have hszc := (Array.getElem?_eq_some_iff.1 DC.out).1
      have DB7 := Lib.hid ((K7.out.block _ hszb (fun h => h)).trans DB.out)
      have DC7 := Lib.hid ((K7.out.block _ hszc (fun h => h)).trans DC.out)
      clear ho k7
      go_wp2
      have kd := kept_putObj w7 w4.heap.size (.deferred none)
      have DC8 : (w7.putObj w4.heap.size (.deferred none)).heap[w2.heap.size]? = some (.deferred (some [])) := (World.putObj_heap_other (by omega)).trans DC7.out
      have ke := kept_putObj (w7.putObj w4.heap.size (.deferred none)) w2.heap.size (.deferred none)
      refine ⟨by simp, .inl ⟨_, _, rfl, run_takeDeferred DB7.out, by simp, .inl ⟨_, _, rfl, run_takeDeferred DC8, ?_⟩⟩⟩
      refine ⟨_, results_tmp rfl _ _ _, ao, kc, rfl, ?_, ?_⟩
      · have h1 : ∀ k, (Value.slice ao ks.length kc).ownBlock = some k → w6.heap.size ≤ k := fun k hk => (owns_lt HO.out k hk).1
        exact owns_base (owns_kept (owns_kept HO.out kd (fun k hk e => by have := h1 k hk; omega)) ke (fun k hk e => by have := h1 k hk; omega)) (fun k hk => by have := h1 k hk; have := UB.out.sz; omega)
      · exact ((UB.out.k.trans K7.out (fun _ _ h => h)).trans kd (fun i hi e => by have := UB.out.sz; have := HZb.out; omega)).trans ke (fun i hi e => by have := HZa.out; omega)

end Go.Proofs.YtlnincdmdegaoaaGreat
