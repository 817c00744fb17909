/-
  law08.Is: has a snapshot just these definitions?
-/
import Derived.Test.YtjnpmbdehalmpaaGreatGL7
import Derived.Test.YtjnpmbdehalmpaaGreatGNg
import Derived.Deep.RegionHeld
namespace Go.Proofs.YtjnpmbdehalmpaaGreat
open Go.RowKit Go.Mk Go.Maps Go.Shelf

theorem load_cell {P : Program} {ty : TypeId} {a : Addr} {v : Value} {w : World} (hagg : ∀ w, (isAgg ty).run P w = .ok false w) (hc : w.cell? a = some v) : (loadVar ty a).run P w = .ok v w := by
  simp [loadVar, hagg, hc, go_sem]

/-- Is under way: the list's box, the counter, the answer. -/
structure Iz (w : World) (la : Option Addr) (lc n j : Nat) (W : World) : Prop where
  c : W.cell? ⟨w.heap.size, 0, none⟩ = some (.slice la n lc)
  r : W.cell? ⟨w.heap.size + 1, 0, none⟩ = some (.bool false)
  rf : W.frozen? ⟨w.heap.size + 1, 0, none⟩ = false
  i : W.cell? ⟨w.heap.size + 2, 0, none⟩ = some (.int .i64 (j : Int))
  jf : W.frozen? ⟨w.heap.size + 2, 0, none⟩ = false
  k : Kept (fun k => w.heap.size ≤ k) w W

theorem Iz.kept {S : Nat → Prop} {w : World} {la : Option Addr} {lc n j : Nat} {A B : World} (h : Iz w la lc n j A) (hk : Kept S A B) (h0 : ∀ k, S k → w.heap.size + 3 ≤ k) : Iz w la lc n j B :=
  ⟨(hk.cell (p := ⟨w.heap.size, 0, none⟩) (World.block_lt_of_cell? _ _ h.c) (fun e => by have := h0 _ e; simp at this; omega)).trans h.c,
    (hk.cell (p := ⟨w.heap.size + 1, 0, none⟩) (World.block_lt_of_cell? _ _ h.r) (fun e => by have := h0 _ e; simp at this)).trans h.r,
    (hk.frozen (p := ⟨w.heap.size + 1, 0, none⟩) (World.block_lt_of_cell? _ _ h.r) (fun e => by have := h0 _ e; simp at this)).trans h.rf,
    (hk.cell (p := ⟨w.heap.size + 2, 0, none⟩) (World.block_lt_of_cell? _ _ h.i) (fun e => by have := h0 _ e; simp at this)).trans h.i,
    (hk.frozen (p := ⟨w.heap.size + 2, 0, none⟩) (World.block_lt_of_cell? _ _ h.i) (fun e => by have := h0 _ e; simp at this)).trans h.jf,
    h.k.trans hk (fun i hi e => by have := h0 _ e; omega)⟩

theorem Iz.next {w : World} {la : Option Addr} {lc n j : Nat} {A : World} (h : Iz w la lc n j A) : Iz w la lc n (j + 1) (A.setCell ⟨w.heap.size + 2, 0, none⟩ (.int .i64 ((j : Int) + 1))) := by
  refine ⟨?_, ?_, ?_, ?_, ?_, Kept.setCell (p := ⟨w.heap.size + 2, 0, none⟩) h.k (fun _ => by simp) _⟩
  · rw [World.cell?_setCell_other _ _ _ _ (by simp)]; exact h.c
  · rw [World.cell?_setCell_other _ _ _ _ (by simp)]; exact h.r
  · rw [World.frozen?_setCell]; exact h.rf
  · rw [World.cell?_setCell_same _ _ _ h.i]; simp
  · rw [World.frozen?_setCell]; exact h.jf

theorem take_len {α : Type} (l : List α) (j : Nat) : l.take (l.take j).length = l.take j := by
  rw [List.length_take]
  by_cases h : j ≤ l.length
  · rw [Nat.min_eq_left h]
  · rw [Nat.min_eq_right (by omega), List.take_length, List.take_of_length_le (by omega)]

def isL (l m : List DD) : Bool := decide (l = m)

set_option maxRecDepth 100000 in
set_option maxHeartbeats 2000000 in
theorem is_any (v : Value) (l : List DD) (la : Option Addr) (lc : Nat) (es : List Ent) (w : World) (hs : Sn w v l) (hD : Ds w w.heap.size la es) (hl : l.length ≤ 600) (hv : ∀ e ∈ es, e.1.vs.length ≤ 1000000) :
    Calls Tryz.prog 17 #[v, .slice la es.length lc] w fun e w' => e = .returned (.bool (isL l (dds es))) ∧ Kept (fun _ => False) w w' := by
  obtain ⟨p, m, hp, ht, rfl⟩ := hs
  change Calls _ _ _ _ (fun e w' => e = .returned (.bool (isL (dds m) (dds es))) ∧ Kept (fun _ => False) w w')
  have HP := Lib.hid hp; have HT := Lib.hid ht; have HD := Lib.hid hD; have HV := Lib.hid hv
  have HML := Lib.hid (show m.length ≤ 600 by simpa using hl)
  obtain ⟨wA, hwA⟩ : ∃ wA, (w.alloc (.cells #[.slice la es.length lc] 23)).alloc (.cells #[.bool false] 4) = wA := ⟨_, rfl⟩
  have KA := Lib.hid (show Kept (fun _ => False) w wA by rw [← hwA]; exact ((Kept.refl (fun _ => False) w).alloc _).alloc _)
  have ZA := Lib.hid (show wA.heap.size = w.heap.size + 2 by rw [← hwA]; simp)
  have CA := Lib.hid (show wA.cell? ⟨w.heap.size, 0, none⟩ = some (.slice la es.length lc) by
    rw [← hwA, World.cell?_alloc_lt _ _ _ (by simp)]; exact World.cell?_alloc_new w _ _ 0)
  have RA := Lib.hid (show wA.cell? ⟨w.heap.size + 1, 0, none⟩ = some (.bool false) by
    rw [← hwA]; have := World.cell?_alloc_new (w.alloc (.cells #[.slice la es.length lc] 23)) #[.bool false] 4 0; rwa [World.size_alloc] at this)
  have FA := Lib.hid (show wA.frozen? ⟨w.heap.size + 1, 0, none⟩ = false by rw [← hwA]; simp)
  have HLEN := Lib.hid (fun (wx : World) (h : Kept (fun _ => False) w wx) => slen_any (show Sn wx v (dds m) from ⟨p, m, hp.keep h, ht.keep h, rfl⟩))
  rw [dds_len] at HLEN
  clear hp ht hl hD hv
  refine (callsIn_wide (n := 5)).1 ?_
  refine callsIn_of_wp_marks Tryz.func17 rfl trivial ?_ rfl
  refine wpIn_wide.2 ?_
  simp only [Tryz.ntmps17, List.size_toArray, List.length_cons, List.length_nil, Nat.reduceAdd, Nat.reduceSub, Array.replicate_succ, Array.replicate_zero, List.push_toArray, List.append_toArray, List.nil_append, List.cons_append]
  go_upto_region 1 with fail
  clear hwA
  have hS : wA.drew.cell? ⟨w.heap.size, 0, none⟩ = some (.slice la es.length lc) := CA.out
  have KD := Lib.hid (KA.out.drew)
  refine wp_onlyN ?_
  go_region_held (fun w' => w'.cell? ⟨w.heap.size, 0, none⟩ = some (.slice la es.length lc)) (with_reducible assumption) (first
    | (go_at_call 49; refine (HLEN.out _ KD.out).mono ?_; rintro e w1 ⟨rfl, hw1⟩; have hS1 := hS; rw [hw1] at hS1))
  simp only [onlyN]
  clear hS hS1
  have C1 := Lib.hid (show w1.cell? ⟨w.heap.size, 0, none⟩ = some (.slice la es.length lc) by rw [← hw1]; exact CA.out)
  have R1 := Lib.hid (show w1.cell? ⟨w.heap.size + 1, 0, none⟩ = some (.bool false) by rw [← hw1]; exact RA.out)
  have F1 := Lib.hid (show w1.frozen? ⟨w.heap.size + 1, 0, none⟩ = false by rw [← hw1]; exact FA.out)
  have K1 := Lib.hid (show Kept (fun _ => False) w w1 by rw [← hw1]; exact KD.out)
  have Z1 := Lib.hid (show w1.heap.size = w.heap.size + 2 by rw [← hw1]; exact ZA.out)
  clear hw1 CA RA FA KA ZA KD
  have r1 := R1.out
  have f1 := F1.out
  by_cases hne : m.length = es.length
  · have hq : ((m.length : Int) != (es.length : Int)) = false := by simp [hne]
    have HNE := Lib.hid hne; clear hne
    have KB := Lib.hid (K1.out.alloc (.cells #[.int .i64 0] 3))
    go_wp2_with fail
    refine (all_any v p m _ (HP.out.keep KB.out) (HT.out.keep KB.out) (by have := HML.out; omega)).mono ?_
    rintro e w3 ⟨Bk, Bm, rfl, hal⟩
    obtain ⟨wB, hwB⟩ : ∃ wB, w1.alloc (.cells #[.int .i64 0] 3) = wB := ⟨_, rfl⟩
    have I3 := Lib.hid (show w3.cell? ⟨w1.heap.size, 0, none⟩ = some (.int .i64 0) from (hal.k.cell (p := ⟨w1.heap.size, 0, none⟩) (by simp) (fun h => h)).trans (World.cell?_alloc_new w1 _ _ 0))
    have J3 := Lib.hid (show w3.frozen? ⟨w1.heap.size, 0, none⟩ = false from (hal.k.frozen (p := ⟨w1.heap.size, 0, none⟩) (by simp) (fun h => h)).trans (by simp))
    have K3 := Lib.hid (KB.out.trans hal.k (fun _ _ h => h))
    have M3 := Lib.hid (((Kept.refl (fun _ => False) w1).alloc (.cells #[.int .i64 0] 3)).trans hal.k (fun _ _ h => h))
    have ZB := Lib.hid (show (w1.alloc (.cells #[.int .i64 0] 3)).heap.size = w.heap.size + 3 by rw [World.size_alloc, Z1.out])
    have hz3 := hal.k.size
    rw [ZB.out] at hz3
    obtain ⟨ko, kc, hap, hown⟩ := hal.ap
    have hbk2 := hal.bk
    have hbm2 := hal.bm
    rw [ZB.out] at hown hbk2 hbm2
    have AP := Lib.hid hap; have KO := Lib.hid hown
    have C3 := Lib.hid ((M3.out.cell (p := ⟨w.heap.size, 0, none⟩) (World.block_lt_of_cell? _ _ C1.out) (fun h => h)).trans C1.out)
    have R3 := Lib.hid ((M3.out.cell (p := ⟨w.heap.size + 1, 0, none⟩) (World.block_lt_of_cell? _ _ R1.out) (fun h => h)).trans R1.out)
    have F3 := Lib.hid ((M3.out.frozen (p := ⟨w.heap.size + 1, 0, none⟩) (World.block_lt_of_cell? _ _ R1.out) (fun h => h)).trans F1.out)
    have z1 := Z1.out
    rw [z1] at I3 J3
    clear hal hap hown r1 f1 hwB
    go_wp2_with fail
    obtain ⟨Sb, hSb⟩ : ∃ Sb : Nat → Prop, Sb = fun k => (k = w.heap.size + 1 ∨ k = w.heap.size + 2) ∨ w3.heap.size + 1 < k := ⟨_, rfl⟩
    have s1 : ¬ Sb w3.heap.size := by rw [hSb]; simp; omega
    have s2 : ¬ Sb (w3.heap.size + 1) := by rw [hSb]; simp; omega
    have s3 : ∀ k, k = w.heap.size + 1 ∨ k = w.heap.size + 2 → Sb k := fun k hk => by rw [hSb]; exact .inl hk
    have hkeys : m ≠ [] → ∀ a, ko = some a → w.heap.size + 3 ≤ a.block ∧ a.block < w3.heap.size := fun hne a ha => by
      obtain ⟨g, hg⟩ := owns_off KO.out (by simpa using hne)
      rw [hg] at ha
      cases ha
      exact owns_lt KO.out g (by rw [hg]; rfl)
    have hrows : ∀ e ∈ m, e.1.vs ≠ [] → ∀ a, e.2.1 = some a → a.block < w.heap.size := fun e he hv a ha => by
      obtain ⟨g, off, e1, hb, _⟩ := (HT.out.lies e he).1 (by unfold strs; simpa using hv)
      rw [e1] at ha
      cases ha
      exact hb
    have htab : ∀ b, p = some b → b < w.heap.size := fun b hb => by
      rcases HT.out with ⟨h, _⟩ | ⟨b', h, hb'⟩
      · rw [h] at hb; cases hb
      · rw [h] at hb; cases hb; exact hb'.lt
    have hbk := World.block_lt_of_cell? _ _ AP.out.cell
    have hbm := World.block_lt_of_cell? _ _ AP.out.tab
    simp only at hbk hbm
    have hno : ∀ k, k < w.heap.size ∨ (w.heap.size + 3 ≤ k ∧ k < w3.heap.size) → ¬ (Sb k ∨ k = w3.heap.size ∨ k = w3.heap.size + 1) := fun k hk h => by
      rw [hSb] at h
      rcases h with ((h | h) | h) | h | h <;> omega
    have KP : ∀ A B, Ap p m Bk Bm ko kc A → Kept (fun k => Sb k ∨ k = w3.heap.size ∨ k = w3.heap.size + 1) A B → Ap p m Bk Bm ko kc B := fun A B hA hk =>
      hA.kept hk (hno _ (.inr ⟨hbk2, hbk⟩)) (hno _ (.inr ⟨hbm2, hbm⟩)) (fun hne a ha => hno _ (.inr (hkeys hne a ha))) (fun b hb => hno _ (.inl (htab b hb))) (fun e he hv a ha => hno _ (.inl (hrows e he hv a ha)))
    have HL8 := Lib.hid (show ∀ e ∈ m, Len8 e.1 from fun e he => by
      have h := right_small (HT.out.right e he)
      exact ⟨Nat.le_trans h.c (by omega), Nat.le_trans h.p (by omega), Nat.le_trans h.s (by omega), Nat.le_trans h.t (by omega), Nat.le_trans h.n (by omega), fun x hx => Nat.le_trans (h.v x hx) (by omega)⟩)
    have HS1 := Lib.hid s1; have HS2 := Lib.hid s2; have HS3 := Lib.hid s3; have HKPP := Lib.hid KP
    have IZ := Lib.hid (show Iz w la lc es.length 0 w3 from ⟨C3.out, R3.out, F3.out, I3.out, J3.out, K3.out.mono (fun _ _ h => h.elim)⟩)
    clear hkeys hrows htab hno KP s1 s2 s3 hbk hbm hbk2 hbm2 hSb
    refine (wpIn_wide (n := 4)).1 ?_
    refine wpIn_rangeG (P := Tryz.prog) (n := 4) (by omega) (gf := 85) (lb := #[.pointer (some ⟨Bk, 0, none⟩), .pointer (some ⟨Bm, 0, none⟩)]) rfl (enters_of Tryz.func85 (by kernel_rfl) rfl)
      Sb HS1.out HS2.out (all1_seq 3 (by omega) p m Bk Bm ko kc _ HKPP.out w3 AP.out HL8.out (by have := HML.out; omega)) (Below.refl _ _) (fun _ => rfl)
      (fun pre W => Iz w la lc es.length pre.length W ∧ dds pre = (dds es).take pre.length) (fun pre W => W.cell? ⟨w.heap.size + 1, 0, none⟩ = some (.bool false) ∧ Kept (fun k => w.heap.size ≤ k) w W ∧ ¬ dds pre = (dds es).take pre.length) ?hI ?hIx (fun x A B hx h1 h2 hk => hx.over h1 h2 hk) ⟨IZ.out, rfl⟩
      (fun x a' W => ∃ bx, w3.heap.size + 1 < bx ∧ Bx W bx x.2.1 x.2.2 x.1 ∧ a' = { tmps := #[v, .slice la es.length lc, undef, .pointer (some ⟨w.heap.size, 0, none⟩), .pointer (some ⟨w.heap.size + 1, 0, none⟩), .pointer (some ⟨w.heap.size + 2, 0, none⟩), .pointer (some ⟨bx, 0, none⟩), v, .int .i64 (m.length : Int), .slice la es.length lc, .int .i64 (es.length : Int), .bool false, v, .func (.func 85) #[] #[.pointer (some ⟨Bk, 0, none⟩), .pointer (some ⟨Bm, 0, none⟩)], .agg #[.int .i64 x.1.k, .string (bs x.1.c), .string (bs x.1.p), .slice x.2.1 x.1.vs.length x.2.2, .string (bs x.1.s), .string (bs x.1.t)], undef, undef, undef, undef, undef, undef, undef, undef, undef, undef, undef, undef, undef, undef, undef, undef, undef, undef, undef], defers := [] })
      ?hAx ?assign ?body ?done ?stop
    case hI =>
      rintro pre A B ⟨h1, h2⟩ hk
      exact ⟨h1.kept hk (fun k h => by rcases h with rfl | rfl <;> omega), h2⟩
    case hIx =>
      rintro pre A B ⟨h1, h2, h3⟩ hk
      exact ⟨(hk.cell (p := ⟨w.heap.size + 1, 0, none⟩) (World.block_lt_of_cell? _ _ h1) (by show ¬ (w.heap.size + 1 = w3.heap.size ∨ w.heap.size + 1 = w3.heap.size + 1); omega)).trans h1, h2.trans hk (fun i hi h => by rcases h with rfl | rfl <;> omega), h3⟩
    case hAx =>
      rintro x a' A B ⟨bx, h1, h2, h3⟩ hk
      exact ⟨bx, h1, h2.kept hk (by omega), h3⟩
    case assign =>
      rintro l pre x W K hi hg hlt hK
      unfold encE
      go_simp
      have HKK := Lib.hid hK; have HB := Lib.hid (bx_new W x.2.1 x.2.2 x.1 46)
      clear hK hi hg
      refine wpIn_region_plain l _ (by rintro ⟨a, w, h⟩; exact h) (by kernel_rfl) ?_
      go_wp2
      exact HKK.out _ _ ((Kept.refl _ W).alloc _) ⟨W.heap.size, hlt, HB.out, rfl⟩
    case body =>
      rintro l pre x a' W ⟨h1, h2⟩ hg ⟨bx, hb1, hb2, rfl⟩ hlt hN
      have hlt2 : pre.length < es.length := by have := HNE.out; omega
      obtain ⟨xb, xo, rfl, hxb, hrow⟩ := HD.out.row (by intro h; rw [h] at hlt2; simp at hlt2)
      have hmem := List.getElem_mem hlt2
      have hW : Kept (fun k => w.heap.size ≤ k) w W.drew := h1.k.drew
      obtain ⟨q0, q1, q2, q3, q4, q5⟩ := (hrow pre.length hlt2).kept hW (by omega)
      obtain ⟨c0, c1, c2, c3, c4, c5⟩ := hb2.kept (S := fun _ => False) (Kept.drew (Kept.refl _ W)) (fun h => h)
      have htk := dds_take es pre.length hlt2
      have HDL := Lib.hid (HD.out.lies es[pre.length] hmem)
      have HVL := Lib.hid (HV.out es[pre.length] hmem)
      generalize es[pre.length] = y at *
      have I0 := Lib.hid h1; have H2 := Lib.hid h2; have HG := Lib.hid hg; have HTK := Lib.hid htk
      have HSM := Lib.hid (rsame7_any x.1 y.1 x.2.1 y.2.1 x.2.2 y.2.2 W.heap.size W.drew (hg.lies.kept (S := fun _ => False) (Kept.drew (Kept.refl _ W)) (fun _ _ _ h => h)) ((HDL.out.1.kept hW (fun hn a ha => by
        obtain ⟨b', o', e', hb', _⟩ := HDL.out.1 hn
        rw [e'] at ha; cases ha; show ¬ w.heap.size ≤ b'; omega)).mono (Nat.le_trans h1.k.size (Nat.le_refl _))) (by have := (right_small hg.right).n; omega) (by have := HVL.out; omega))
      have hS : (fun w' => w'.cell? ⟨w.heap.size, 0, none⟩ = some (.slice (some ⟨xb, xo, none⟩) es.length lc) ∧ w'.cell? ⟨w.heap.size + 2, 0, none⟩ = some (.int .i64 (pre.length : Int)) ∧ w'.cell? ⟨bx, 0, none⟩ = some (.int .i64 x.1.k) ∧ w'.cell? ⟨bx, 1, none⟩ = some (.string (bs x.1.c)) ∧ w'.cell? ⟨bx, 2, none⟩ = some (.string (bs x.1.p)) ∧ w'.cell? ⟨bx, 3, none⟩ = some (.slice x.2.1 x.1.vs.length x.2.2) ∧ w'.cell? ⟨bx, 4, none⟩ = some (.string (bs x.1.s)) ∧ w'.cell? ⟨bx, 5, none⟩ = some (.string (bs x.1.t)) ∧ w'.cell? ⟨xb, xo + pre.length * 6, none⟩ = some (.int .i64 y.1.k) ∧ w'.cell? ⟨xb, xo + pre.length * 6 + 1, none⟩ = some (.string (bs y.1.c)) ∧ w'.cell? ⟨xb, xo + pre.length * 6 + 2, none⟩ = some (.string (bs y.1.p)) ∧ w'.cell? ⟨xb, xo + pre.length * 6 + 3, none⟩ = some (.slice y.2.1 y.1.vs.length y.2.2) ∧ w'.cell? ⟨xb, xo + pre.length * 6 + 4, none⟩ = some (.string (bs y.1.s)) ∧ w'.cell? ⟨xb, xo + pre.length * 6 + 5, none⟩ = some (.string (bs y.1.t))) W.drew := ⟨h1.c, h1.i, c0, c1, c2, c3, c4, c5, q0, q1, q2, q3, q4, q5⟩
      have i1 : (pre.length : Int) < (es.length : Int) := by omega
      have hge : decide ((es.length : Int) ≤ (pre.length : Int)) = false := decide_eq_false (by omega)
      clear h1 h2 hg htk q0 q1 q2 q3 q4 q5 c0 c1 c2 c3 c4 c5 hrow hmem hW
      refine wpIn_block ?_
      refine wpIn_seq ?_
      refine wpIn_seq ?_
      refine wpIn_region_round l _ (by rintro ⟨a, w, h⟩; exact h) (by kernel_rfl) (by kernel_rfl) ?_
      change wpAny _ _ _ _ _ _ _ (World.drew _)
      refine wpAny_of_held (S := fun w' => w'.cell? ⟨w.heap.size, 0, none⟩ = some (.slice (some ⟨xb, xo, none⟩) es.length lc) ∧ w'.cell? ⟨w.heap.size + 2, 0, none⟩ = some (.int .i64 (pre.length : Int)) ∧ w'.cell? ⟨bx, 0, none⟩ = some (.int .i64 x.1.k) ∧ w'.cell? ⟨bx, 1, none⟩ = some (.string (bs x.1.c)) ∧ w'.cell? ⟨bx, 2, none⟩ = some (.string (bs x.1.p)) ∧ w'.cell? ⟨bx, 3, none⟩ = some (.slice x.2.1 x.1.vs.length x.2.2) ∧ w'.cell? ⟨bx, 4, none⟩ = some (.string (bs x.1.s)) ∧ w'.cell? ⟨bx, 5, none⟩ = some (.string (bs x.1.t)) ∧ w'.cell? ⟨xb, xo + pre.length * 6, none⟩ = some (.int .i64 y.1.k) ∧ w'.cell? ⟨xb, xo + pre.length * 6 + 1, none⟩ = some (.string (bs y.1.c)) ∧ w'.cell? ⟨xb, xo + pre.length * 6 + 2, none⟩ = some (.string (bs y.1.p)) ∧ w'.cell? ⟨xb, xo + pre.length * 6 + 3, none⟩ = some (.slice y.2.1 y.1.vs.length y.2.2) ∧ w'.cell? ⟨xb, xo + pre.length * 6 + 4, none⟩ = some (.string (bs y.1.s)) ∧ w'.cell? ⟨xb, xo + pre.length * 6 + 5, none⟩ = some (.string (bs y.1.t))) _ _ _ _ ?_
      · skip
        refine wpAnyH_take (i := 0) (oi := { dst := some 15, op := .load 3 (.tmp 5), type := _, pos := _, after := _, guard := none }) (v := .int .i64 (pre.length : Int)) rfl (by kernel_rfl) (by kernel_rfl) (by kernel_rfl) (fun _ _ _ h => h) (Or.inl ⟨by rfl, by intro w hSw; (try dsimp only at hSw); go_simp⟩) (by assumption) ?_; simp only [Act.put, List.setIfInBounds_toArray, List.set_cons_zero, List.set_cons_succ]
        refine wpAnyH_take (i := 1) (oi := { dst := some 16, op := .load 23 (.tmp 3), type := _, pos := _, after := _, guard := none }) (v := .slice (some ⟨xb, xo, none⟩) es.length lc) rfl (by kernel_rfl) (by kernel_rfl) (by kernel_rfl) (fun _ _ _ h => h) (Or.inl ⟨by rfl, by intro w hSw; (try dsimp only at hSw); go_simp⟩) (by assumption) ?_; simp only [Act.put, List.setIfInBounds_toArray, List.set_cons_zero, List.set_cons_succ]
        refine wpAnyH_take (i := 2) (oi := { dst := some 17, op := .call { callee := .builtin .len, args := #[.tmp 16], argTypes := #[23] }, type := _, pos := _, after := _, guard := none }) (v := .int .i64 (es.length : Int)) rfl (by kernel_rfl) (by kernel_rfl) (by kernel_rfl) (fun _ _ _ h => h) (Or.inl ⟨by rfl, by intro w hSw; (try dsimp only at hSw); go_simp⟩) (by assumption) ?_; simp only [Act.put, List.setIfInBounds_toArray, List.set_cons_zero, List.set_cons_succ]
        refine wpAnyH_take (i := 3) (oi := { dst := some 18, op := .binOp .geq 3 (.tmp 15) (.tmp 17) 3, type := _, pos := _, after := _, guard := none }) (v := .bool false) rfl (by kernel_rfl) (by kernel_rfl) (by kernel_rfl) (fun _ _ _ h => h) (Or.inl ⟨by rfl, by intro w hSw; (try dsimp only at hSw); go_simp⟩) (by assumption) ?_; simp only [Act.put, List.setIfInBounds_toArray, List.set_cons_zero, List.set_cons_succ]
        refine wpAnyH_take (i := 4) (oi := { dst := some 19, op := .move (.tmp 18), type := _, pos := _, after := _, guard := none }) (v := .bool false) rfl (by kernel_rfl) (by kernel_rfl) (by kernel_rfl) (fun _ _ _ h => h) (Or.inl ⟨by rfl, by intro w hSw; (try dsimp only at hSw); go_simp⟩) (by assumption) ?_; simp only [Act.put, List.setIfInBounds_toArray, List.set_cons_zero, List.set_cons_succ]
        refine wpAnyH_take (i := 5) (oi := { dst := some 20, op := .load 46 (.tmp 6), type := _, pos := _, after := _, guard := some (4, false) }) (v := .agg #[.int .i64 x.1.k, .string (bs x.1.c), .string (bs x.1.p), .slice x.2.1 x.1.vs.length x.2.2, .string (bs x.1.s), .string (bs x.1.t)]) rfl (by kernel_rfl) (by kernel_rfl) (by kernel_rfl) (fun _ _ _ h => h) (Or.inl ⟨by rfl, by intro w hSw; (try dsimp only at hSw); go_simp⟩) (by assumption) ?_; simp only [Act.put, List.setIfInBounds_toArray, List.set_cons_zero, List.set_cons_succ]
        refine wpAnyH_take (i := 6) (oi := { dst := some 21, op := .load 23 (.tmp 3), type := _, pos := _, after := _, guard := some (4, false) }) (v := .slice (some ⟨xb, xo, none⟩) es.length lc) rfl (by kernel_rfl) (by kernel_rfl) (by kernel_rfl) (fun _ _ _ h => h) (Or.inl ⟨by rfl, by intro w hSw; (try dsimp only at hSw); go_simp⟩) (by assumption) ?_; simp only [Act.put, List.setIfInBounds_toArray, List.set_cons_zero, List.set_cons_succ]
        refine wpAnyH_take (i := 7) (oi := { dst := some 22, op := .load 3 (.tmp 5), type := _, pos := _, after := _, guard := some (4, false) }) (v := .int .i64 (pre.length : Int)) rfl (by kernel_rfl) (by kernel_rfl) (by kernel_rfl) (fun _ _ _ h => h) (Or.inl ⟨by rfl, by intro w hSw; (try dsimp only at hSw); go_simp⟩) (by assumption) ?_; simp only [Act.put, List.setIfInBounds_toArray, List.set_cons_zero, List.set_cons_succ]
        refine wpAnyH_take (i := 8) (oi := { dst := some 23, op := .indexAddr 23 (.tmp 21) (.tmp 22), type := _, pos := _, after := _, guard := some (4, false) }) (v := .pointer (some ⟨xb, xo + pre.length * 6, none⟩)) rfl (by kernel_rfl) (by kernel_rfl) (by kernel_rfl) (fun _ _ _ h => h) (Or.inl ⟨by rfl, by intro w hSw; (try dsimp only at hSw); go_simp⟩) (by assumption) ?_; simp only [Act.put, List.setIfInBounds_toArray, List.set_cons_zero, List.set_cons_succ]
        refine wpAnyH_take (i := 9) (oi := { dst := some 24, op := .load 46 (.tmp 23), type := _, pos := _, after := _, guard := some (4, false) }) (v := .agg #[.int .i64 y.1.k, .string (bs y.1.c), .string (bs y.1.p), .slice y.2.1 y.1.vs.length y.2.2, .string (bs y.1.s), .string (bs y.1.t)]) rfl (by kernel_rfl) (by kernel_rfl) (by kernel_rfl) (fun _ _ _ h => h) (Or.inl ⟨by rfl, by intro w hSw; (try dsimp only at hSw); go_simp⟩) (by assumption) ?_; simp only [Act.put, List.setIfInBounds_toArray, List.set_cons_zero, List.set_cons_succ]
        refine wpAnyH_ready (rs := [10]) (by kernel_rfl) (by simp) ?_
        refine AllReadyH.cons rfl (fun K hK => ?_) AllReadyH.nil
        go_simp
        refine HSM.out.mono ?_
        rintro e w5 ⟨rfl, k5⟩
        have hlx : ∀ {a : Addr} {u : Value}, W.drew.cell? a = some u → w5.cell? a = some u := fun h => (k5.cell (World.block_lt_of_cell? _ _ h) (fun h => h)).trans h
        obtain ⟨t0, t1, t2, t3, t4, t5, t6, t7, t8, t9, t10, t11, t12, t13⟩ := hS
        refine hK.out _ _ ⟨hlx t0, hlx t1, hlx t2, hlx t3, hlx t4, hlx t5, hlx t6, hlx t7, hlx t8, hlx t9, hlx t10, hlx t11, hlx t12, hlx t13⟩ (fun hHeld => ?_)
        have K5 := Lib.hid (show Kept (fun _ => False) W w5 from (Kept.drew (Kept.refl _ W)).trans k5 (fun _ _ h => h))
        have I5 := Lib.hid (I0.out.kept K5.out (fun _ h => h.elim))
        have HSB := Lib.hid (sameB_iff x.1 y.1)
        clear hK K hlx t0 t1 t2 t3 t4 t5 t6 t7 t8 t9 t10 t11 t12 t13 k5
        generalize sameB x.1 y.1 = r at *
        refine wpAnyH_take (i := 11) (oi := { dst := some 26, op := .unOp .not 4 (.tmp 25), type := _, pos := _, after := _, guard := some (4, false) }) (v := .bool (!r)) rfl (by kernel_rfl) (by kernel_rfl) (by kernel_rfl) (fun _ _ _ h => h) (Or.inl ⟨by rfl, by intro w hSw; (try dsimp only at hSw); go_simp⟩) (by assumption) ?_; simp only [Act.put, List.setIfInBounds_toArray, List.set_cons_zero, List.set_cons_succ]
        refine wpAnyH_take (i := 12) (oi := { dst := some 27, op := .pick (.tmp 19) (.const (.bool true)) (.tmp 26), type := _, pos := _, after := _, guard := none }) (v := .bool (!r)) rfl (by kernel_rfl) (by kernel_rfl) (by kernel_rfl) (fun _ _ _ h => h) (Or.inl ⟨by rfl, by intro w hSw; (try dsimp only at hSw); go_simp⟩) (by assumption) ?_; simp only [Act.put, List.setIfInBounds_toArray, List.set_cons_zero, List.set_cons_succ]
        refine wpAnyH_done (by kernel_rfl) ?_ _
        clear hHeld
        refine wpIn_cond_split (t := !r) rfl (fun hr => ?_) (fun hr => ?_)
        · have HX := Lib.hid (show ¬ x.1 = y.1 from fun e => by rw [HSB.out.2 e] at hr; cases hr)
          clear hr
          have r5 := I5.out.r
          have f5 := I5.out.rf
          refine wpIn_seq ?_
          refine wpIn_region_plain l _ (by rintro ⟨a, w, h⟩; exact h) (by kernel_rfl) ?_
          go_wp2
          refine wpIn_ret ?_
          refine ⟨Kept.setCell (p := ⟨w.heap.size + 1, 0, none⟩) (K5.out.mono (fun _ _ h => h.elim)) (fun _ => HS3.out _ (.inl rfl)) _, World.cell?_setCell_same _ _ _ I5.out.r, Kept.setCell (p := ⟨w.heap.size + 1, 0, none⟩) I5.out.k (fun _ => by simp) _, fun e => ?_⟩
          rw [List.length_append, List.length_singleton, HTK.out, show dds (pre ++ [x]) = dds pre ++ [x.1] by simp [dds], H2.out] at e
          exact HX.out (by simpa using e)
        · have HX := Lib.hid (show x.1 = y.1 from HSB.out.1 (by simpa using hr))
          clear hr
          refine wpIn_skip ?_
          change Code.wpIn _ _ _ (Code.region 8 _ false) _ _ _
          have i5 := I5.out.i
          have j5 := I5.out.jf
          have hw8 : IntKind.i64.wrap ((pre.length : Int) + 1) = (pre.length : Int) + 1 := by rw [IntKind.wrap_i64]; have := HML.out; omega
          refine wpIn_region_plain l _ (by rintro ⟨a, w, h⟩; exact h) (by kernel_rfl) ?_
          go_wp2
          have hI := I5.out.next
          refine ⟨Kept.setCell (p := ⟨w.heap.size + 2, 0, none⟩) (K5.out.mono (fun _ _ h => h.elim)) (fun _ => HS3.out _ (.inr rfl)) _, by rw [List.length_append, List.length_singleton]; exact hI, ?_⟩
          rw [List.length_append, List.length_singleton, HTK.out, show dds (pre ++ [x]) = dds pre ++ [x.1] by simp [dds], H2.out, HX.out]
    case done =>
      rintro xs W hS ⟨h1, h2⟩ hd
      have hxl : xs.length = es.length := by
        have := congrArg List.length hS
        rw [dds_len, dds_len] at this
        rw [this, HNE.out]
      have HI := Lib.hid (show isL (dds m) (dds es) = true from decide_eq_true (by rw [← hS, h2, hxl, ← dds_len es, List.take_length]))
      rw [hxl] at h1
      have c1 := h1.c
      have i1 := h1.i
      have r1 := h1.r
      have f1 := h1.rf
      have hd2 : (W.setCell ⟨w.heap.size + 1, 0, none⟩ (.bool true)).heap[w3.heap.size]? = some (.deferred (some [])) := by
        rw [Below.heap_setCell _ _ _ _ (by show w3.heap.size ≠ w.heap.size + 1; omega)]
        exact hd
      have H1 := Lib.hid h1; have HD2 := Lib.hid hd2
      clear h1 h2 hd hd2 hS hxl
      go_wp2
      refine ⟨by simp, .inl ⟨_, _, rfl, run_takeDeferred HD2.out, ?_⟩⟩
      have kd := kept_putObj (W.setCell ⟨w.heap.size + 1, 0, none⟩ (.bool true)) w3.heap.size (.deferred none)
      have e1 : (W.setCell ⟨w.heap.size + 1, 0, none⟩ (.bool true)).cell? ⟨w.heap.size + 1, 0, none⟩ = some (.bool true) := World.cell?_setCell_same _ _ _ H1.out.r
      have e2 := (kd.cell (p := ⟨w.heap.size + 1, 0, none⟩) (World.block_lt_of_cell? _ _ e1) (by show ¬ w.heap.size + 1 = w3.heap.size; omega)).trans e1
      refine ⟨_, results_box rfl rfl (load_cell Tryz.isAgg4 e2), by rw [HI.out], ?_⟩
      have k5 : Kept (fun k => w.heap.size ≤ k) w (W.setCell ⟨w.heap.size + 1, 0, none⟩ (.bool true)) := Kept.setCell (p := ⟨w.heap.size + 1, 0, none⟩) H1.out.k (fun _ => by simp) _
      exact (k5.trans kd (fun i hi e => by omega)).mono (fun k hk h => by omega)
    case stop =>
      rintro pre W ⟨j, hj⟩ ⟨h1, h2, h3⟩ hd
      have HI := Lib.hid (show isL (dds m) (dds es) = false from decide_eq_false (fun e => h3 (by
        rw [e] at hj
        have := take_len (dds es) j
        rw [← hj, dds_len] at this
        exact this.symm)))
      refine wpIn_ret ?_
      refine ⟨by simp, .inl ⟨_, _, rfl, run_takeDeferred hd, ?_⟩⟩
      have kd := kept_putObj W w3.heap.size (.deferred none)
      have e2 := (kd.cell (p := ⟨w.heap.size + 1, 0, none⟩) (World.block_lt_of_cell? _ _ h1) (by show ¬ w.heap.size + 1 = w3.heap.size; omega)).trans h1
      refine ⟨_, results_box rfl rfl (load_cell Tryz.isAgg4 e2), by rw [HI.out], ?_⟩
      exact (h2.trans kd (fun i hi e => by omega)).mono (fun k hk h => by omega)
  · have hq : ((m.length : Int) != (es.length : Int)) = true := by rw [bne_iff_ne]; omega
    have HI := Lib.hid (show isL (dds m) (dds es) = false from decide_eq_false (fun e => hne (by rw [← dds_len, e, dds_len])))
    clear hne
    go_wp2
    have e1 : (w1.setCell ⟨w.heap.size + 1, 0, none⟩ (.bool false)).cell? ⟨w.heap.size + 1, 0, none⟩ = some (.bool false) := World.cell?_setCell_same _ _ _ R1.out
    refine ⟨_, results_box rfl rfl (load_cell Tryz.isAgg4 e1), by rw [HI.out], ?_⟩
    exact K1.out.trans (Kept.setCell (S := fun k => k = w.heap.size + 1) (p := ⟨w.heap.size + 1, 0, none⟩) (Kept.refl _ w1) (fun _ => rfl) _) (fun i hi e => by omega)

end Go.Proofs.YtjnpmbdehalmpaaGreat
