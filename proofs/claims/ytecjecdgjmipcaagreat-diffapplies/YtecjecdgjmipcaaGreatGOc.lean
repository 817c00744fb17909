/-
  Lemmas towards the claim of this folder: contracts of the functions that the law reaches; joined texts.
-/
import Derived.Test.YtecjecdgjmipcaaGreatGTg
import Derived.Test.YtecjecdgjmipcaaGreatGTh
import Derived.Test.YtecjecdgjmipcaaGreatGEe
import Derived.Test.YtecjecdgjmipcaaGreatGMb
import Derived.LoopN
/-
  slices.Collect of All's definitions.
-/
namespace Go.Proofs.YtecjecdgjmipcaaGreat
open Go.RowKit Go.Mk Go.Maps Go.Shelf

/-- Collect under way: the box, the row, the definitions' own rows. -/
structure Cl (w : World) (n : Nat) (v : Value) (pre : List Ent) (W : World) : Prop where
  box : W.cell? ⟨w.heap.size, 0, none⟩ = some v
  fz : W.frozen? ⟨w.heap.size, 0, none⟩ = false
  own : W.ownsRow (n + 2) 49 6 v pre.length (cellsE pre)
  nil : pre = [] → v = .slice none 0 0
  rows : ∀ e ∈ pre, (Lies W W.heap.size e.2.1 (strs e.1.vs) ∧ e.1.vs.length ≤ e.2.2) ∧ (strs e.1.vs ≠ [] → ∀ a, e.2.1 = some a → v.ownBlock ≠ some a.block ∧ a.block ≠ w.heap.size ∧ a.block ≠ n ∧ a.block ≠ n + 1)
  k : Kept (fun _ => False) w W

theorem Cl.kept {w : World} {n : Nat} {v : Value} {pre : List Ent} {A B : World} (h : Cl w n v pre A) (hn : w.heap.size < n) (hk : Kept (fun k => k = n ∨ k = n + 1) A B) : Cl w n v pre B := by
  have hlt := World.block_lt_of_cell? _ _ h.box
  have h1 : ¬ (w.heap.size = n ∨ w.heap.size = n + 1) := by omega
  exact ⟨(hk.cell (p := ⟨w.heap.size, 0, none⟩) hlt h1).trans h.box, (hk.frozen (p := ⟨w.heap.size, 0, none⟩) hlt h1).trans h.fz,
    owns_kept h.own hk (fun k hk' e => by have := (owns_lt h.own k hk').1; omega), h.nil,
    fun e he => ⟨⟨((h.rows e he).1.1.kept hk (fun hne a ha hs => by have := (h.rows e he).2 hne a ha; rcases hs with hs | hs; exact this.2.2.1 hs; exact this.2.2.2 hs)).mono hk.size, (h.rows e he).1.2⟩, (h.rows e he).2⟩,
    h.k.trans hk (fun i hi e => by omega)⟩

theorem cell_block {W : World} {b : Nat} {i : Nat} {u : Value} (h : W.cell? ⟨b, i, none⟩ = some u) {n : Nat} (hn : ∃ o, W.heap[n]? = some o ∧ o.isCells = false) : b ≠ n := by
  rintro rfl
  obtain ⟨o, ho, hoc⟩ := hn
  simp only [World.cell?, ho] at h
  cases o <;> simp [Obj.isCells] at hoc h

/-- A row of texts lies apart from all that Collect itself turns. -/
theorem Cl.apart {w : World} {n : Nat} {v : Value} {pre : List Ent} {W : World} (h : Cl w n v pre W) {x : Ent} (hg : GE x W) (h1 : ∃ o, W.heap[n]? = some o ∧ o.isCells = false) (h2 : ∃ o, W.heap[n + 1]? = some o ∧ o.isCells = false) :
    strs x.1.vs ≠ [] → ∀ a, x.2.1 = some a → v.ownBlock ≠ some a.block ∧ a.block ≠ w.heap.size ∧ a.block ≠ n ∧ a.block ≠ n + 1 := by
  intro hne a ha
  have hv : x.1.vs ≠ [] := fun e => hne (by rw [e]; rfl)
  obtain ⟨g, hg0⟩ := hg.off hv
  obtain ⟨b, off, e1, _, hc⟩ := hg.lies hne
  rw [hg0] at e1 ha
  cases e1
  cases ha
  obtain ⟨t, ts, hts⟩ := List.exists_cons_of_ne_nil hv
  have h0 : W.cell? ⟨g, 0, none⟩ = some (.string (bs t)) := hc 0 (.string (bs t)) (by rw [hts]; rfl)
  refine ⟨fun e => ?_, fun e => ?_, cell_block h0 h1, cell_block h0 h2⟩
  · cases pre with
    | nil => rw [h.nil rfl] at e; cases e
    | cons y r =>
      have := h.own.cells e 0 (.int .i64 y.1.k) (by simp [cellsE, cellsE1])
      rw [Addr.add_lit, Nat.zero_add, h0] at this
      cases this
  · dsimp only at e
    rw [e, h.box] at h0
    obtain ⟨ao, cap, rfl⟩ := owns_slice h.own
    cases h0

/-- One definition more. -/
theorem Cl.next {w : World} {n : Nat} {v v' : Value} {pre : List Ent} {W wy : World} (h : Cl w n v pre W) (hn : w.heap.size < n) (hlt : n + 1 < W.heap.size) (x : Ent) (hx : GE x W)
    (ha : strs x.1.vs ≠ [] → ∀ a, x.2.1 = some a → v.ownBlock ≠ some a.block ∧ a.block ≠ w.heap.size ∧ a.block ≠ n ∧ a.block ≠ n + 1) {o : Obj}
    (ho : wy.ownsRow 0 49 6 v' (pre.length + 1) (cellsE pre ++ cellsE1 x)) (hg : (W.alloc o).grownBy wy v.ownBlock) (hb : v'.ownBlock = v.ownBlock ∨ v'.ownBlock = some (W.alloc o).heap.size) :
    Cl w n v' (pre ++ [x]) (wy.setCell ⟨w.heap.size, 0, none⟩ v') ∧ Kept (fun k => k = w.heap.size ∨ n + 1 < k) W (wy.setCell ⟨w.heap.size, 0, none⟩ v') := by
  have hvb : ∀ k, v.ownBlock = some k → n + 2 ≤ k ∧ k < W.heap.size := fun k hk => owns_lt h.own k hk
  have hrow : ∀ k, v'.ownBlock = some k → v.ownBlock = some k ∨ W.heap.size ≤ k := fun k hk => by
    rcases hb with hb | hb
    · rw [hb] at hk; exact .inl hk
    · rw [hb] at hk; cases hk; right; simp
  have k5 : Kept (fun k => v.ownBlock = some k) W wy := Kept.grown ((Kept.refl _ W).alloc _) hg (fun k hk _ => hk)
  have hbl := World.block_lt_of_cell? _ _ h.box
  have hnb : ¬ v.ownBlock = some w.heap.size := fun e => by have := (hvb _ e).1; omega
  have c5 : wy.cell? ⟨w.heap.size, 0, none⟩ = some v := (k5.cell (p := ⟨w.heap.size, 0, none⟩) hbl hnb).trans h.box
  have f5 : wy.frozen? ⟨w.heap.size, 0, none⟩ = false := (k5.frozen (p := ⟨w.heap.size, 0, none⟩) hbl hnb).trans h.fz
  have k6 : Kept (fun k => k = w.heap.size) wy (wy.setCell ⟨w.heap.size, 0, none⟩ v') := Kept.setCell (S := fun k => k = w.heap.size) (p := ⟨w.heap.size, 0, none⟩) (Kept.refl _ wy) (fun _ => rfl) _
  have k56 : Kept (fun k => v.ownBlock = some k ∨ k = w.heap.size) W (wy.setCell ⟨w.heap.size, 0, none⟩ v') := (k5.mono (fun _ _ h => Or.inl h)).trans k6 (fun _ _ h => Or.inr h)
  have one : ∀ e : Ent, (Lies W W.heap.size e.2.1 (strs e.1.vs) ∧ e.1.vs.length ≤ e.2.2) → (strs e.1.vs ≠ [] → ∀ a, e.2.1 = some a → v.ownBlock ≠ some a.block ∧ a.block ≠ w.heap.size ∧ a.block ≠ n ∧ a.block ≠ n + 1) →
      (Lies (wy.setCell ⟨w.heap.size, 0, none⟩ v') (wy.setCell ⟨w.heap.size, 0, none⟩ v').heap.size e.2.1 (strs e.1.vs) ∧ e.1.vs.length ≤ e.2.2) ∧ (strs e.1.vs ≠ [] → ∀ a, e.2.1 = some a → v'.ownBlock ≠ some a.block ∧ a.block ≠ w.heap.size ∧ a.block ≠ n ∧ a.block ≠ n + 1) := fun e h1 h2 => by
    refine ⟨⟨(h1.1.kept k56 (fun hne a ha hs => by rcases hs with hs | hs; exact (h2 hne a ha).1 hs; exact (h2 hne a ha).2.1 hs)).mono k56.size, h1.2⟩, fun hne a ha => ⟨fun e1 => ?_, (h2 hne a ha).2⟩⟩
    rcases hrow _ e1 with e2 | e2
    · exact (h2 hne a ha).1 e2
    · obtain ⟨b, off, e3, hb', _⟩ := h1.1 hne
      rw [e3] at ha
      cases ha
      dsimp only at e2
      omega
  refine ⟨⟨World.cell?_setCell_same _ _ _ c5, by rw [World.frozen?_setCell]; exact f5, ?_, fun e => by simp at e, fun e he => ?_, h.k.trans k56 (fun i hi hs => ?_)⟩, k56.mono (fun k _ hs => ?_)⟩
  · have ho5 := owns_base (base' := n + 2) ho (fun k hk => by
      rcases hrow k hk with h1 | h1
      · exact (hvb k h1).1
      · omega)
    rw [← cellsE_snoc, show pre.length + 1 = (pre ++ [x]).length by simp] at ho5
    exact owns_kept ho5 k6 (fun k hk e => by have := (owns_lt ho5 k hk).1; omega)
  · rcases List.mem_append.1 he with he | he
    · exact one e (h.rows e he).1 (h.rows e he).2
    · rw [List.mem_singleton] at he
      subst he
      exact one e ⟨hx.lies, hx.cap⟩ ha
  · rcases hs with hs | hs
    · have := (hvb _ hs).1; omega
    · omega
  · rcases hs with hs | hs
    · have := (hvb _ hs).1; right; omega
    · exact .inl hs

set_option maxRecDepth 100000 in
set_option maxHeartbeats 2000000 in
theorem dappend_any (p : Option Nat) (m : List Ent) (Bk Bm : Nat) (ko : Option Addr) (kc : Nat) (w : World) (hA : Ap p m Bk Bm ko kc w) (hL : ∀ e ∈ m, Len8 e.1) (hlen : m.length ≤ 1000000) :
    Calls Tryz.prog 81 #[.slice none 0 0, .func (.func 84) #[] #[.pointer (some ⟨Bk, 0, none⟩), .pointer (some ⟨Bm, 0, none⟩)]] w fun e w' => ∃ ao cap q, e = .returned (.slice ao q.length cap) ∧ dds q = dds m ∧ Dq w (.slice ao q.length cap) q w' := by
  obtain ⟨i0, hi, hz0, hz1, hz2⟩ := info_parts Tryz.infoDef
  obtain ⟨wA, hwA⟩ : ∃ wA, w.alloc (.cells #[.slice none 0 0] 22) = wA := ⟨_, rfl⟩
  have KA := Lib.hid (show Kept (fun _ => False) w wA by rw [← hwA]; exact (Kept.refl (fun _ => False) w).alloc _)
  have ZA := Lib.hid (show wA.heap.size = w.heap.size + 1 by rw [← hwA]; simp)
  have CA := Lib.hid (show wA.cell? ⟨w.heap.size, 0, none⟩ = some (.slice none 0 0) by rw [← hwA]; exact World.cell?_alloc_new w _ _ 0)
  have FA := Lib.hid (show wA.frozen? ⟨w.heap.size, 0, none⟩ = false by rw [← hwA]; simp)
  have AP := Lib.hid (hA.keep KA.out)
  have HA := Lib.hid hA; have HL := Lib.hid hL
  clear hA hL
  refine (callsIn_wide (n := 5)).1 ?_
  refine callsIn_of_wp_marks Tryz.func81 rfl trivial ?_ rfl
  refine wpIn_wide.2 ?_
  simp only [Tryz.ntmps81, List.size_toArray, List.length_cons, List.length_nil, Nat.reduceAdd, Nat.reduceSub, Array.replicate_succ, Array.replicate_zero, List.push_toArray, List.append_toArray, List.nil_append, List.cons_append]
  go_wp2_with fail
  clear hwA
  obtain ⟨Sb, hSb⟩ : ∃ Sb : Nat → Prop, Sb = fun k => k = w.heap.size ∨ wA.heap.size + 1 < k := ⟨_, rfl⟩
  have hza := ZA.out
  have s1 : ¬ Sb wA.heap.size := by rw [hSb]; simp; omega
  have s2 : ¬ Sb (wA.heap.size + 1) := by rw [hSb]; simp; omega
  have hno : ∀ k, k < w.heap.size → ¬ (Sb k ∨ k = wA.heap.size ∨ k = wA.heap.size + 1) := fun k hk h => by
    rw [hSb] at h
    rcases h with (h | h) | h | h <;> omega
  have hrows : ∀ e ∈ m, e.1.vs ≠ [] → ∀ a, e.2.1 = some a → a.block < w.heap.size := fun e he hv a ha => by
    obtain ⟨g, off, e1, hb, _⟩ := (HA.out.tb.lies e he).1 (by unfold strs; simpa using hv)
    rw [e1] at ha
    cases ha
    exact hb
  have htab : ∀ b, p = some b → b < w.heap.size := fun b hb => by
    rcases HA.out.tb with ⟨h, _⟩ | ⟨b', h, hb'⟩
    · rw [h] at hb; cases hb
    · rw [h] at hb; cases hb; exact hb'.lt
  have hkeys : m ≠ [] → ∀ a, ko = some a → a.block < w.heap.size := fun hne a ha => by
    obtain ⟨g, off, e1, hb, _⟩ := HA.out.keys (by unfold strs; simpa using hne)
    rw [e1] at ha
    cases ha
    exact hb
  have KP : ∀ A B, Ap p m Bk Bm ko kc A → Kept (fun k => Sb k ∨ k = wA.heap.size ∨ k = wA.heap.size + 1) A B → Ap p m Bk Bm ko kc B := fun A B hA hk =>
    hA.kept hk (hno _ (World.block_lt_of_cell? _ _ HA.out.cell)) (hno _ (World.block_lt_of_cell? _ _ HA.out.tab)) (fun hne a ha => hno _ (hkeys hne a ha)) (fun b hb => hno _ (htab b hb)) (fun e he hv a ha => hno _ (hrows e he hv a ha))
  have HS1 := Lib.hid s1; have HS2 := Lib.hid s2; have HKPP := Lib.hid KP
  have HSK := Lib.hid (show ∀ k, (k = w.heap.size ∨ wA.heap.size + 1 < k) → Sb k from fun k hk => by rw [hSb]; exact hk)
  clear hkeys hrows htab hno KP s1 s2 hSb
  refine (wpIn_wide (n := 4)).1 ?_
  refine wpIn_rangeH (P := Tryz.prog) (n := 4) (by omega) (gf := 84) (lb := #[.pointer (some ⟨Bk, 0, none⟩), .pointer (some ⟨Bm, 0, none⟩)]) rfl (enters_of Tryz.func84 (by kernel_rfl) rfl)
    Sb HS1.out HS2.out (all1_seq 3 (by omega) p m Bk Bm ko kc _ HKPP.out wA AP.out HL.out hlen) (Below.refl _ _) (fun _ => rfl)
    (fun pre W => ∃ v, Cl w wA.heap.size v pre W) (fun _ _ => False) ?hI (fun _ _ _ h _ => h) ?hG ?h0
    (fun x a' W => ∃ bx, wA.heap.size + 1 < bx ∧ Bx W bx x.2.1 x.2.2 x.1 ∧ a' = { tmps := #[.slice none 0 0, .func (.func 84) #[] #[.pointer (some ⟨Bk, 0, none⟩), .pointer (some ⟨Bm, 0, none⟩)], .pointer (some ⟨w.heap.size, 0, none⟩), undef, .slice none 0 0, .pointer (some ⟨bx, 0, none⟩), .func (.func 84) #[] #[.pointer (some ⟨Bk, 0, none⟩), .pointer (some ⟨Bm, 0, none⟩)], .agg #[.int .i64 x.1.k, .string (bs x.1.c), .string (bs x.1.p), .slice x.2.1 x.1.vs.length x.2.2, .string (bs x.1.s), .string (bs x.1.t)], undef, undef, undef, undef, undef], defers := [] })
    ?hAx ?assign ?body ?done (fun _ _ _ h => h.elim)
  case hI =>
    rintro pre A B ⟨v, h⟩ hk
    exact ⟨v, h.kept (by omega) hk⟩
  case hG =>
    rintro x A B hx h1 h2 hk
    exact hx.over h1 h2 hk
  case h0 => exact ⟨.slice none 0 0, CA.out, FA.out, World.ownsRow_nil _ _ _ _, fun _ => rfl, fun _ he => absurd he List.not_mem_nil, KA.out⟩
  case hAx =>
    rintro x a' A B ⟨bx, h1, h2, h3⟩ hk
    exact ⟨bx, h1, h2.kept hk (by omega), h3⟩
  case assign =>
    rintro l pre x W K hi hg hlt hK
    unfold encE
    go_simp
    have HKK := Lib.hid hK; have HB := Lib.hid (bx_new W x.2.1 x.2.2 x.1 49)
    clear hK hi hg
    refine wpIn_region_plain l _ (by rintro ⟨a, w, h⟩; exact h) (by kernel_rfl) ?_
    go_wp2
    exact HKK.out _ _ ((Kept.refl _ W).alloc _) ⟨W.heap.size, hlt, HB.out, rfl⟩
  case body =>
    rintro l pre x a' W ⟨v, h⟩ hg ⟨bx, hb1, hb2, rfl⟩ hn1 hn2 hlt hN
    have HAP := Lib.hid (h.apart hg hn1 hn2)
    obtain ⟨ao, cap, rfl⟩ := owns_slice h.own
    have HC := Lib.hid h; have HG := Lib.hid hg
    have cb := h.box
    obtain ⟨c0, c1, c2, c3, c4, c5⟩ := hb2
    have hvb : ∀ k, (Value.slice ao pre.length cap).ownBlock = some k → k ≠ w.heap.size := fun k hk e => by have := (owns_lt h.own k hk).1; omega
    have HVB := Lib.hid hvb
    clear h hg hn1 hn2 hvb
    refine wpIn_block ?_
    refine wpIn_region_plain l _ (by rintro ⟨a, w, h⟩; exact h) (by kernel_rfl) ?_
    go_wp2_with (at_builtin; refine wpList_app _ rfl (.tmp 8) (.tmp 10) 22 22 rfl 49 i0 (.agg #[.int .i64 0, .string ⟨#[]⟩, .string ⟨#[]⟩, .slice none 0 0, .string ⟨#[]⟩, .string ⟨#[]⟩]) 6 96 Tryz.underlying22 hi hz0 hz1 hz2 rfl _ _ _ rfl ((owns_base (base' := 0) HC.out.own (fun _ _ => Nat.zero_le _)).alloc _) (.slice (some ⟨W.heap.size, 0, none⟩) 1 1) 1 (cellsE1 x) rfl (src_def W x _) ?b1 ?b2 ?next)
    case b1 => unfold maxLen; omega
    case b2 => omega
    case next =>
      intro v' w5 ho5 hg5 hb5 _
      obtain ⟨ao', cap', rfl⟩ := owns_slice ho5
      have hbl := World.block_lt_of_cell? _ _ cb
      have c6 : w5.cell? ⟨w.heap.size, 0, none⟩ = some (.slice ao pre.length cap) := ((kept_of_grown hg5).cell (p := ⟨w.heap.size, 0, none⟩) (by rw [World.size_alloc]; exact Nat.lt_succ_of_lt hbl) (fun e => HVB.out _ e rfl)).trans ((World.cell?_alloc_lt _ _ _ hbl).trans cb)
      have f6 : w5.frozen? ⟨w.heap.size, 0, none⟩ = false := ((kept_of_grown hg5).frozen (p := ⟨w.heap.size, 0, none⟩) (by rw [World.size_alloc]; exact Nat.lt_succ_of_lt hbl) (fun e => HVB.out _ e rfl)).trans ((((Kept.refl (fun _ => False) W).alloc _).frozen (p := ⟨w.heap.size, 0, none⟩) hbl (fun h => h)).trans HC.out.fz)
      have HNX := Lib.hid (HC.out.next (by omega) hlt x HG.out HAP.out ho5 hg5 (by rw [World.size_alloc]; exact hb5))
      clear ho5 hg5 hb5
      go_wp2
      exact ⟨HNX.out.2.mono (fun k _ hk => HSK.out k hk), _, by have h := HNX.out.1; rw [hza] at h; exact h⟩
  case done =>
    rintro xs W hS ⟨v, h⟩ hd
    obtain ⟨ao, cap, rfl⟩ := owns_slice h.own
    have cb := h.box
    have HC := Lib.hid h; have HD := Lib.hid hd
    clear h hd
    go_wp2
    refine ⟨by simp, .inl ⟨_, _, rfl, run_takeDeferred HD.out, ?_⟩⟩
    have kd := kept_putObj W wA.heap.size (.deferred none)
    refine ⟨_, results_tmp rfl _ _ _, ao, cap, xs, rfl, hS, ?_, fun e he => ⟨⟨((HC.out.rows e he).1.1.kept kd (fun hne a ha hs => ((HC.out.rows e he).2 hne a ha).2.2.1 hs)).mono kd.size, (HC.out.rows e he).1.2⟩, fun hne a ha => ((HC.out.rows e he).2 hne a ha).1⟩, HC.out.k.trans kd (fun i hi hs => by omega)⟩
    exact owns_base (owns_kept HC.out.own kd (fun k hk hs => by have := (owns_lt HC.out.own k hk).1; omega)) (fun k hk => by have := (owns_lt HC.out.own k hk).1; omega)

set_option maxHeartbeats 400000 in
theorem dcollect_any (p : Option Nat) (m : List Ent) (Bk Bm : Nat) (ko : Option Addr) (kc : Nat) (w : World) (hA : Ap p m Bk Bm ko kc w) (hL : ∀ e ∈ m, Len8 e.1) (hlen : m.length ≤ 1000000) :
    Calls Tryz.prog 47 #[.func (.func 84) #[] #[.pointer (some ⟨Bk, 0, none⟩), .pointer (some ⟨Bm, 0, none⟩)]] w fun e w' => ∃ ao cap q, e = .returned (.slice ao q.length cap) ∧ dds q = dds m ∧ Dq w (.slice ao q.length cap) q w' := by
  have H := Lib.hid (dappend_any p m Bk Bm ko kc w hA hL hlen)
  clear hA hL hlen
  go_enter Tryz.func47, Tryz.ntmps47
  go_wp2_with fail
  refine H.out.mono ?_
  rintro e w1 ⟨ao, cap, q, rfl, hq, hd⟩
  go_wp2
  go_ret
  exact ⟨ao, cap, q, rfl, hq, hd⟩

end Go.Proofs.YtecjecdgjmipcaaGreat

/-
  CONTRACTS of package diff: keysOf, of two snapshots.
-/
namespace Go.Proofs.YtecjecdgjmipcaaGreat
open Go.RowKit Go.Mk Go.Maps Go.Shelf

def setP (s : List (List UInt8)) (l : List DD) : List (List UInt8) := l.foldl (fun s d => putK id (keyD d) s) s
theorem setP_keys (l m : List DD) : setP (setP [] l) m = keysL (l ++ m) := by unfold setP keysL; rw [List.foldl_append]

theorem key_len8 {d : DD} (h : rightD d = true) : (keyD d).length ≤ 3000000 := by
  have h1 := right_small h
  have := h1.c; have := h1.s
  unfold keyD
  rw [if_pos h]
  split
  · simp; omega
  · omega

/-- The set under way. -/
structure Uw (w : World) (s : List (List UInt8)) (W : World) : Prop where
  tb : TbU W w.heap.size s
  cell : W.cell? ⟨w.heap.size + 1, 0, none⟩ = some (.map (some w.heap.size))
  k : Kept (fun _ => False) w W
  sz : w.heap.size + 2 ≤ W.heap.size

theorem Uw.kept {S : Nat → Prop} {w : World} {s : List (List UInt8)} {A B : World} (h : Uw w s A) (hk : Kept S A B) (h0 : ¬ S w.heap.size) (h1 : ¬ S (w.heap.size + 1)) (hlow : ∀ k, k < w.heap.size → ¬ S k := by first | (intro _ _ h; exact h) | (intro k hk h; omega)) : Uw w s B :=
  ⟨h.tb.kept hk h0, (hk.cell (p := ⟨w.heap.size + 1, 0, none⟩) (World.block_lt_of_cell? _ _ h.cell) h1).trans h.cell, h.k.trans hk (fun i hi e => hlow i hi e), Nat.le_trans h.sz hk.size⟩

theorem uw_new (w : World) : Uw w [] ((w.alloc (.map #[] 0)).alloc (.cells #[.map (some w.heap.size)] 106)) := by
  have h1 := (tbU_new w).kept ((Kept.refl (fun _ => False) _).alloc (.cells #[.map (some w.heap.size)] 106)) (fun h => h)
  have h2 := World.cell?_alloc_new (w.alloc (.map #[] 0)) #[.map (some w.heap.size)] 106 0
  rw [World.size_alloc] at h2
  exact ⟨h1, h2, ((Kept.refl _ w).alloc _).alloc _, by simp⟩

theorem Uw.put {w : World} {s : List (List UInt8)} {W : World} (h : Uw w s W) (k : List UInt8) (hk : k.length ≤ maxLen) (hl : s.length ≤ 1000000) :
    ∃ W', (Instr.mapUpdate 106 (.map (some w.heap.size)) (.string (bs k)) (.agg #[])).run Tryz.prog W = .ok () W' ∧ Uw w (putK id k s) W' ∧ Kept (fun k => k = w.heap.size) W W' := by
  obtain ⟨W', h1, h2, h3⟩ := h.tb.put k hk hl
  exact ⟨W', h1, ⟨h2, (h3.cell (p := ⟨w.heap.size + 1, 0, none⟩) (World.block_lt_of_cell? _ _ h.cell) (by simp)).trans h.cell, h.k.trans h3 (fun i hi e => by omega), Nat.le_trans h.sz h3.size⟩, h3⟩

/-- What a round reads. -/
abbrev cellsK (n bx : Nat) (x : Ent) (w' : World) : Prop := w'.cell? ⟨n + 1, 0, none⟩ = some (.map (some n)) ∧ cells6 bx x.1.k x.1.c x.1.p (.slice x.2.1 x.1.vs.length x.2.2) x.1.s x.1.t w'

theorem cellsK_kept {S : Nat → Prop} {n bx : Nat} {x : Ent} {A B : World} (h : cellsK n bx x A) (hk : Kept S A B) (h1 : ¬ S (n + 1)) (h2 : ¬ S bx) : cellsK n bx x B := by
  obtain ⟨c, q0, q1, q2, q3, q4, q5⟩ := h
  have hb := World.block_lt_of_cell? _ _ q0
  exact ⟨(hk.cell (p := ⟨n + 1, 0, none⟩) (World.block_lt_of_cell? _ _ c) h1).trans c, (hk.cell (p := ⟨bx, 0, none⟩) hb h2).trans q0, (hk.cell (p := ⟨bx, 1, none⟩) hb h2).trans q1, (hk.cell (p := ⟨bx, 2, none⟩) hb h2).trans q2, (hk.cell (p := ⟨bx, 3, none⟩) hb h2).trans q3, (hk.cell (p := ⟨bx, 4, none⟩) hb h2).trans q4, (hk.cell (p := ⟨bx, 5, none⟩) hb h2).trans q5⟩

theorem len8_ent {p : Option Nat} {m : List Ent} {w : World} (h : TbO w p m) : ∀ e ∈ m, Len8 e.1 := fun e he => by
  have h := right_small (h.right e he)
  exact ⟨Nat.le_trans h.c (by omega), Nat.le_trans h.p (by omega), Nat.le_trans h.s (by omega), Nat.le_trans h.t (by omega), Nat.le_trans h.n (by omega), fun x hx => Nat.le_trans (h.v x hx) (by omega)⟩

theorem low_rows {p : Option Nat} {m : List Ent} {w : World} (h : TbO w p m) : ∀ e ∈ m, e.1.vs ≠ [] → ∀ a, e.2.1 = some a → a.block < w.heap.size := fun e he hv a ha => by
  obtain ⟨g, off, e1, hb, _⟩ := (h.lies e he).1 (by unfold strs; simpa using hv)
  rw [e1] at ha
  cases ha
  exact hb

theorem low_tab {p : Option Nat} {m : List Ent} {w : World} (h : TbO w p m) : ∀ b, p = some b → b < w.heap.size := fun b hb => by
  rcases h with ⟨h, _⟩ | ⟨b', h, hb'⟩
  · rw [h] at hb; cases hb
  · rw [h] at hb; cases hb; exact hb'.lt

theorem low_keys {w wx : World} {m : List Ent} {ko : Option Addr} {kc : Nat} (h : wx.ownsRow w.heap.size 9 1 (.slice ko m.length kc) m.length (strs (m.map keyE))) : m ≠ [] → ∀ a, ko = some a → w.heap.size ≤ a.block ∧ a.block < wx.heap.size := fun hne a ha => by
  obtain ⟨g, hg⟩ := owns_off h (by simpa using hne)
  rw [hg] at ha
  cases ha
  exact owns_lt h g (by rw [hg]; rfl)

set_option maxRecDepth 100000 in
set_option maxHeartbeats 4000000 in
theorem dkeysof_any (v u : Value) (l m : List DD) (b cap : Nat) (w : World) (h1 : Sn w v l) (h2 : Sn w u m) (hc0 : w.cell? ⟨b, 0, none⟩ = some v) (hc1 : w.cell? ⟨b, 1, none⟩ = some u) (hl : l.length ≤ 1000) (hm : m.length ≤ 1000) :
    Calls Tryz.prog 40 #[.slice (some ⟨b, 0, none⟩) 2 cap] w (KuPost w (keysL (l ++ m))) := by
  obtain ⟨q1, rfl⟩ := h1.pointer
  obtain ⟨q2, rfl⟩ := h2.pointer
  obtain ⟨p1, m1, hp1, ht1, rfl⟩ := h1
  obtain ⟨p2, m2, hp2, ht2, rfl⟩ := h2
  change Calls _ _ _ _ (KuPost w (keysL (dds m1 ++ dds m2)))
  rw [← setP_keys]
  have hmm := @run_makeMap Tryz.prog
  have HP1 := Lib.hid hp1; have HT1 := Lib.hid ht1; have HP2 := Lib.hid hp2; have HT2 := Lib.hid ht2
  have HC0 := Lib.hid hc0; have HC1 := Lib.hid hc1
  have HNa := Lib.hid (show m1.length ≤ 1000 by simpa using hl)
  have HNb := Lib.hid (show m2.length ≤ 1000 by simpa using hm)
  have L8a := Lib.hid (len8_ent ht1); have L8b := Lib.hid (len8_ent ht2)
  have RBa := Lib.hid (low_rows ht1); have RBb := Lib.hid (low_rows ht2)
  have TBa := Lib.hid (low_tab ht1); have TBb := Lib.hid (low_tab ht2)
  have U0 := Lib.hid (uw_new w)
  have hbl := World.block_lt_of_cell? _ _ hc0
  clear hp1 ht1 hp2 ht2 hc0 hc1 hl hm
  refine (callsIn_wide (n := 5)).1 ?_
  refine callsIn_of_wp_marks Tryz.func40 rfl trivial ?_ rfl
  refine wpIn_wide.2 ?_
  simp only [Tryz.ntmps40, List.size_toArray, List.length_cons, List.length_nil, Nat.reduceAdd, Nat.reduceSub, Array.replicate_succ, Array.replicate_zero, List.push_toArray, List.append_toArray, List.nil_append, List.cons_append]
  obtain ⟨wA, hwA⟩ : ∃ wA, (w.alloc (.map #[] 0)).alloc (.cells #[.map (some w.heap.size)] 106) = wA := ⟨_, rfl⟩
  rw [hwA] at U0
  go_wp2_with fail
  clear hwA
  refine wp_loop_rounds 3 ?_
  rw [rounds_succ]
  have d0 : wA.cell? ⟨b, 0, none⟩ = some (.pointer q1) := (U0.out.k.cell (p := ⟨b, 0, none⟩) (World.block_lt_of_cell? _ _ HC0.out) (fun h => h)).trans HC0.out
  have HALL1 := Lib.hid (all_any (.pointer q1) p1 m1 wA (HP1.out.keep U0.out.k) (HT1.out.keep U0.out.k) (by have := HNa.out; omega))
  go_wp2_with fail
  refine HALL1.out.mono ?_
  rintro e w2 ⟨Bka, Bma, rfl, hal⟩
  clear d0
  obtain ⟨koa, kca, hap, hown⟩ := hal.ap
  have APa := Lib.hid hap
  have HZA := Lib.hid U0.out.sz
  have BKa := Lib.hid (show w.heap.size < Bka ∧ Bka < w2.heap.size from ⟨by have := hal.bk; have := HZA.out; omega, World.block_lt_of_cell? _ _ hap.cell⟩)
  have BMa := Lib.hid (show w.heap.size < Bma ∧ Bma < w2.heap.size from ⟨by have := hal.bm; have := HZA.out; omega, World.block_lt_of_cell? _ _ hap.tab⟩)
  have KBa := Lib.hid (show m1 ≠ [] → ∀ a, koa = some a → w.heap.size < a.block ∧ a.block < w2.heap.size from fun hne a ha => by have := low_keys hown hne a ha; have := HZA.out; omega)
  have UWa := Lib.hid (show Uw w (setP [] (dds [])) w2 from U0.out.kept hal.k (fun h => h) (fun h => h))
  have USa := Lib.hid (show (setP [] (dds [])).length ≤ 0 + ([] : List Ent).length from Nat.le_refl _)
  have HZa := Lib.hid UWa.out.sz
  have hza := UWa.out.sz
  clear hal hap hown HALL1
  go_wp2_with fail
  obtain ⟨Sba, hSba⟩ : ∃ Sb : Nat → Prop, Sb = fun k => k = w.heap.size ∨ w2.heap.size + 1 < k := ⟨_, rfl⟩
  have s1 : ¬ Sba w2.heap.size := by rw [hSba]; dsimp only; omega
  have s2 : ¬ Sba (w2.heap.size + 1) := by rw [hSba]; dsimp only; omega
  have hno : ∀ k, k < w.heap.size ∨ (w.heap.size < k ∧ k < w2.heap.size) → ¬ (Sba k ∨ k = w2.heap.size ∨ k = w2.heap.size + 1) := fun k hk h => by
    rw [hSba] at h
    rcases h with (h | h) | h | h <;> omega
  have KP : ∀ A B, Ap p1 m1 Bka Bma koa kca A → Kept (fun k => Sba k ∨ k = w2.heap.size ∨ k = w2.heap.size + 1) A B → Ap p1 m1 Bka Bma koa kca B := fun A B hA hk =>
    hA.kept hk (hno _ (.inr BKa.out)) (hno _ (.inr BMa.out)) (fun hne a ha => hno _ (.inr (KBa.out hne a ha))) (fun b hb => hno _ (.inl (TBa.out b hb))) (fun e he hv a ha => hno _ (.inl (RBa.out e he hv a ha)))
  have HS1 := Lib.hid s1; have HS2 := Lib.hid s2; have HKPP := Lib.hid KP
  have HSK := Lib.hid (show ∀ k, (k = w.heap.size ∨ w2.heap.size + 1 < k) → Sba k from fun k hk => by rw [hSba]; exact hk)
  clear hno KP s1 s2 hSba
  refine (wpIn_wide (n := 4)).1 ?_
  refine wpIn_rangeG (P := Tryz.prog) (n := 4) (by omega) (gf := 84) (lb := #[.pointer (some ⟨Bka, 0, none⟩), .pointer (some ⟨Bma, 0, none⟩)]) rfl (enters_of Tryz.func84 (by kernel_rfl) rfl)
    Sba HS1.out HS2.out (all1_seq 3 (by omega) p1 m1 Bka Bma koa kca _ HKPP.out w2 APa.out L8a.out (by have := HNa.out; omega)) (Below.refl _ _) (fun _ => rfl)
    (fun pre W => Uw w (setP [] (dds pre)) W ∧ (setP [] (dds pre)).length ≤ 0 + pre.length ∧ True) (fun _ _ => False) ?hIa (fun _ _ _ h _ => h) ?hGa ?h0a
    (fun x a' W => ∃ bx, w2.heap.size + 1 < bx ∧ Bx W bx x.2.1 x.2.2 x.1 ∧ a' = { tmps := #[.slice (some ⟨b, 0, none⟩) 2 cap, undef, .slice none 0 0, .pointer (some ⟨w.heap.size + 1, 0, none⟩), undef, .pointer q1, .pointer (some ⟨bx, 0, none⟩), .map (some w.heap.size), .slice (some ⟨b, 0, none⟩) 2 cap, .int .i64 2, .int .i64 0, .bool true, .pointer (some ⟨b, 0, none⟩), .pointer q1, .pointer q1, .func (.func 84) #[] #[.pointer (some ⟨Bka, 0, none⟩), .pointer (some ⟨Bma, 0, none⟩)], .agg #[.int .i64 x.1.k, .string (bs x.1.c), .string (bs x.1.p), .slice x.2.1 x.1.vs.length x.2.2, .string (bs x.1.s), .string (bs x.1.t)], undef, undef, undef, undef, undef, undef, undef, undef], defers := [] })
    ?hAxa ?assigna ?bodya ?donea (fun _ _ _ h => h.elim)
  case hIa =>
    rintro pre A B ⟨h1, h2, h3⟩ hk
    exact ⟨h1.kept hk (by have := HZa.out; omega) (by have := HZa.out; omega), h2, trivial⟩
  case hGa =>
    rintro x A B hx h1 h2 hk
    exact hx.over h1 h2 hk
  case h0a => exact ⟨UWa.out, USa.out, trivial⟩
  case hAxa =>
    rintro x a' A B ⟨bx, h1, h2, h3⟩ hk
    exact ⟨bx, h1, h2.kept hk (by omega), h3⟩
  case assigna =>
    rintro l pre x W K hi hg hlt hK
    unfold encE
    go_simp
    have HKK := Lib.hid hK; have HB := Lib.hid (bx_new W x.2.1 x.2.2 x.1 49)
    clear hK hi hg
    refine wpIn_region_plain l _ (by rintro ⟨a, w, h⟩; exact h) (by kernel_rfl) ?_
    go_wp2
    exact HKK.out _ _ ((Kept.refl _ W).alloc _) ⟨W.heap.size, hlt, HB.out, rfl⟩
  case bodya =>
    rintro l pre x a' W ⟨h1, h2, h3⟩ hg ⟨bx, hb1, hb2, rfl⟩ hlt hN
    have h8 := right_small hg.right
    have HKEY := Lib.hid (dkey_any x.1 x.2.1 x.2.2 W.heap.size W.drew (hg.lies.kept (S := fun _ => False) (Kept.drew (Kept.refl _ W)) (fun _ _ _ h => h)) hg.cap (Nat.le_trans h8.s (by omega)) (Nat.le_trans h8.c (by omega)))
    have HU := Lib.hid h1; have H2 := Lib.hid h2; have H3 := Lib.hid h3; have HB := Lib.hid hb2
    have HKL := Lib.hid (show (keyD x.1).length ≤ maxLen by have h1 := key_len8 hg.right; unfold maxLen; omega)
    have HST := Lib.hid (show setP [] (dds (pre ++ [x])) = putK id (keyD x.1) (setP [] (dds pre)) by simp [setP, dds, List.foldl_append])
    clear h1 h2 h3 hg hb2 h8
    generalize keyD x.1 = key at *
    have hS : cellsK w.heap.size bx x W.drew := ⟨HU.out.cell, HB.out.c0, HB.out.c1, HB.out.c2, HB.out.c3, HB.out.c4, HB.out.c5⟩
    refine wpIn_block ?_
    refine wpIn_region_round l _ (by rintro ⟨a, w, h⟩; exact h) (by kernel_rfl) (by kernel_rfl) ?_
    change wpAny _ _ _ _ _ _ _ (World.drew _)
    refine wpAny_of_held (S := cellsK w.heap.size bx x) _ _ _ _ ?_
    · skip
      refine wpAnyH_take (i := 0) (oi := { dst := some 17, op := _, type := _, pos := _, after := _, guard := none }) (v := .map (some w.heap.size)) rfl (by kernel_rfl) (by kernel_rfl) (by kernel_rfl) (fun _ _ _ h => h) (Or.inl ⟨by rfl, by intro w hSw; (try dsimp only at hSw); go_simp⟩) (by assumption) ?_; simp only [Act.put, List.setIfInBounds_toArray, List.set_cons_zero, List.set_cons_succ]
      refine wpAnyH_take (i := 1) (oi := { dst := some 18, op := _, type := _, pos := _, after := _, guard := none }) (v := .agg #[.int .i64 x.1.k, .string (bs x.1.c), .string (bs x.1.p), .slice x.2.1 x.1.vs.length x.2.2, .string (bs x.1.s), .string (bs x.1.t)]) rfl (by kernel_rfl) (by kernel_rfl) (by kernel_rfl) (fun _ _ _ h => h) (Or.inl ⟨by rfl, by intro w hSw; (try dsimp only at hSw); go_simp⟩) (by assumption) ?_; simp only [Act.put, List.setIfInBounds_toArray, List.set_cons_zero, List.set_cons_succ]
      refine wpAnyH_take (i := 3) (oi := { dst := some 20, op := _, type := _, pos := _, after := _, guard := none }) (v := .agg #[]) rfl (by kernel_rfl) (by kernel_rfl) (by kernel_rfl) (fun _ _ _ h => h) (Or.inl ⟨by rfl, by intro w hSw; (try dsimp only at hSw); go_simp⟩) (by assumption) ?_; simp only [Act.put, List.setIfInBounds_toArray, List.set_cons_zero, List.set_cons_succ]
      refine wpAnyH_ready (rs := [2]) (by kernel_rfl) (by simp) ?_
      refine AllReadyH.cons rfl (fun K hK => ?_) AllReadyH.nil
      go_simp
      refine HKEY.out.mono ?_
      rintro e w5 ⟨rfl, k5⟩
      have K5 := Lib.hid (show Kept (fun _ => False) W w5 from (Kept.drew (Kept.refl (fun _ => False) W)).trans k5 (fun _ _ h => h))
      have hS5 := cellsK_kept hS k5 (fun h => h) (fun h => h)
      refine hK.out _ _ hS5 (fun hHeld => ?_)
      have U5 := Lib.hid (HU.out.kept K5.out (fun h => h) (fun h => h))
      obtain ⟨w6, hrun, hu6, k6⟩ := U5.out.put key HKL.out (by have := H2.out; have := HNa.out; omega)
      have HRISE := Lib.hid U5.out.tb.rise
      have hS6 := cellsK_kept hS5 k6 (by omega) (by have := HZa.out; omega)
      have U6 := Lib.hid hu6; have K6 := Lib.hid k6
      clear hK K k5 hu6 k6
      try simp only [Act.put, List.setIfInBounds_toArray, List.set_cons_zero, List.set_cons_succ]
      refine wpAnyH_ready (rs := [4]) (by kernel_rfl) (by simp) ?_
      refine AllReadyH.cons rfl (fun K hK => ?_) AllReadyH.nil
      go_simp
      refine hK.out _ _ hS6 (fun hHeld2 => ?_)
      clear hK K
      refine wpAnyH_done (by kernel_rfl) ?_ _
      have K56 : Kept (fun k => k = w.heap.size) W w6 := (K5.out.mono (fun _ _ h => h.elim)).trans K6.out (fun _ _ h => h)
      refine ⟨K56.mono (fun k _ h => HSK.out k (.inl h)), by rw [HST.out]; exact U6.out, by rw [HST.out]; have h4 := putK_le (a := key) HRISE.out; have := H2.out; simp only [List.length_append, List.length_singleton]; omega, trivial⟩
  case donea =>
    rintro xsa Wa hxsa ⟨hua, hsa, hxa⟩ hda
    rw [hxsa] at hua hsa
    have hla : xsa.length = m1.length := by have := congrArg List.length hxsa; rwa [dds_len, dds_len] at this
    rw [hla] at hsa
    have UA := Lib.hid hua; have SA := Lib.hid hsa; have DA := Lib.hid hda
    clear hua hsa hxa hda hxsa
    go_wp2_with fail
    rw [rounds_succ]
    have d1 : Wa.cell? ⟨b, 1, none⟩ = some (.pointer q2) := (UA.out.k.cell (p := ⟨b, 1, none⟩) (World.block_lt_of_cell? _ _ HC1.out) (fun h => h)).trans HC1.out
    have HALL2 := Lib.hid (all_any (.pointer q2) p2 m2 Wa (HP2.out.keep UA.out.k) (HT2.out.keep UA.out.k) (by have := HNb.out; omega))
    go_wp2_with fail
    refine HALL2.out.mono ?_
    rintro e w4 ⟨Bkb, Bmb, rfl, hal⟩
    clear d1
    obtain ⟨kob, kcb, hap, hown⟩ := hal.ap
    have APb := Lib.hid hap
    have HZW := Lib.hid UA.out.sz
    have BKb := Lib.hid (show w.heap.size < Bkb ∧ Bkb < w4.heap.size from ⟨by have := hal.bk; have := HZW.out; omega, World.block_lt_of_cell? _ _ hap.cell⟩)
    have BMb := Lib.hid (show w.heap.size < Bmb ∧ Bmb < w4.heap.size from ⟨by have := hal.bm; have := HZW.out; omega, World.block_lt_of_cell? _ _ hap.tab⟩)
    have KBb := Lib.hid (show m2 ≠ [] → ∀ a, kob = some a → w.heap.size < a.block ∧ a.block < w4.heap.size from fun hne a ha => by have := low_keys hown hne a ha; have := HZW.out; omega)
    have hlta := (Array.getElem?_eq_some_iff.1 DA.out).1
    have D0 := Lib.hid (show w4.heap[w2.heap.size]? = some (.deferred (some [])) from (hal.k.block _ hlta (fun h => h)).trans DA.out)
    have hlt2 : w2.heap.size < w4.heap.size := Nat.lt_of_lt_of_le hlta hal.k.size
    have UWb := Lib.hid (show Uw w (setP (setP [] (dds m1)) (dds [])) w4 from UA.out.kept hal.k (fun h => h) (fun h => h))
    have USb := Lib.hid (show (setP (setP [] (dds m1)) (dds [])).length ≤ 1000 + ([] : List Ent).length from by have := SA.out; have := HNa.out; show (setP [] (dds m1)).length ≤ _; simp; omega)
    have HZb := Lib.hid UWb.out.sz
    have hzb := UWb.out.sz
    clear hal hap hown HALL2 hlta
    go_wp2_with fail
    obtain ⟨Sbb, hSbb⟩ : ∃ Sb : Nat → Prop, Sb = fun k => k = w.heap.size ∨ w4.heap.size + 1 < k := ⟨_, rfl⟩
    have s1 : ¬ Sbb w4.heap.size := by rw [hSbb]; dsimp only; omega
    have s2 : ¬ Sbb (w4.heap.size + 1) := by rw [hSbb]; dsimp only; omega
    have hno : ∀ k, k < w.heap.size ∨ (w.heap.size < k ∧ k < w4.heap.size) → ¬ (Sbb k ∨ k = w4.heap.size ∨ k = w4.heap.size + 1) := fun k hk h => by
      rw [hSbb] at h
      rcases h with (h | h) | h | h <;> omega
    have KP : ∀ A B, Ap p2 m2 Bkb Bmb kob kcb A → Kept (fun k => Sbb k ∨ k = w4.heap.size ∨ k = w4.heap.size + 1) A B → Ap p2 m2 Bkb Bmb kob kcb B := fun A B hA hk =>
      hA.kept hk (hno _ (.inr BKb.out)) (hno _ (.inr BMb.out)) (fun hne a ha => hno _ (.inr (KBb.out hne a ha))) (fun b hb => hno _ (.inl (TBb.out b hb))) (fun e he hv a ha => hno _ (.inl (RBb.out e he hv a ha)))
    have HS1 := Lib.hid s1; have HS2 := Lib.hid s2; have HKPP := Lib.hid KP
    have HSK := Lib.hid (show ∀ k, (k = w.heap.size ∨ w4.heap.size + 1 < k) → Sbb k from fun k hk => by rw [hSbb]; exact hk)
    clear hno KP s1 s2 hSbb
    refine (wpIn_wide (n := 4)).1 ?_
    refine wpIn_rangeG (P := Tryz.prog) (n := 4) (by omega) (gf := 84) (lb := #[.pointer (some ⟨Bkb, 0, none⟩), .pointer (some ⟨Bmb, 0, none⟩)]) rfl (enters_of Tryz.func84 (by kernel_rfl) rfl)
      Sbb HS1.out HS2.out (all1_seq 3 (by omega) p2 m2 Bkb Bmb kob kcb _ HKPP.out w4 APb.out L8b.out (by have := HNb.out; omega)) (Below.refl _ _) (fun _ => rfl)
      (fun pre W => Uw w (setP (setP [] (dds m1)) (dds pre)) W ∧ (setP (setP [] (dds m1)) (dds pre)).length ≤ 1000 + pre.length ∧ W.heap[w2.heap.size]? = some (.deferred (some []))) (fun _ _ => False) ?hIb (fun _ _ _ h _ => h) ?hGb ?h0b
      (fun x a' W => ∃ bx, w4.heap.size + 1 < bx ∧ Bx W bx x.2.1 x.2.2 x.1 ∧ a' = { tmps := #[.slice (some ⟨b, 0, none⟩) 2 cap, undef, .slice none 0 0, .pointer (some ⟨w.heap.size + 1, 0, none⟩), undef, .pointer q2, .pointer (some ⟨bx, 0, none⟩), .map (some w.heap.size), .slice (some ⟨b, 0, none⟩) 2 cap, .int .i64 2, .int .i64 1, .bool true, .pointer (some ⟨b, 1, none⟩), .pointer q2, .pointer q2, .func (.func 84) #[] #[.pointer (some ⟨Bkb, 0, none⟩), .pointer (some ⟨Bmb, 0, none⟩)], .agg #[.int .i64 x.1.k, .string (bs x.1.c), .string (bs x.1.p), .slice x.2.1 x.1.vs.length x.2.2, .string (bs x.1.s), .string (bs x.1.t)], undef, undef, undef, undef, .int .i64 1, undef, undef, undef], defers := [] })
      ?hAxb ?assignb ?bodyb ?doneb (fun _ _ _ h => h.elim)
    case hIb =>
      rintro pre A B ⟨h1, h2, h3⟩ hk
      exact ⟨h1.kept hk (by have := HZb.out; omega) (by have := HZb.out; omega), h2, (hk.block _ (Array.getElem?_eq_some_iff.1 h3).1 (by omega)).trans h3⟩
    case hGb =>
      rintro x A B hx h1 h2 hk
      exact hx.over h1 h2 hk
    case h0b => exact ⟨UWb.out, USb.out, D0.out⟩
    case hAxb =>
      rintro x a' A B ⟨bx, h1, h2, h3⟩ hk
      exact ⟨bx, h1, h2.kept hk (by omega), h3⟩
    case assignb =>
      rintro l pre x W K hi hg hlt hK
      unfold encE
      go_simp
      have HKK := Lib.hid hK; have HB := Lib.hid (bx_new W x.2.1 x.2.2 x.1 49)
      clear hK hi hg
      refine wpIn_region_plain l _ (by rintro ⟨a, w, h⟩; exact h) (by kernel_rfl) ?_
      go_wp2
      exact HKK.out _ _ ((Kept.refl _ W).alloc _) ⟨W.heap.size, hlt, HB.out, rfl⟩
    case bodyb =>
      rintro l pre x a' W ⟨h1, h2, h3⟩ hg ⟨bx, hb1, hb2, rfl⟩ hlt hN
      have h8 := right_small hg.right
      have HKEY := Lib.hid (dkey_any x.1 x.2.1 x.2.2 W.heap.size W.drew (hg.lies.kept (S := fun _ => False) (Kept.drew (Kept.refl _ W)) (fun _ _ _ h => h)) hg.cap (Nat.le_trans h8.s (by omega)) (Nat.le_trans h8.c (by omega)))
      have HU := Lib.hid h1; have H2 := Lib.hid h2; have H3 := Lib.hid h3; have HB := Lib.hid hb2
      have HKL := Lib.hid (show (keyD x.1).length ≤ maxLen by have h1 := key_len8 hg.right; unfold maxLen; omega)
      have HST := Lib.hid (show setP (setP [] (dds m1)) (dds (pre ++ [x])) = putK id (keyD x.1) (setP (setP [] (dds m1)) (dds pre)) by simp [setP, dds, List.foldl_append])
      clear h1 h2 h3 hg hb2 h8
      generalize keyD x.1 = key at *
      have hS : cellsK w.heap.size bx x W.drew := ⟨HU.out.cell, HB.out.c0, HB.out.c1, HB.out.c2, HB.out.c3, HB.out.c4, HB.out.c5⟩
      refine wpIn_block ?_
      refine wpIn_region_round l _ (by rintro ⟨a, w, h⟩; exact h) (by kernel_rfl) (by kernel_rfl) ?_
      change wpAny _ _ _ _ _ _ _ (World.drew _)
      refine wpAny_of_held (S := cellsK w.heap.size bx x) _ _ _ _ ?_
      · skip
        refine wpAnyH_take (i := 0) (oi := { dst := some 17, op := _, type := _, pos := _, after := _, guard := none }) (v := .map (some w.heap.size)) rfl (by kernel_rfl) (by kernel_rfl) (by kernel_rfl) (fun _ _ _ h => h) (Or.inl ⟨by rfl, by intro w hSw; (try dsimp only at hSw); go_simp⟩) (by assumption) ?_; simp only [Act.put, List.setIfInBounds_toArray, List.set_cons_zero, List.set_cons_succ]
        refine wpAnyH_take (i := 1) (oi := { dst := some 18, op := _, type := _, pos := _, after := _, guard := none }) (v := .agg #[.int .i64 x.1.k, .string (bs x.1.c), .string (bs x.1.p), .slice x.2.1 x.1.vs.length x.2.2, .string (bs x.1.s), .string (bs x.1.t)]) rfl (by kernel_rfl) (by kernel_rfl) (by kernel_rfl) (fun _ _ _ h => h) (Or.inl ⟨by rfl, by intro w hSw; (try dsimp only at hSw); go_simp⟩) (by assumption) ?_; simp only [Act.put, List.setIfInBounds_toArray, List.set_cons_zero, List.set_cons_succ]
        refine wpAnyH_take (i := 3) (oi := { dst := some 20, op := _, type := _, pos := _, after := _, guard := none }) (v := .agg #[]) rfl (by kernel_rfl) (by kernel_rfl) (by kernel_rfl) (fun _ _ _ h => h) (Or.inl ⟨by rfl, by intro w hSw; (try dsimp only at hSw); go_simp⟩) (by assumption) ?_; simp only [Act.put, List.setIfInBounds_toArray, List.set_cons_zero, List.set_cons_succ]
        refine wpAnyH_ready (rs := [2]) (by kernel_rfl) (by simp) ?_
        refine AllReadyH.cons rfl (fun K hK => ?_) AllReadyH.nil
        go_simp
        refine HKEY.out.mono ?_
        rintro e w5 ⟨rfl, k5⟩
        have K5 := Lib.hid (show Kept (fun _ => False) W w5 from (Kept.drew (Kept.refl (fun _ => False) W)).trans k5 (fun _ _ h => h))
        have hS5 := cellsK_kept hS k5 (fun h => h) (fun h => h)
        refine hK.out _ _ hS5 (fun hHeld => ?_)
        have U5 := Lib.hid (HU.out.kept K5.out (fun h => h) (fun h => h))
        obtain ⟨w6, hrun, hu6, k6⟩ := U5.out.put key HKL.out (by have := H2.out; have := HNb.out; omega)
        have HRISE := Lib.hid U5.out.tb.rise
        have hS6 := cellsK_kept hS5 k6 (by omega) (by have := HZb.out; omega)
        have U6 := Lib.hid hu6; have K6 := Lib.hid k6
        clear hK K k5 hu6 k6
        try simp only [Act.put, List.setIfInBounds_toArray, List.set_cons_zero, List.set_cons_succ]
        refine wpAnyH_ready (rs := [4]) (by kernel_rfl) (by simp) ?_
        refine AllReadyH.cons rfl (fun K hK => ?_) AllReadyH.nil
        go_simp
        refine hK.out _ _ hS6 (fun hHeld2 => ?_)
        clear hK K
        refine wpAnyH_done (by kernel_rfl) ?_ _
        have K56 : Kept (fun k => k = w.heap.size) W w6 := (K5.out.mono (fun _ _ h => h.elim)).trans K6.out (fun _ _ h => h)
        refine ⟨K56.mono (fun k _ h => HSK.out k (.inl h)), by rw [HST.out]; exact U6.out, by rw [HST.out]; have h4 := putK_le (a := key) HRISE.out; have := H2.out; simp only [List.length_append, List.length_singleton]; omega, (K56.block _ (Array.getElem?_eq_some_iff.1 H3.out).1 (by omega)).trans H3.out⟩
    case doneb =>
      rintro xsb Wb hxsb ⟨hub, hsb, hxb⟩ hdb
      rw [hxsb] at hub hsb
      have hlb : xsb.length = m2.length := by have := congrArg List.length hxsb; rwa [dds_len, dds_len] at this
      rw [hlb] at hsb
      have UB := Lib.hid hub; have SB := Lib.hid hsb; have DB := Lib.hid hdb; have DC := Lib.hid hxb
      clear hub hsb hxb hdb hxsb
      go_wp2_with fail
      rw [rounds_succ]
      have cm := UB.out.cell
      have HMK := Lib.hid (mkeysU_any (some w.heap.size) Wb)
      generalize setP (setP [] (dds m1)) (dds m2) = ks at *
      go_wp2_with fail
      refine HMK.out.mono ?_
      rintro e w6 ⟨rfl, hw6⟩
      have K6 := Lib.hid (show Kept (fun _ => False) Wb w6 by rw [hw6]; exact (Kept.refl (fun _ => False) Wb).alloc _)
      have HUS := Lib.hid (usorted_any w.heap.size ks Wb.heap.size w6 (by rw [hw6]; exact World.cell?_alloc_new Wb _ _ 0) (UB.out.tb.kept K6.out (fun h => h)) (by have := SB.out; have := HNb.out; omega))
      clear hw6
      go_wp2_with fail
      refine HUS.out.mono ?_
      rintro e w7 ⟨ao, kc, rfl, ho, k7⟩
      have K7 := Lib.hid (K6.out.trans k7 (fun _ _ h => h))
      have HO := Lib.hid ho
      have hsz6 := K6.out.size
      have hszb := (Array.getElem?_eq_some_iff.1 DB.out).1
      have hszc := (Array.getElem?_eq_some_iff.1 DC.out).1
      have DB7 := Lib.hid ((K7.out.block _ hszb (fun h => h)).trans DB.out)
      have DC7 := Lib.hid ((K7.out.block _ hszc (fun h => h)).trans DC.out)
      clear ho k7
      go_wp2
      have kd := kept_putObj w7 w4.heap.size (.deferred none)
      have DC8 : (w7.putObj w4.heap.size (.deferred none)).heap[w2.heap.size]? = some (.deferred (some [])) := (World.putObj_heap_other (by omega)).trans DC7.out
      have ke := kept_putObj (w7.putObj w4.heap.size (.deferred none)) w2.heap.size (.deferred none)
      refine ⟨by simp, .inl ⟨_, _, rfl, run_takeDeferred DB7.out, by simp, .inl ⟨_, _, rfl, run_takeDeferred DC8, ?_⟩⟩⟩
      refine ⟨_, results_tmp rfl _ _ _, ao, kc, rfl, ?_, ?_⟩
      · have h1 : ∀ k, (Value.slice ao ks.length kc).ownBlock = some k → w6.heap.size ≤ k := fun k hk => (owns_lt HO.out k hk).1
        exact owns_base (owns_kept (owns_kept HO.out kd (fun k hk e => by have := h1 k hk; omega)) ke (fun k hk e => by have := h1 k hk; omega)) (fun k hk => by have := h1 k hk; have := UB.out.sz; omega)
      · exact ((UB.out.k.trans K7.out (fun _ _ h => h)).trans kd (fun i hi e => by have := UB.out.sz; have := HZb.out; omega)).trans ke (fun i hi e => by have := HZa.out; omega)

end Go.Proofs.YtecjecdgjmipcaaGreat
