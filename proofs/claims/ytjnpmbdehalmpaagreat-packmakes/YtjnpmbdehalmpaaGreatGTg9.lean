/-
  Lemmas towards the claim of this folder: contracts of the functions that the law reaches; joined texts.
-/
import Derived.Test.YtjnpmbdehalmpaaGreatGTg
import Derived.Test.YtjnpmbdehalmpaaGreatGR11a
/-
  A RANGE OVER A FUNCTION whose values lead to memory of their own (as Tg's law): the body is told, too, that the loop's own blocks are no cells. Over no program.
-/
namespace Go.Mk
open Go.RowKit

section
variable {P : Program}

theorem wpIn_rangeH {α : Type} {g : Operand} {ps : Array Tmp} {assign body : Code} {Q : Exit → Act → World → Prop} {a : Act} {w : World} {n : Nat} (h1 : 1 ≤ n) {gf : Nat} {lb : Array Value}
    (hg : a.eval g = .func (.func gf) #[] lb) (eg : ∀ args w, (callFunc gf args).run P w = .ok (.enter gf args) w)
    {encs : α → Array Value} {G : α → World → Prop} {S Sp : List α → Prop} {N : Nat} {w0 : World} (Sb : Nat → Prop) (hS1 : ¬ Sb w.heap.size) (hS2 : ¬ Sb (w.heap.size + 1))
    (hseq : SeqG (n - 1) P gf lb encs G (Kept (fun k => Sb k ∨ k = w.heap.size ∨ k = w.heap.size + 1)) S Sp N w0) (hb0 : Below w0.heap.size w0 w) (hps : ∀ x, (encs x).size = ps.size)
    (I Ix : List α → World → Prop) (hI : ∀ pre A B, I pre A → Kept (fun k => k = w.heap.size ∨ k = w.heap.size + 1) A B → I pre B) (hIx : ∀ pre A B, Ix pre A → Kept (fun k => k = w.heap.size ∨ k = w.heap.size + 1) A B → Ix pre B)
    (hG : ∀ x A B, G x A → (∃ o, A.heap[w.heap.size]? = some o ∧ o.isCells = false) → (∃ o, A.heap[w.heap.size + 1]? = some o ∧ o.isCells = false) → Kept (fun k => k = w.heap.size ∨ k = w.heap.size + 1) A B → G x B) (h0 : I [] w)
    (Ax : α → Act → World → Prop) (hAx : ∀ x a' A B, Ax x a' A → Kept (fun k => k = w.heap.size ∨ k = w.heap.size + 1) A B → Ax x a' B)
    (hassign : ∀ (l : Nat) (pre : List α) (x : α) (W : World) (K : Act → World → Prop), I pre W → G x W → w.heap.size + 1 < W.heap.size → (∀ a' W', Kept (fun _ => False) W W' → Ax x a' W' → K a' W') →
      assign.wpIn (Fence.wide.inRound l) (n - 1 - 1) P (Exit.then K (fun _ _ _ => False)) { tmps := (ps.zip (encs x)).foldl (fun t (p, v) => t.setIfInBounds p v) a.tmps, defers := [] } W)
    (hbody : ∀ (l : Nat) (pre : List α) (x : α) (a' : Act) (W : World), I pre W → G x W → Ax x a' W → (∃ o, W.heap[w.heap.size]? = some o ∧ o.isCells = false) → (∃ o, W.heap[w.heap.size + 1]? = some o ∧ o.isCells = false) → w.heap.size + 1 < W.heap.size → pre.length < N → body.wpIn (Fence.wide.inRound l) (n - 1 - 1) P (roundPost Sb I Ix (pre ++ [x]) W) a' W)
    (hdone : ∀ (xs : List α) (W : World), S xs → I xs W → W.heap[w.heap.size]? = some (.deferred (some [])) → Q .normal { a with defers := { target := .collected w.heap.size, args := #[] } :: a.defers } W)
    (hstop : ∀ (pre : List α) (W : World), Sp pre → Ix pre W → W.heap[w.heap.size]? = some (.deferred (some [])) → Code.ret.wpIn Fence.wide n P Q { a with defers := { target := .collected w.heap.size, args := #[] } :: a.defers } W) :
    (Code.rangeFunc g ps assign body).wpIn Fence.wide n P Q a w := by
  refine wpIn_rangeFunc ?_
  intro fn hfn
  -- the loop's record, in whatever state
  obtain ⟨rec, hrec⟩ : ∃ rec : LoopState → Option Code → Loop, rec = fun st pe => { state := st, pending := pe, fn, tmps := a.tmps, params := ps, assign, body, defers := w.heap.size } := ⟨_, rfl⟩
  obtain ⟨W1, hW1⟩ : ∃ W1, (w.alloc (.deferred (some []))).alloc (.loop (rec .ready none)) = W1 := ⟨_, rfl⟩
  have kW1 : Kept (fun _ => False) w W1 := by rw [← hW1]; exact ((Kept.refl _ w).alloc _).alloc _
  have hL1 : W1.heap[w.heap.size + 1]? = some (.loop (rec .ready none)) := by
    have := World.alloc_heap_new (w.alloc (.deferred (some []))) (.loop (rec .ready none))
    rw [World.size_alloc, hW1] at this
    exact this
  have hD1 : W1.heap[w.heap.size]? = some (.deferred (some [])) := by
    rw [← hW1]
    exact (Below.heap_alloc _ _ _ (by simp)).trans (World.alloc_heap_new w _)
  have two : ∀ {A B : World}, Kept (fun k => k = w.heap.size + 1) A B → Kept (fun k => k = w.heap.size ∨ k = w.heap.size + 1) A B := fun h => h.mono (fun _ _ e => .inr e)
  have non : ∀ {A B : World}, Kept (fun _ => False) A B → Kept (fun k => k = w.heap.size ∨ k = w.heap.size + 1) A B := fun h => h.mono (fun _ _ e => e.elim)
  refine ⟨w.heap.size + 1, [{ target := .collected w.heap.size, args := #[] }], W1, { target := .fn (.func gf) lb, args := #[.func (.yield (w.heap.size + 1)) #[] #[]] }, W1, gf,
    #[.func (.yield (w.heap.size + 1)) #[] #[]] ++ lb, W1, ?_, ?_, ?_, ?_, fun _ => h1, ?_⟩
  · rw [← hW1, hrec]; exact run_enterLoop_outer _ _ _ _ _
  · simp only [resolve, hg]
    simp [go_sem]
  · intro f' _; trivial
  · simp [invoke, go_sem, eg]
  · refine (hseq (w.heap.size + 1)
      (fun pre W => I pre W ∧ W.heap[w.heap.size + 1]? = some (.loop (rec .ready none)) ∧ W.heap[w.heap.size]? = some (.deferred (some [])))
      (fun pre W => Ix pre W ∧ W.heap[w.heap.size + 1]? = some (.loop (rec .done (some .ret))) ∧ W.heap[w.heap.size]? = some (.deferred (some [])))
      W1 (hb0.trans (kW1.below hb0.size (fun _ h => h.elim))) ?_ ?_ ⟨hI _ _ _ h0 (non kW1), hL1, hD1⟩).mono ?_
    · rintro pre A B ⟨hi, hl, hd⟩ hk
      exact ⟨hI _ _ _ hi (non hk), (hk.block _ (Array.getElem?_eq_some_iff.1 hl).1 (fun h => h)).trans hl, (hk.block _ (Array.getElem?_eq_some_iff.1 hd).1 (fun h => h)).trans hd⟩
    · -- one round
      rintro pre x W ⟨hi, hl, hd⟩ hg' hN
      have hlt : w.heap.size + 1 < W.heap.size := (Array.getElem?_eq_some_iff.1 hl).1
      have hy := run_yield (P := P) (args := encs x) hl (by rw [hrec]; exact hps x)
      rw [hrec] at hy
      refine ⟨fn, _, assign, body, hy, roundIn_of_wpIn hfn (hassign _ pre x W _ hi hg' hlt ?_)⟩
      clear hy
      intro a' Wa ka hax
      have hla : Wa.heap[w.heap.size + 1]? = some (.loop (rec .ready none)) := (ka.block _ hlt (fun h => h)).trans hl
      have hda : Wa.heap[w.heap.size]? = some (.deferred (some [])) := (ka.block _ (by omega) (fun h => h)).trans hd
      have hia := hI _ _ _ hi (non ka)
      have hga := hG _ _ _ hg' ⟨_, hd, rfl⟩ ⟨_, hl, rfl⟩ (non ka)
      have hlta : w.heap.size + 1 < Wa.heap.size := Nat.lt_of_lt_of_le hlt ka.size
      refine ⟨_, run_beginRound hla (by rw [hrec]), ?_⟩
      obtain ⟨Wb, hWb⟩ : ∃ Wb, Wa.putObj (w.heap.size + 1) (.loop { rec .ready none with state := .busy }) = Wb := ⟨_, rfl⟩
      have kb : Kept (fun k => k = w.heap.size + 1) Wa Wb := by rw [← hWb]; exact kept_putObj _ _ _
      have hlb : Wb.heap[w.heap.size + 1]? = some (.loop { rec .ready none with state := .busy }) := by rw [← hWb]; exact World.putObj_heap_same hlta
      have hdb : Wb.heap[w.heap.size]? = some (.deferred (some [])) := (kb.block _ (by omega) (by omega)).trans hda
      rw [hWb]
      refine wpIn_mono (hbody _ pre x a' Wb (hI _ _ _ hia (two kb)) (hG _ _ _ hga ⟨_, hda, rfl⟩ ⟨_, hla, rfl⟩ (two kb)) (hAx _ _ _ _ hax (two kb)) ⟨_, hdb, rfl⟩ ⟨_, hlb, rfl⟩ (Nat.lt_of_lt_of_le hlta kb.size) hN) ?_
      -- behind the body
      have fin : ∀ (jump : Option Code) (W3 : World), Kept Sb Wb W3 → ∃ W4, (Instr.endRound (w.heap.size + 1) jump).run P W3 = .ok (.bool jump.isNone) W4 ∧ Kept (fun k => k = w.heap.size + 1) W3 W4 ∧
          W4.heap[w.heap.size + 1]? = some (.loop (rec (if jump.isNone then .ready else .done) jump)) ∧ W4.heap[w.heap.size]? = some (.deferred (some [])) := fun jump W3 k3 => by
        have hl3 : W3.heap[w.heap.size + 1]? = some (.loop { rec .ready none with state := .busy }) := (k3.block _ (Array.getElem?_eq_some_iff.1 hlb).1 hS2).trans hlb
        have hd3 : W3.heap[w.heap.size]? = some (.deferred (some [])) := (k3.block _ (Array.getElem?_eq_some_iff.1 hdb).1 hS1).trans hdb
        have hr := run_endRound (P := P) jump hl3
        rw [hrec] at hr ⊢
        exact ⟨_, hr, kept_putObj _ _ _, World.putObj_heap_same (Array.getElem?_eq_some_iff.1 hl3).1, (World.putObj_heap_other (by omega)).trans hd3⟩
      rintro e a3 W3 hp
      cases e with
      | normal =>
        obtain ⟨k3, hi3⟩ := hp
        obtain ⟨W4, hr, k4, hl4, hd4⟩ := fin none W3 k3
        refine ⟨_, _, hr, .inl ⟨rfl, ⟨hI _ _ _ hi3 (two k4), hl4, hd4⟩, ?_⟩⟩
        refine (((ka.mono (fun _ _ h => h.elim)).trans kb (fun _ _ h => .inr (.inr h))).trans k3 (fun _ _ h => .inl h)).trans k4 (fun _ _ h => .inr (.inr h))
      | ret =>
        obtain ⟨k3, hi3⟩ := hp
        obtain ⟨W4, hr, k4, hl4, hd4⟩ := fin (some .ret) W3 k3
        exact ⟨_, _, hr, .inr ⟨rfl, hIx _ _ _ hi3 (two k4), hl4, hd4⟩⟩
      | exit id => exact hp.elim
      | goto t => exact hp.elim
      | panic ch => exact hp.elim
      | outgrown => exact hp.elim
    · -- behind the iterator
      rintro e W2 ⟨⟨v, rfl⟩, (⟨xs, hS, hi, hl, hd⟩ | ⟨pre, hSp, hi, hl, hd⟩)⟩
      · have hr := run_endLoop (P := P) hl (by rw [hrec]; simp)
        rw [hrec] at hr
        exact ⟨none, _, hr, hdone xs _ hS (hI _ _ _ hi (two (kept_putObj _ _ _))) ((World.putObj_heap_other (by omega)).trans hd)⟩
      · have hr := run_endLoop (P := P) hl (by rw [hrec]; simp)
        rw [hrec] at hr
        exact ⟨some .ret, _, hr, hstop pre _ hSp (hIx _ _ _ hi (two (kept_putObj _ _ _))) ((World.putObj_heap_other (by omega)).trans hd)⟩

end

end Go.Mk

/-
  slices.Collect of All's definitions.
-/
namespace Go.Proofs.YtjnpmbdehalmpaaGreat
open Go.RowKit Go.Mk Go.Maps Go.Shelf

/-- Collect under way: the box, the row, the definitions' own rows. -/
structure Cl (w : World) (n : Nat) (v : Value) (pre : List Ent) (W : World) : Prop where
  box : W.cell? ⟨w.heap.size, 0, none⟩ = some v
  fz : W.frozen? ⟨w.heap.size, 0, none⟩ = false
  own : W.ownsRow (n + 2) 46 6 v pre.length (cellsE pre)
  nil : pre = [] → v = .slice none 0 0
  rows : ∀ e ∈ pre, (Lies W W.heap.size e.2.1 (strs e.1.vs) ∧ e.1.vs.length ≤ e.2.2) ∧ (strs e.1.vs ≠ [] → ∀ a, e.2.1 = some a → v.ownBlock ≠ some a.block ∧ a.block ≠ w.heap.size ∧ a.block ≠ n ∧ a.block ≠ n + 1)
  k : Kept (fun _ => False) w W

theorem Cl.kept {w : World} {n : Nat} {v : Value} {pre : List Ent} {A B : World} (h : Cl w n v pre A) (hn : w.heap.size < n) (hk : Kept (fun k => k = n ∨ k = n + 1) A B) : Cl w n v pre B := by
  have hlt := World.block_lt_of_cell? _ _ h.box
  have h1 : ¬ (w.heap.size = n ∨ w.heap.size = n + 1) := by omega
  exact ⟨(hk.cell (p := ⟨w.heap.size, 0, none⟩) hlt h1).trans h.box, (hk.frozen (p := ⟨w.heap.size, 0, none⟩) hlt h1).trans h.fz,
    owns_kept h.own hk (fun k hk' e => by have := (owns_lt h.own k hk').1; omega), h.nil,
    fun e he => ⟨⟨((h.rows e he).1.1.kept hk (fun hne a ha hs => by have := (h.rows e he).2 hne a ha; rcases hs with hs | hs; exact this.2.2.1 hs; exact this.2.2.2 hs)).mono hk.size, (h.rows e he).1.2⟩, (h.rows e he).2⟩,
    h.k.trans hk (fun i hi e => by omega)⟩

theorem cell_block {W : World} {b : Nat} {i : Nat} {u : Value} (h : W.cell? ⟨b, i, none⟩ = some u) {n : Nat} (hn : ∃ o, W.heap[n]? = some o ∧ o.isCells = false) : b ≠ n := by
  rintro rfl
  obtain ⟨o, ho, hoc⟩ := hn
  simp only [World.cell?, ho] at h
  cases o <;> simp [Obj.isCells] at hoc h

/-- A row of texts lies apart from all that Collect itself turns. -/
theorem Cl.apart {w : World} {n : Nat} {v : Value} {pre : List Ent} {W : World} (h : Cl w n v pre W) {x : Ent} (hg : GE x W) (h1 : ∃ o, W.heap[n]? = some o ∧ o.isCells = false) (h2 : ∃ o, W.heap[n + 1]? = some o ∧ o.isCells = false) :
    strs x.1.vs ≠ [] → ∀ a, x.2.1 = some a → v.ownBlock ≠ some a.block ∧ a.block ≠ w.heap.size ∧ a.block ≠ n ∧ a.block ≠ n + 1 := by
  intro hne a ha
  have hv : x.1.vs ≠ [] := fun e => hne (by rw [e]; rfl)
  obtain ⟨g, hg0⟩ := hg.off hv
  obtain ⟨b, off, e1, _, hc⟩ := hg.lies hne
  rw [hg0] at e1 ha
  cases e1
  cases ha
  obtain ⟨t, ts, hts⟩ := List.exists_cons_of_ne_nil hv
  have h0 : W.cell? ⟨g, 0, none⟩ = some (.string (bs t)) := hc 0 (.string (bs t)) (by rw [hts]; rfl)
  refine ⟨fun e => ?_, fun e => ?_, cell_block h0 h1, cell_block h0 h2⟩
  · cases pre with
    | nil => rw [h.nil rfl] at e; cases e
    | cons y r =>
      have := h.own.cells e 0 (.int .i64 y.1.k) (by simp [cellsE, cellsE1])
      rw [Addr.add_lit, Nat.zero_add, h0] at this
      cases this
  · dsimp only at e
    rw [e, h.box] at h0
    obtain ⟨ao, cap, rfl⟩ := owns_slice h.own
    cases h0

/-- One definition more. -/
theorem Cl.next {w : World} {n : Nat} {v v' : Value} {pre : List Ent} {W wy : World} (h : Cl w n v pre W) (hn : w.heap.size < n) (hlt : n + 1 < W.heap.size) (x : Ent) (hx : Lies W W.heap.size x.2.1 (strs x.1.vs) ∧ x.1.vs.length ≤ x.2.2)
    (ha : strs x.1.vs ≠ [] → ∀ a, x.2.1 = some a → v.ownBlock ≠ some a.block ∧ a.block ≠ w.heap.size ∧ a.block ≠ n ∧ a.block ≠ n + 1) {o : Obj}
    (ho : wy.ownsRow 0 46 6 v' (pre.length + 1) (cellsE pre ++ cellsE1 x)) (hg : (W.alloc o).grownBy wy v.ownBlock) (hb : v'.ownBlock = v.ownBlock ∨ v'.ownBlock = some (W.alloc o).heap.size) :
    Cl w n v' (pre ++ [x]) (wy.setCell ⟨w.heap.size, 0, none⟩ v') ∧ Kept (fun k => k = w.heap.size ∨ n + 1 < k) W (wy.setCell ⟨w.heap.size, 0, none⟩ v') := by
  have hvb : ∀ k, v.ownBlock = some k → n + 2 ≤ k ∧ k < W.heap.size := fun k hk => owns_lt h.own k hk
  have hrow : ∀ k, v'.ownBlock = some k → v.ownBlock = some k ∨ W.heap.size ≤ k := fun k hk => by
    rcases hb with hb | hb
    · rw [hb] at hk; exact .inl hk
    · rw [hb] at hk; cases hk; right; simp
  have k5 : Kept (fun k => v.ownBlock = some k) W wy := Kept.grown ((Kept.refl _ W).alloc _) hg (fun k hk _ => hk)
  have hbl := World.block_lt_of_cell? _ _ h.box
  have hnb : ¬ v.ownBlock = some w.heap.size := fun e => by have := (hvb _ e).1; omega
  have c5 : wy.cell? ⟨w.heap.size, 0, none⟩ = some v := (k5.cell (p := ⟨w.heap.size, 0, none⟩) hbl hnb).trans h.box
  have f5 : wy.frozen? ⟨w.heap.size, 0, none⟩ = false := (k5.frozen (p := ⟨w.heap.size, 0, none⟩) hbl hnb).trans h.fz
  have k6 : Kept (fun k => k = w.heap.size) wy (wy.setCell ⟨w.heap.size, 0, none⟩ v') := Kept.setCell (S := fun k => k = w.heap.size) (p := ⟨w.heap.size, 0, none⟩) (Kept.refl _ wy) (fun _ => rfl) _
  have k56 : Kept (fun k => v.ownBlock = some k ∨ k = w.heap.size) W (wy.setCell ⟨w.heap.size, 0, none⟩ v') := (k5.mono (fun _ _ h => Or.inl h)).trans k6 (fun _ _ h => Or.inr h)
  have one : ∀ e : Ent, (Lies W W.heap.size e.2.1 (strs e.1.vs) ∧ e.1.vs.length ≤ e.2.2) → (strs e.1.vs ≠ [] → ∀ a, e.2.1 = some a → v.ownBlock ≠ some a.block ∧ a.block ≠ w.heap.size ∧ a.block ≠ n ∧ a.block ≠ n + 1) →
      (Lies (wy.setCell ⟨w.heap.size, 0, none⟩ v') (wy.setCell ⟨w.heap.size, 0, none⟩ v').heap.size e.2.1 (strs e.1.vs) ∧ e.1.vs.length ≤ e.2.2) ∧ (strs e.1.vs ≠ [] → ∀ a, e.2.1 = some a → v'.ownBlock ≠ some a.block ∧ a.block ≠ w.heap.size ∧ a.block ≠ n ∧ a.block ≠ n + 1) := fun e h1 h2 => by
    refine ⟨⟨(h1.1.kept k56 (fun hne a ha hs => by rcases hs with hs | hs; exact (h2 hne a ha).1 hs; exact (h2 hne a ha).2.1 hs)).mono k56.size, h1.2⟩, fun hne a ha => ⟨fun e1 => ?_, (h2 hne a ha).2⟩⟩
    rcases hrow _ e1 with e2 | e2
    · exact (h2 hne a ha).1 e2
    · obtain ⟨b, off, e3, hb', _⟩ := h1.1 hne
      rw [e3] at ha
      cases ha
      dsimp only at e2
      omega
  refine ⟨⟨World.cell?_setCell_same _ _ _ c5, by rw [World.frozen?_setCell]; exact f5, ?_, fun e => by simp at e, fun e he => ?_, h.k.trans k56 (fun i hi hs => ?_)⟩, k56.mono (fun k _ hs => ?_)⟩
  · have ho5 := owns_base (base' := n + 2) ho (fun k hk => by
      rcases hrow k hk with h1 | h1
      · exact (hvb k h1).1
      · omega)
    rw [← cellsE_snoc, show pre.length + 1 = (pre ++ [x]).length by simp] at ho5
    exact owns_kept ho5 k6 (fun k hk e => by have := (owns_lt ho5 k hk).1; omega)
  · rcases List.mem_append.1 he with he | he
    · exact one e (h.rows e he).1 (h.rows e he).2
    · rw [List.mem_singleton] at he
      subst he
      exact one e hx ha
  · rcases hs with hs | hs
    · have := (hvb _ hs).1; omega
    · omega
  · rcases hs with hs | hs
    · have := (hvb _ hs).1; right; omega
    · exact .inl hs

set_option maxRecDepth 100000 in
set_option maxHeartbeats 2000000 in
theorem dappend_any (p : Option Nat) (m : List Ent) (Bk Bm : Nat) (ko : Option Addr) (kc : Nat) (w : World) (hA : Ap p m Bk Bm ko kc w) (hL : ∀ e ∈ m, Len8 e.1) (hlen : m.length ≤ 1000000) :
    Calls Tryz.prog 81 #[.slice none 0 0, .func (.func 85) #[] #[.pointer (some ⟨Bk, 0, none⟩), .pointer (some ⟨Bm, 0, none⟩)]] w fun e w' => ∃ ao cap q, e = .returned (.slice ao q.length cap) ∧ dds q = dds m ∧ Dq w (.slice ao q.length cap) q w' := by
  obtain ⟨i0, hi, hz0, hz1, hz2⟩ := info_parts Tryz.infoDef
  obtain ⟨wA, hwA⟩ : ∃ wA, w.alloc (.cells #[.slice none 0 0] 23) = wA := ⟨_, rfl⟩
  have KA := Lib.hid (show Kept (fun _ => False) w wA by rw [← hwA]; exact (Kept.refl (fun _ => False) w).alloc _)
  have ZA := Lib.hid (show wA.heap.size = w.heap.size + 1 by rw [← hwA]; simp)
  have CA := Lib.hid (show wA.cell? ⟨w.heap.size, 0, none⟩ = some (.slice none 0 0) by rw [← hwA]; exact World.cell?_alloc_new w _ _ 0)
  have FA := Lib.hid (show wA.frozen? ⟨w.heap.size, 0, none⟩ = false by rw [← hwA]; simp)
  have AP := Lib.hid (hA.keep KA.out)
  have HA := Lib.hid hA; have HL := Lib.hid hL
  clear hA hL
  refine (callsIn_wide (n := 5)).1 ?_
  refine callsIn_of_wp_marks Tryz.func81 rfl trivial ?_ rfl
  refine wpIn_wide.2 ?_
  simp only [Tryz.ntmps81, List.size_toArray, List.length_cons, List.length_nil, Nat.reduceAdd, Nat.reduceSub, Array.replicate_succ, Array.replicate_zero, List.push_toArray, List.append_toArray, List.nil_append, List.cons_append]
  go_wp2_with fail
  clear hwA
  obtain ⟨Sb, hSb⟩ : ∃ Sb : Nat → Prop, Sb = fun k => k = w.heap.size ∨ wA.heap.size + 1 < k := ⟨_, rfl⟩
  have hza := ZA.out
  have s1 : ¬ Sb wA.heap.size := by rw [hSb]; simp; omega
  have s2 : ¬ Sb (wA.heap.size + 1) := by rw [hSb]; simp; omega
  have hno : ∀ k, k < w.heap.size → ¬ (Sb k ∨ k = wA.heap.size ∨ k = wA.heap.size + 1) := fun k hk h => by
    rw [hSb] at h
    rcases h with (h | h) | h | h <;> omega
  have hrows : ∀ e ∈ m, e.1.vs ≠ [] → ∀ a, e.2.1 = some a → a.block < w.heap.size := fun e he hv a ha => by
    obtain ⟨g, off, e1, hb, _⟩ := (HA.out.tb.lies e he).1 (by unfold strs; simpa using hv)
    rw [e1] at ha
    cases ha
    exact hb
  have htab : ∀ b, p = some b → b < w.heap.size := fun b hb => by
    rcases HA.out.tb with ⟨h, _⟩ | ⟨b', h, hb'⟩
    · rw [h] at hb; cases hb
    · rw [h] at hb; cases hb; exact hb'.lt
  have hkeys : m ≠ [] → ∀ a, ko = some a → a.block < w.heap.size := fun hne a ha => by
    obtain ⟨g, off, e1, hb, _⟩ := HA.out.keys (by unfold strs; simpa using hne)
    rw [e1] at ha
    cases ha
    exact hb
  have KP : ∀ A B, Ap p m Bk Bm ko kc A → Kept (fun k => Sb k ∨ k = wA.heap.size ∨ k = wA.heap.size + 1) A B → Ap p m Bk Bm ko kc B := fun A B hA hk =>
    hA.kept hk (hno _ (World.block_lt_of_cell? _ _ HA.out.cell)) (hno _ (World.block_lt_of_cell? _ _ HA.out.tab)) (fun hne a ha => hno _ (hkeys hne a ha)) (fun b hb => hno _ (htab b hb)) (fun e he hv a ha => hno _ (hrows e he hv a ha))
  have HS1 := Lib.hid s1; have HS2 := Lib.hid s2; have HKPP := Lib.hid KP
  have HSK := Lib.hid (show ∀ k, (k = w.heap.size ∨ wA.heap.size + 1 < k) → Sb k from fun k hk => by rw [hSb]; exact hk)
  clear hkeys hrows htab hno KP s1 s2 hSb
  refine (wpIn_wide (n := 4)).1 ?_
  refine wpIn_rangeH (P := Tryz.prog) (n := 4) (by omega) (gf := 85) (lb := #[.pointer (some ⟨Bk, 0, none⟩), .pointer (some ⟨Bm, 0, none⟩)]) rfl (enters_of Tryz.func85 (by kernel_rfl) rfl)
    Sb HS1.out HS2.out (all1_seq 3 (by omega) p m Bk Bm ko kc _ HKPP.out wA AP.out HL.out hlen) (Below.refl _ _) (fun _ => rfl)
    (fun pre W => ∃ v, Cl w wA.heap.size v pre W) (fun _ _ => False) ?hI (fun _ _ _ h _ => h) ?hG ?h0
    (fun x a' W => ∃ bx, wA.heap.size + 1 < bx ∧ Bx W bx x.2.1 x.2.2 x.1 ∧ a' = { tmps := #[.slice none 0 0, .func (.func 85) #[] #[.pointer (some ⟨Bk, 0, none⟩), .pointer (some ⟨Bm, 0, none⟩)], .pointer (some ⟨w.heap.size, 0, none⟩), undef, .slice none 0 0, .pointer (some ⟨bx, 0, none⟩), .func (.func 85) #[] #[.pointer (some ⟨Bk, 0, none⟩), .pointer (some ⟨Bm, 0, none⟩)], .agg #[.int .i64 x.1.k, .string (bs x.1.c), .string (bs x.1.p), .slice x.2.1 x.1.vs.length x.2.2, .string (bs x.1.s), .string (bs x.1.t)], undef, undef, undef, undef, undef], defers := [] })
    ?hAx ?assign ?body ?done (fun _ _ _ h => h.elim)
  case hI =>
    rintro pre A B ⟨v, h⟩ hk
    exact ⟨v, h.kept (by omega) hk⟩
  case hG =>
    rintro x A B hx h1 h2 hk
    exact hx.over h1 h2 hk
  case h0 => exact ⟨.slice none 0 0, CA.out, FA.out, World.ownsRow_nil _ _ _ _, fun _ => rfl, fun _ he => absurd he List.not_mem_nil, KA.out⟩
  case hAx =>
    rintro x a' A B ⟨bx, h1, h2, h3⟩ hk
    exact ⟨bx, h1, h2.kept hk (by omega), h3⟩
  case assign =>
    rintro l pre x W K hi hg hlt hK
    unfold encE
    go_simp
    have HKK := Lib.hid hK; have HB := Lib.hid (bx_new W x.2.1 x.2.2 x.1 46)
    clear hK hi hg
    refine wpIn_region_plain l _ (by rintro ⟨a, w, h⟩; exact h) (by kernel_rfl) ?_
    go_wp2
    exact HKK.out _ _ ((Kept.refl _ W).alloc _) ⟨W.heap.size, hlt, HB.out, rfl⟩
  case body =>
    rintro l pre x a' W ⟨v, h⟩ hg ⟨bx, hb1, hb2, rfl⟩ hn1 hn2 hlt hN
    have HAP := Lib.hid (h.apart hg hn1 hn2)
    obtain ⟨ao, cap, rfl⟩ := owns_slice h.own
    have HC := Lib.hid h; have HG := Lib.hid hg
    have cb := h.box
    obtain ⟨c0, c1, c2, c3, c4, c5⟩ := hb2
    have hvb : ∀ k, (Value.slice ao pre.length cap).ownBlock = some k → k ≠ w.heap.size := fun k hk e => by have := (owns_lt h.own k hk).1; omega
    have HVB := Lib.hid hvb
    clear h hg hn1 hn2 hvb
    refine wpIn_block ?_
    refine wpIn_region_plain l _ (by rintro ⟨a, w, h⟩; exact h) (by kernel_rfl) ?_
    go_wp2_with (at_builtin; refine wpList_app _ rfl (.tmp 8) (.tmp 10) 23 23 rfl 46 i0 (.agg #[.int .i64 0, .string ⟨#[]⟩, .string ⟨#[]⟩, .slice none 0 0, .string ⟨#[]⟩, .string ⟨#[]⟩]) 6 96 Tryz.underlying23 hi hz0 hz1 hz2 rfl _ _ _ rfl ((owns_base (base' := 0) HC.out.own (fun _ _ => Nat.zero_le _)).alloc _) (.slice (some ⟨W.heap.size, 0, none⟩) 1 1) 1 (cellsE1 x) rfl (src_def W x _) ?b1 ?b2 ?next)
    case b1 => unfold maxLen; omega
    case b2 => omega
    case next =>
      intro v' w5 ho5 hg5 hb5 _
      obtain ⟨ao', cap', rfl⟩ := owns_slice ho5
      have hbl := World.block_lt_of_cell? _ _ cb
      have c6 : w5.cell? ⟨w.heap.size, 0, none⟩ = some (.slice ao pre.length cap) := ((kept_of_grown hg5).cell (p := ⟨w.heap.size, 0, none⟩) (by rw [World.size_alloc]; exact Nat.lt_succ_of_lt hbl) (fun e => HVB.out _ e rfl)).trans ((World.cell?_alloc_lt _ _ _ hbl).trans cb)
      have f6 : w5.frozen? ⟨w.heap.size, 0, none⟩ = false := ((kept_of_grown hg5).frozen (p := ⟨w.heap.size, 0, none⟩) (by rw [World.size_alloc]; exact Nat.lt_succ_of_lt hbl) (fun e => HVB.out _ e rfl)).trans ((((Kept.refl (fun _ => False) W).alloc _).frozen (p := ⟨w.heap.size, 0, none⟩) hbl (fun h => h)).trans HC.out.fz)
      have HNX := Lib.hid (HC.out.next (by omega) hlt x ⟨HG.out.lies, HG.out.cap⟩ HAP.out ho5 hg5 (by rw [World.size_alloc]; exact hb5))
      clear ho5 hg5 hb5
      go_wp2
      exact ⟨HNX.out.2.mono (fun k _ hk => HSK.out k hk), _, by have h := HNX.out.1; rw [hza] at h; exact h⟩
  case done =>
    rintro xs W hS ⟨v, h⟩ hd
    obtain ⟨ao, cap, rfl⟩ := owns_slice h.own
    have cb := h.box
    have HC := Lib.hid h; have HD := Lib.hid hd
    clear h hd
    go_wp2
    refine ⟨by simp, .inl ⟨_, _, rfl, run_takeDeferred HD.out, ?_⟩⟩
    have kd := kept_putObj W wA.heap.size (.deferred none)
    refine ⟨_, results_tmp rfl _ _ _, ao, cap, xs, rfl, hS, ?_, fun e he => ⟨⟨((HC.out.rows e he).1.1.kept kd (fun hne a ha hs => ((HC.out.rows e he).2 hne a ha).2.2.1 hs)).mono kd.size, (HC.out.rows e he).1.2⟩, fun hne a ha => ((HC.out.rows e he).2 hne a ha).1⟩, HC.out.k.trans kd (fun i hi hs => by omega)⟩
    exact owns_base (owns_kept HC.out.own kd (fun k hk hs => by have := (owns_lt HC.out.own k hk).1; omega)) (fun k hk => by have := (owns_lt HC.out.own k hk).1; omega)

set_option maxHeartbeats 400000 in
theorem dcollect_any (p : Option Nat) (m : List Ent) (Bk Bm : Nat) (ko : Option Addr) (kc : Nat) (w : World) (hA : Ap p m Bk Bm ko kc w) (hL : ∀ e ∈ m, Len8 e.1) (hlen : m.length ≤ 1000000) :
    Calls Tryz.prog 40 #[.func (.func 85) #[] #[.pointer (some ⟨Bk, 0, none⟩), .pointer (some ⟨Bm, 0, none⟩)]] w fun e w' => ∃ ao cap q, e = .returned (.slice ao q.length cap) ∧ dds q = dds m ∧ Dq w (.slice ao q.length cap) q w' := by
  have H := Lib.hid (dappend_any p m Bk Bm ko kc w hA hL hlen)
  clear hA hL hlen
  go_enter Tryz.func40, Tryz.ntmps40
  go_wp2_with fail
  refine H.out.mono ?_
  rintro e w1 ⟨ao, cap, q, rfl, hq, hd⟩
  go_wp2
  go_ret
  exact ⟨ao, cap, q, rfl, hq, hd⟩

end Go.Proofs.YtjnpmbdehalmpaaGreat
