/-
  A RANGE OVER A FUNCTION whose values lead to memory of their own: the body is told how each value lies in memory when it comes. Over no program.
-/
import Derived.Test.YtofpnlmlenffnaaDoorDr
namespace Go.Mk
open Go.RowKit

section
variable {P : Program}

/-- Operations that stand in their order, in a round: as anywhere. -/
theorem listIn_of_wp {ops : Array Oper} {Q : Exit → Act → World → Prop} (l n : Nat) (hQ : ¬ LetsOut Q) : ∀ (rest : List Oper), rest.all noDefer = true → ∀ (a : Act) (w : World), wpList P ops Q rest a w → wpListIn (Fence.wide.inRound l) n P ops Q rest a w
  | [], _, _, _, h => h
  | o :: rest, hd, a, w, h => by
    simp only [List.all_cons, Bool.and_eq_true] at hd
    have ho : ∀ c, o.op ≠ .defer c := fun c e => by have := hd.1; simp [noDefer, e] at this
    unfold wpList at h
    unfold wpListIn
    split at h
    · rename_i hw
      rw [if_pos hw]
      rcases h with h | h
      · exact operIn_of_wp l n ho (Oper.wp_mono (fun a w h => listIn_of_wp l n hQ rest hd.2 a w h) h)
      · exact (hQ h.2).elim
    · rename_i hw
      rw [if_neg hw]
      exact ⟨fun _ _ => trivial, listIn_of_wp l n hQ rest hd.2 _ w h⟩

theorem wpIn_region_plain {id : Nat} {os : List Oper} {Q : Exit → Act → World → Prop} {a : Act} {w : World} (l n : Nat) (hQ : ¬ LetsOut Q) (hd : os.all noDefer = true) (h : wpList P os.toArray Q os a w) : (Code.region id os.toArray false).wpIn (Fence.wide.inRound l) n P Q a w :=
  wpIn_region_lit (listIn_of_wp l n hQ os hd a w h)

/-- An iterator: it hands out values x that lie in memory as G says, keeps all else, and goes on as long as a round says so. -/
def SeqG {α : Type} (n : Nat) (P : Program) (g : Nat) (lb : Array Value) (encs : α → Array Value) (G : α → World → Prop) (Kp : World → World → Prop) (S Sp : List α → Prop) (N : Nat) (w : World) : Prop :=
  ∀ (l : Nat) (J Jx : List α → World → Prop) (W : World), Below w.heap.size w W → (∀ pre A B, J pre A → Kept (fun _ => False) A B → J pre B) →
    (∀ pre x W1, J pre W1 → G x W1 → pre.length < N → YieldAt Fence.wide (n - 1) P l (encs x) W1 fun e W' =>
      (e = .returned (.bool true) ∧ J (pre ++ [x]) W' ∧ Kp W1 W') ∨ (e = .returned (.bool false) ∧ Jx (pre ++ [x]) W')) →
    J [] W →
    CallsIn Fence.wide n P g (#[.func (.yield l) #[] #[]] ++ lb) W fun e W' => (∃ v, e = .returned v) ∧ ((∃ xs, S xs ∧ J xs W') ∨ (∃ pre, Sp pre ∧ Jx pre W'))

/-- Where a round may end: at its end, or with the function's own return. -/
def roundPost {α : Type} (Sb : Nat → Prop) (I Ix : List α → World → Prop) (pre : List α) (W : World) : Exit → Act → World → Prop
  | .normal, _, W' => Kept Sb W W' ∧ I pre W'
  | .ret, _, W' => Kept Sb W W' ∧ Ix pre W'
  | _, _, _ => False

theorem kept_putObj (W : World) (l : Nat) (o : Obj) : Kept (fun k => k = l) W (W.putObj l o) := (Kept.refl _ W).grown (grownBy_putObj' W l o) (fun k hk _ => by cases hk; rfl)

theorem wpIn_rangeG {α : Type} {g : Operand} {ps : Array Tmp} {assign body : Code} {Q : Exit → Act → World → Prop} {a : Act} {w : World} {n : Nat} (h1 : 1 ≤ n) {gf : Nat} {lb : Array Value}
    (hg : a.eval g = .func (.func gf) #[] lb) (eg : ∀ args w, (callFunc gf args).run P w = .ok (.enter gf args) w)
    {encs : α → Array Value} {G : α → World → Prop} {S Sp : List α → Prop} {N : Nat} {w0 : World} (Sb : Nat → Prop) (hS1 : ¬ Sb w.heap.size) (hS2 : ¬ Sb (w.heap.size + 1))
    (hseq : SeqG (n - 1) P gf lb encs G (Kept (fun k => Sb k ∨ k = w.heap.size ∨ k = w.heap.size + 1)) S Sp N w0) (hb0 : Below w0.heap.size w0 w) (hps : ∀ x, (encs x).size = ps.size)
    (I Ix : List α → World → Prop) (hI : ∀ pre A B, I pre A → Kept (fun k => k = w.heap.size ∨ k = w.heap.size + 1) A B → I pre B) (hIx : ∀ pre A B, Ix pre A → Kept (fun k => k = w.heap.size ∨ k = w.heap.size + 1) A B → Ix pre B)
    (hG : ∀ x A B, G x A → (∃ o, A.heap[w.heap.size]? = some o ∧ o.isCells = false) → (∃ o, A.heap[w.heap.size + 1]? = some o ∧ o.isCells = false) → Kept (fun k => k = w.heap.size ∨ k = w.heap.size + 1) A B → G x B) (h0 : I [] w)
    (Ax : α → Act → World → Prop) (hAx : ∀ x a' A B, Ax x a' A → Kept (fun k => k = w.heap.size ∨ k = w.heap.size + 1) A B → Ax x a' B)
    (hassign : ∀ (l : Nat) (pre : List α) (x : α) (W : World) (K : Act → World → Prop), I pre W → G x W → w.heap.size + 1 < W.heap.size → (∀ a' W', Kept (fun _ => False) W W' → Ax x a' W' → K a' W') →
      assign.wpIn (Fence.wide.inRound l) (n - 1 - 1) P (Exit.then K (fun _ _ _ => False)) { tmps := (ps.zip (encs x)).foldl (fun t (p, v) => t.setIfInBounds p v) a.tmps, defers := [] } W)
    (hbody : ∀ (l : Nat) (pre : List α) (x : α) (a' : Act) (W : World), I pre W → G x W → Ax x a' W → w.heap.size + 1 < W.heap.size → pre.length < N → body.wpIn (Fence.wide.inRound l) (n - 1 - 1) P (roundPost Sb I Ix (pre ++ [x]) W) a' W)
    (hdone : ∀ (xs : List α) (W : World), S xs → I xs W → W.heap[w.heap.size]? = some (.deferred (some [])) → Q .normal { a with defers := { target := .collected w.heap.size, args := #[] } :: a.defers } W)
    (hstop : ∀ (pre : List α) (W : World), Sp pre → Ix pre W → W.heap[w.heap.size]? = some (.deferred (some [])) → Code.ret.wpIn Fence.wide n P Q { a with defers := { target := .collected w.heap.size, args := #[] } :: a.defers } W) :
    (Code.rangeFunc g ps assign body).wpIn Fence.wide n P Q a w := by
  refine wpIn_rangeFunc ?_
  intro fn hfn
  -- the loop's record, in whatever state
  obtain ⟨rec, hrec⟩ : ∃ rec : LoopState → Option Code → Loop, rec = fun st pe => { state := st, pending := pe, fn, tmps := a.tmps, params := ps, assign, body, defers := w.heap.size } := ⟨_, rfl⟩
  obtain ⟨W1, hW1⟩ : ∃ W1, (w.alloc (.deferred (some []))).alloc (.loop (rec .ready none)) = W1 := ⟨_, rfl⟩
  have kW1 : Kept (fun _ => False) w W1 := by rw [← hW1]; exact ((Kept.refl _ w).alloc _).alloc _
  have hL1 : W1.heap[w.heap.size + 1]? = some (.loop (rec .ready none)) := by
    have := World.alloc_heap_new (w.alloc (.deferred (some []))) (.loop (rec .ready none))
    rw [World.size_alloc, hW1] at this
    exact this
  have hD1 : W1.heap[w.heap.size]? = some (.deferred (some [])) := by
    rw [← hW1]
    exact (Below.heap_alloc _ _ _ (by simp)).trans (World.alloc_heap_new w _)
  have two : ∀ {A B : World}, Kept (fun k => k = w.heap.size + 1) A B → Kept (fun k => k = w.heap.size ∨ k = w.heap.size + 1) A B := fun h => h.mono (fun _ _ e => .inr e)
  have non : ∀ {A B : World}, Kept (fun _ => False) A B → Kept (fun k => k = w.heap.size ∨ k = w.heap.size + 1) A B := fun h => h.mono (fun _ _ e => e.elim)
  refine ⟨w.heap.size + 1, [{ target := .collected w.heap.size, args := #[] }], W1, { target := .fn (.func gf) lb, args := #[.func (.yield (w.heap.size + 1)) #[] #[]] }, W1, gf,
    #[.func (.yield (w.heap.size + 1)) #[] #[]] ++ lb, W1, ?_, ?_, ?_, ?_, fun _ => h1, ?_⟩
  · rw [← hW1, hrec]; exact run_enterLoop_outer _ _ _ _ _
  · simp only [resolve, hg]
    simp [go_sem]
  · intro f' _; trivial
  · simp [invoke, go_sem, eg]
  · refine (hseq (w.heap.size + 1)
      (fun pre W => I pre W ∧ W.heap[w.heap.size + 1]? = some (.loop (rec .ready none)) ∧ W.heap[w.heap.size]? = some (.deferred (some [])))
      (fun pre W => Ix pre W ∧ W.heap[w.heap.size + 1]? = some (.loop (rec .done (some .ret))) ∧ W.heap[w.heap.size]? = some (.deferred (some [])))
      W1 (hb0.trans (kW1.below hb0.size (fun _ h => h.elim))) ?_ ?_ ⟨hI _ _ _ h0 (non kW1), hL1, hD1⟩).mono ?_
    · rintro pre A B ⟨hi, hl, hd⟩ hk
      exact ⟨hI _ _ _ hi (non hk), (hk.block _ (Array.getElem?_eq_some_iff.1 hl).1 (fun h => h)).trans hl, (hk.block _ (Array.getElem?_eq_some_iff.1 hd).1 (fun h => h)).trans hd⟩
    · -- one round
      rintro pre x W ⟨hi, hl, hd⟩ hg' hN
      have hlt : w.heap.size + 1 < W.heap.size := (Array.getElem?_eq_some_iff.1 hl).1
      have hy := run_yield (P := P) (args := encs x) hl (by rw [hrec]; exact hps x)
      rw [hrec] at hy
      refine ⟨fn, _, assign, body, hy, roundIn_of_wpIn hfn (hassign _ pre x W _ hi hg' hlt ?_)⟩
      clear hy
      intro a' Wa ka hax
      have hla : Wa.heap[w.heap.size + 1]? = some (.loop (rec .ready none)) := (ka.block _ hlt (fun h => h)).trans hl
      have hda : Wa.heap[w.heap.size]? = some (.deferred (some [])) := (ka.block _ (by omega) (fun h => h)).trans hd
      have hia := hI _ _ _ hi (non ka)
      have hga := hG _ _ _ hg' ⟨_, hd, rfl⟩ ⟨_, hl, rfl⟩ (non ka)
      have hlta : w.heap.size + 1 < Wa.heap.size := Nat.lt_of_lt_of_le hlt ka.size
      refine ⟨_, run_beginRound hla (by rw [hrec]), ?_⟩
      obtain ⟨Wb, hWb⟩ : ∃ Wb, Wa.putObj (w.heap.size + 1) (.loop { rec .ready none with state := .busy }) = Wb := ⟨_, rfl⟩
      have kb : Kept (fun k => k = w.heap.size + 1) Wa Wb := by rw [← hWb]; exact kept_putObj _ _ _
      have hlb : Wb.heap[w.heap.size + 1]? = some (.loop { rec .ready none with state := .busy }) := by rw [← hWb]; exact World.putObj_heap_same hlta
      have hdb : Wb.heap[w.heap.size]? = some (.deferred (some [])) := (kb.block _ (by omega) (by omega)).trans hda
      rw [hWb]
      refine wpIn_mono (hbody _ pre x a' Wb (hI _ _ _ hia (two kb)) (hG _ _ _ hga ⟨_, hda, rfl⟩ ⟨_, hla, rfl⟩ (two kb)) (hAx _ _ _ _ hax (two kb)) (Nat.lt_of_lt_of_le hlta kb.size) hN) ?_
      -- behind the body
      have fin : ∀ (jump : Option Code) (W3 : World), Kept Sb Wb W3 → ∃ W4, (Instr.endRound (w.heap.size + 1) jump).run P W3 = .ok (.bool jump.isNone) W4 ∧ Kept (fun k => k = w.heap.size + 1) W3 W4 ∧
          W4.heap[w.heap.size + 1]? = some (.loop (rec (if jump.isNone then .ready else .done) jump)) ∧ W4.heap[w.heap.size]? = some (.deferred (some [])) := fun jump W3 k3 => by
        have hl3 : W3.heap[w.heap.size + 1]? = some (.loop { rec .ready none with state := .busy }) := (k3.block _ (Array.getElem?_eq_some_iff.1 hlb).1 hS2).trans hlb
        have hd3 : W3.heap[w.heap.size]? = some (.deferred (some [])) := (k3.block _ (Array.getElem?_eq_some_iff.1 hdb).1 hS1).trans hdb
        have hr := run_endRound (P := P) jump hl3
        rw [hrec] at hr ⊢
        exact ⟨_, hr, kept_putObj _ _ _, World.putObj_heap_same (Array.getElem?_eq_some_iff.1 hl3).1, (World.putObj_heap_other (by omega)).trans hd3⟩
      rintro e a3 W3 hp
      cases e with
      | normal =>
        obtain ⟨k3, hi3⟩ := hp
        obtain ⟨W4, hr, k4, hl4, hd4⟩ := fin none W3 k3
        refine ⟨_, _, hr, .inl ⟨rfl, ⟨hI _ _ _ hi3 (two k4), hl4, hd4⟩, ?_⟩⟩
        refine (((ka.mono (fun _ _ h => h.elim)).trans kb (fun _ _ h => .inr (.inr h))).trans k3 (fun _ _ h => .inl h)).trans k4 (fun _ _ h => .inr (.inr h))
      | ret =>
        obtain ⟨k3, hi3⟩ := hp
        obtain ⟨W4, hr, k4, hl4, hd4⟩ := fin (some .ret) W3 k3
        exact ⟨_, _, hr, .inr ⟨rfl, hIx _ _ _ hi3 (two k4), hl4, hd4⟩⟩
      | exit id => exact hp.elim
      | goto t => exact hp.elim
      | panic ch => exact hp.elim
      | outgrown => exact hp.elim
    · -- behind the iterator
      rintro e W2 ⟨⟨v, rfl⟩, (⟨xs, hS, hi, hl, hd⟩ | ⟨pre, hSp, hi, hl, hd⟩)⟩
      · have hr := run_endLoop (P := P) hl (by rw [hrec]; simp)
        rw [hrec] at hr
        exact ⟨none, _, hr, hdone xs _ hS (hI _ _ _ hi (two (kept_putObj _ _ _))) ((World.putObj_heap_other (by omega)).trans hd)⟩
      · have hr := run_endLoop (P := P) hl (by rw [hrec]; simp)
        rw [hrec] at hr
        exact ⟨some .ret, _, hr, hstop pre _ hSp (hIx _ _ _ hi (two (kept_putObj _ _ _))) ((World.putObj_heap_other (by omega)).trans hd)⟩

end

end Go.Mk
