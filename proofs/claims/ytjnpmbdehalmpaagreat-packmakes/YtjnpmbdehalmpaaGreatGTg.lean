/-
  Lemmas towards the claim of this folder: contracts of the functions that the law reaches; joined texts.
-/
import Derived.Test.YtjnpmbdehalmpaaGreatGDl
import Derived.Test.YtjnpmbdehalmpaaGreatGPr
import Derived.Test.YtjnpmbdehalmpaaGreatGSr
import Derived.Test.YtjnpmbdehalmpaaGreatGNg
import Derived.Laws.IdiomRangeMap
import Derived.Test.YtjnpmbdehalmpaaGreatGPo
/-
  A RANGE OVER A FUNCTION whose values lead to memory of their own: the body is told how each value lies in memory when it comes. Over no program.
-/
namespace Go.Mk
open Go.RowKit

section
variable {P : Program}

/-- Operations that stand in their order, in a round: as anywhere. -/
theorem listIn_of_wp {ops : Array Oper} {Q : Exit → Act → World → Prop} (l n : Nat) (hQ : ¬ LetsOut Q) : ∀ (rest : List Oper), rest.all noDefer = true → ∀ (a : Act) (w : World), wpList P ops Q rest a w → wpListIn (Fence.wide.inRound l) n P ops Q rest a w
  | [], _, _, _, h => h
  | o :: rest, hd, a, w, h => by
    simp only [List.all_cons, Bool.and_eq_true] at hd
    have ho : ∀ c, o.op ≠ .defer c := fun c e => by have := hd.1; simp [noDefer, e] at this
    unfold wpList at h
    unfold wpListIn
    split at h
    · rename_i hw
      rw [if_pos hw]
      rcases h with h | h
      · exact operIn_of_wp l n ho (Oper.wp_mono (fun a w h => listIn_of_wp l n hQ rest hd.2 a w h) h)
      · exact (hQ h.2).elim
    · rename_i hw
      rw [if_neg hw]
      exact ⟨fun _ _ => trivial, listIn_of_wp l n hQ rest hd.2 _ w h⟩

theorem wpIn_region_plain {id : Nat} {os : List Oper} {Q : Exit → Act → World → Prop} {a : Act} {w : World} (l n : Nat) (hQ : ¬ LetsOut Q) (hd : os.all noDefer = true) (h : wpList P os.toArray Q os a w) : (Code.region id os.toArray false).wpIn (Fence.wide.inRound l) n P Q a w :=
  wpIn_region_lit (listIn_of_wp l n hQ os hd a w h)

/-- An iterator: it hands out values x that lie in memory as G says, keeps all else, and goes on as long as a round says so. -/
def SeqG {α : Type} (n : Nat) (P : Program) (g : Nat) (lb : Array Value) (encs : α → Array Value) (G : α → World → Prop) (Kp : World → World → Prop) (S Sp : List α → Prop) (N : Nat) (w : World) : Prop :=
  ∀ (l : Nat) (J Jx : List α → World → Prop) (W : World), Below w.heap.size w W → (∀ pre A B, J pre A → Kept (fun _ => False) A B → J pre B) →
    (∀ pre x W1, J pre W1 → G x W1 → pre.length < N → YieldAt Fence.wide (n - 1) P l (encs x) W1 fun e W' =>
      (e = .returned (.bool true) ∧ J (pre ++ [x]) W' ∧ Kp W1 W') ∨ (e = .returned (.bool false) ∧ Jx (pre ++ [x]) W')) →
    J [] W →
    CallsIn Fence.wide n P g (#[.func (.yield l) #[] #[]] ++ lb) W fun e W' => (∃ v, e = .returned v) ∧ ((∃ xs, S xs ∧ J xs W') ∨ (∃ pre, Sp pre ∧ Jx pre W'))

/-- Where a round may end: at its end, or with the function's own return. -/
def roundPost {α : Type} (Sb : Nat → Prop) (I Ix : List α → World → Prop) (pre : List α) (W : World) : Exit → Act → World → Prop
  | .normal, _, W' => Kept Sb W W' ∧ I pre W'
  | .ret, _, W' => Kept Sb W W' ∧ Ix pre W'
  | _, _, _ => False

theorem kept_putObj (W : World) (l : Nat) (o : Obj) : Kept (fun k => k = l) W (W.putObj l o) := (Kept.refl _ W).grown (grownBy_putObj' W l o) (fun k hk _ => by cases hk; rfl)

theorem wpIn_rangeG {α : Type} {g : Operand} {ps : Array Tmp} {assign body : Code} {Q : Exit → Act → World → Prop} {a : Act} {w : World} {n : Nat} (h1 : 1 ≤ n) {gf : Nat} {lb : Array Value}
    (hg : a.eval g = .func (.func gf) #[] lb) (eg : ∀ args w, (callFunc gf args).run P w = .ok (.enter gf args) w)
    {encs : α → Array Value} {G : α → World → Prop} {S Sp : List α → Prop} {N : Nat} {w0 : World} (Sb : Nat → Prop) (hS1 : ¬ Sb w.heap.size) (hS2 : ¬ Sb (w.heap.size + 1))
    (hseq : SeqG (n - 1) P gf lb encs G (Kept (fun k => Sb k ∨ k = w.heap.size ∨ k = w.heap.size + 1)) S Sp N w0) (hb0 : Below w0.heap.size w0 w) (hps : ∀ x, (encs x).size = ps.size)
    (I Ix : List α → World → Prop) (hI : ∀ pre A B, I pre A → Kept (fun k => k = w.heap.size ∨ k = w.heap.size + 1) A B → I pre B) (hIx : ∀ pre A B, Ix pre A → Kept (fun k => k = w.heap.size ∨ k = w.heap.size + 1) A B → Ix pre B)
    (hG : ∀ x A B, G x A → (∃ o, A.heap[w.heap.size]? = some o ∧ o.isCells = false) → (∃ o, A.heap[w.heap.size + 1]? = some o ∧ o.isCells = false) → Kept (fun k => k = w.heap.size ∨ k = w.heap.size + 1) A B → G x B) (h0 : I [] w)
    (Ax : α → Act → World → Prop) (hAx : ∀ x a' A B, Ax x a' A → Kept (fun k => k = w.heap.size ∨ k = w.heap.size + 1) A B → Ax x a' B)
    (hassign : ∀ (l : Nat) (pre : List α) (x : α) (W : World) (K : Act → World → Prop), I pre W → G x W → w.heap.size + 1 < W.heap.size → (∀ a' W', Kept (fun _ => False) W W' → Ax x a' W' → K a' W') →
      assign.wpIn (Fence.wide.inRound l) (n - 1 - 1) P (Exit.then K (fun _ _ _ => False)) { tmps := (ps.zip (encs x)).foldl (fun t (p, v) => t.setIfInBounds p v) a.tmps, defers := [] } W)
    (hbody : ∀ (l : Nat) (pre : List α) (x : α) (a' : Act) (W : World), I pre W → G x W → Ax x a' W → w.heap.size + 1 < W.heap.size → pre.length < N → body.wpIn (Fence.wide.inRound l) (n - 1 - 1) P (roundPost Sb I Ix (pre ++ [x]) W) a' W)
    (hdone : ∀ (xs : List α) (W : World), S xs → I xs W → W.heap[w.heap.size]? = some (.deferred (some [])) → Q .normal { a with defers := { target := .collected w.heap.size, args := #[] } :: a.defers } W)
    (hstop : ∀ (pre : List α) (W : World), Sp pre → Ix pre W → W.heap[w.heap.size]? = some (.deferred (some [])) → Code.ret.wpIn Fence.wide n P Q { a with defers := { target := .collected w.heap.size, args := #[] } :: a.defers } W) :
    (Code.rangeFunc g ps assign body).wpIn Fence.wide n P Q a w := by
  refine wpIn_rangeFunc ?_
  intro fn hfn
  -- the loop's record, in whatever state
  obtain ⟨rec, hrec⟩ : ∃ rec : LoopState → Option Code → Loop, rec = fun st pe => { state := st, pending := pe, fn, tmps := a.tmps, params := ps, assign, body, defers := w.heap.size } := ⟨_, rfl⟩
  obtain ⟨W1, hW1⟩ : ∃ W1, (w.alloc (.deferred (some []))).alloc (.loop (rec .ready none)) = W1 := ⟨_, rfl⟩
  have kW1 : Kept (fun _ => False) w W1 := by rw [← hW1]; exact ((Kept.refl _ w).alloc _).alloc _
  have hL1 : W1.heap[w.heap.size + 1]? = some (.loop (rec .ready none)) := by
    have := World.alloc_heap_new (w.alloc (.deferred (some []))) (.loop (rec .ready none))
    rw [World.size_alloc, hW1] at this
    exact this
  have hD1 : W1.heap[w.heap.size]? = some (.deferred (some [])) := by
    rw [← hW1]
    exact (Below.heap_alloc _ _ _ (by simp)).trans (World.alloc_heap_new w _)
  have two : ∀ {A B : World}, Kept (fun k => k = w.heap.size + 1) A B → Kept (fun k => k = w.heap.size ∨ k = w.heap.size + 1) A B := fun h => h.mono (fun _ _ e => .inr e)
  have non : ∀ {A B : World}, Kept (fun _ => False) A B → Kept (fun k => k = w.heap.size ∨ k = w.heap.size + 1) A B := fun h => h.mono (fun _ _ e => e.elim)
  refine ⟨w.heap.size + 1, [{ target := .collected w.heap.size, args := #[] }], W1, { target := .fn (.func gf) lb, args := #[.func (.yield (w.heap.size + 1)) #[] #[]] }, W1, gf,
    #[.func (.yield (w.heap.size + 1)) #[] #[]] ++ lb, W1, ?_, ?_, ?_, ?_, fun _ => h1, ?_⟩
  · rw [← hW1, hrec]; exact run_enterLoop_outer _ _ _ _ _
  · simp only [resolve, hg]
    simp [go_sem]
  · intro f' _; trivial
  · simp [invoke, go_sem, eg]
  · refine (hseq (w.heap.size + 1)
      (fun pre W => I pre W ∧ W.heap[w.heap.size + 1]? = some (.loop (rec .ready none)) ∧ W.heap[w.heap.size]? = some (.deferred (some [])))
      (fun pre W => Ix pre W ∧ W.heap[w.heap.size + 1]? = some (.loop (rec .done (some .ret))) ∧ W.heap[w.heap.size]? = some (.deferred (some [])))
      W1 (hb0.trans (kW1.below hb0.size (fun _ h => h.elim))) ?_ ?_ ⟨hI _ _ _ h0 (non kW1), hL1, hD1⟩).mono ?_
    · rintro pre A B ⟨hi, hl, hd⟩ hk
      exact ⟨hI _ _ _ hi (non hk), (hk.block _ (Array.getElem?_eq_some_iff.1 hl).1 (fun h => h)).trans hl, (hk.block _ (Array.getElem?_eq_some_iff.1 hd).1 (fun h => h)).trans hd⟩
    · -- one round
      rintro pre x W ⟨hi, hl, hd⟩ hg' hN
      have hlt : w.heap.size + 1 < W.heap.size := (Array.getElem?_eq_some_iff.1 hl).1
      have hy := run_yield (P := P) (args := encs x) hl (by rw [hrec]; exact hps x)
      rw [hrec] at hy
      refine ⟨fn, _, assign, body, hy, roundIn_of_wpIn hfn (hassign _ pre x W _ hi hg' hlt ?_)⟩
      clear hy
      intro a' Wa ka hax
      have hla : Wa.heap[w.heap.size + 1]? = some (.loop (rec .ready none)) := (ka.block _ hlt (fun h => h)).trans hl
      have hda : Wa.heap[w.heap.size]? = some (.deferred (some [])) := (ka.block _ (by omega) (fun h => h)).trans hd
      have hia := hI _ _ _ hi (non ka)
      have hga := hG _ _ _ hg' ⟨_, hd, rfl⟩ ⟨_, hl, rfl⟩ (non ka)
      have hlta : w.heap.size + 1 < Wa.heap.size := Nat.lt_of_lt_of_le hlt ka.size
      refine ⟨_, run_beginRound hla (by rw [hrec]), ?_⟩
      obtain ⟨Wb, hWb⟩ : ∃ Wb, Wa.putObj (w.heap.size + 1) (.loop { rec .ready none with state := .busy }) = Wb := ⟨_, rfl⟩
      have kb : Kept (fun k => k = w.heap.size + 1) Wa Wb := by rw [← hWb]; exact kept_putObj _ _ _
      have hlb : Wb.heap[w.heap.size + 1]? = some (.loop { rec .ready none with state := .busy }) := by rw [← hWb]; exact World.putObj_heap_same hlta
      have hdb : Wb.heap[w.heap.size]? = some (.deferred (some [])) := (kb.block _ (by omega) (by omega)).trans hda
      rw [hWb]
      refine wpIn_mono (hbody _ pre x a' Wb (hI _ _ _ hia (two kb)) (hG _ _ _ hga ⟨_, hda, rfl⟩ ⟨_, hla, rfl⟩ (two kb)) (hAx _ _ _ _ hax (two kb)) (Nat.lt_of_lt_of_le hlta kb.size) hN) ?_
      -- behind the body
      have fin : ∀ (jump : Option Code) (W3 : World), Kept Sb Wb W3 → ∃ W4, (Instr.endRound (w.heap.size + 1) jump).run P W3 = .ok (.bool jump.isNone) W4 ∧ Kept (fun k => k = w.heap.size + 1) W3 W4 ∧
          W4.heap[w.heap.size + 1]? = some (.loop (rec (if jump.isNone then .ready else .done) jump)) ∧ W4.heap[w.heap.size]? = some (.deferred (some [])) := fun jump W3 k3 => by
        have hl3 : W3.heap[w.heap.size + 1]? = some (.loop { rec .ready none with state := .busy }) := (k3.block _ (Array.getElem?_eq_some_iff.1 hlb).1 hS2).trans hlb
        have hd3 : W3.heap[w.heap.size]? = some (.deferred (some [])) := (k3.block _ (Array.getElem?_eq_some_iff.1 hdb).1 hS1).trans hdb
        have hr := run_endRound (P := P) jump hl3
        rw [hrec] at hr ⊢
        exact ⟨_, hr, kept_putObj _ _ _, World.putObj_heap_same (Array.getElem?_eq_some_iff.1 hl3).1, (World.putObj_heap_other (by omega)).trans hd3⟩
      rintro e a3 W3 hp
      cases e with
      | normal =>
        obtain ⟨k3, hi3⟩ := hp
        obtain ⟨W4, hr, k4, hl4, hd4⟩ := fin none W3 k3
        refine ⟨_, _, hr, .inl ⟨rfl, ⟨hI _ _ _ hi3 (two k4), hl4, hd4⟩, ?_⟩⟩
        refine (((ka.mono (fun _ _ h => h.elim)).trans kb (fun _ _ h => .inr (.inr h))).trans k3 (fun _ _ h => .inl h)).trans k4 (fun _ _ h => .inr (.inr h))
      | ret =>
        obtain ⟨k3, hi3⟩ := hp
        obtain ⟨W4, hr, k4, hl4, hd4⟩ := fin (some .ret) W3 k3
        exact ⟨_, _, hr, .inr ⟨rfl, hIx _ _ _ hi3 (two k4), hl4, hd4⟩⟩
      | exit id => exact hp.elim
      | goto t => exact hp.elim
      | panic ch => exact hp.elim
      | outgrown => exact hp.elim
    · -- behind the iterator
      rintro e W2 ⟨⟨v, rfl⟩, (⟨xs, hS, hi, hl, hd⟩ | ⟨pre, hSp, hi, hl, hd⟩)⟩
      · have hr := run_endLoop (P := P) hl (by rw [hrec]; simp)
        rw [hrec] at hr
        exact ⟨none, _, hr, hdone xs _ hS (hI _ _ _ hi (two (kept_putObj _ _ _))) ((World.putObj_heap_other (by omega)).trans hd)⟩
      · have hr := run_endLoop (P := P) hl (by rw [hrec]; simp)
        rw [hrec] at hr
        exact ⟨some .ret, _, hr, hstop pre _ hSp (hIx _ _ _ hi (two (kept_putObj _ _ _))) ((World.putObj_heap_other (by omega)).trans hd)⟩

end

end Go.Mk

/-
  maps.EqualFunc of two tables of definitions; Same.
-/
namespace Go.Proofs.YtjnpmbdehalmpaaGreat
open Go.RowKit Go.Mk Go.Maps

theorem TbO.look {w : World} {p : Option Nat} {m : List Ent} (h : TbO w p m) {e : Ent} (he : e ∈ m) (hk : (keyE e).length ≤ maxLen) : (Instr.lookup 85 (.map p) (.string (bs (keyE e))) true).run Tryz.prog w = .ok (.tuple #[valE e, .bool true]) w ∧
    (Instr.lookup 85 (.map p) (.string (bs (keyE e))) false).run Tryz.prog w = .ok (valE e) w := by
  rcases h with ⟨_, rfl⟩ | ⟨b, rfl, h⟩
  · simp at he
  · exact h.look he hk

theorem TbO.look_no {w : World} {p : Option Nat} {m : List Ent} (h : TbO w p m) {k : List UInt8} (hh : hasK keyE k m = false) (hk : k.length ≤ maxLen) : (Instr.lookup 85 (.map p) (.string (bs k)) true).run Tryz.prog w = .ok (.tuple #[valE (zeroD, none, 0), .bool false]) w := by
  rcases h with ⟨rfl, rfl⟩ | ⟨b, rfl, h⟩
  · exact Maps.look_nil true lawS Tryz.underlying85 (Tryz.zeroDef w) (keyS hk)
  · exact h.look_no hh hk

/-- The element that a range over a table hands out. -/
theorem Tb.entry {w : World} {b : Nat} {m : List Ent} (h : Tb w b m) {k : List UInt8} {v : Value} {yd : DataW Value} {yp : List MemPlace} (hv : RV v = some (yd, yp)) (hat : ∀ zd, (datM m).atKey (.string k) zd = yd) : ∃ e ∈ m, keyE e = k ∧ valE e = v := by
  have h1 := has_true_of_atKey hat
  rw [dat_has] at h1
  obtain ⟨e, he, hk⟩ := hasK_iff.1 h1
  refine ⟨e, he, hk, ?_⟩
  have h2 := hat .nil
  rw [← hk, dat_at h.rise he] at h2
  obtain ⟨_, h3⟩ := RV_inv hv
  have h4 := congrArg Prod.fst h3
  simp only at h4
  rw [h4] at h2
  injection h2

theorem val_parts {e : Ent} {q0 : Int} {q1 q2 : List UInt8} {q3 : Option Addr} {q4 q5 : Nat} {q6 q7 : List UInt8} (h : valE e = .agg #[.int .i64 q0, .string (bs q1), .string (bs q2), .slice q3 q4 q5, .string (bs q6), .string (bs q7)]) :
    q0 = e.1.k ∧ q1 = e.1.c ∧ q2 = e.1.p ∧ q3 = e.2.1 ∧ q4 = e.1.vs.length ∧ q5 = e.2.2 ∧ q6 = e.1.s ∧ q7 = e.1.t := by
  simp only [valE, Value.agg.injEq, Array.mk.injEq, List.cons.injEq, Value.int.injEq, Value.string.injEq, Value.slice.injEq, true_and, and_true] at h
  obtain ⟨h0, h1, h2, ⟨h3, h4, h5⟩, h6, h7⟩ := h
  exact ⟨h0.symm, (bs_inj h1).symm, (bs_inj h2).symm, h3.symm, h4.symm, h5.symm, (bs_inj h6).symm, (bs_inj h7).symm⟩

theorem right_vars {d : DD} (h : rightD d = true) : d.vs.length ≤ 20 := by
  rcases right_kind h with hk | hk
  · rw [rightD_one hk] at h
    simp [rightC, areVars] at h
    exact h.1.1.2.1
  · rw [rightD_two hk] at h
    simp [rightM] at h
    simp [h.2]

/-- Same. -/
def sameL (l m : List DD) : Bool := decide (l = m)

end Go.Proofs.YtjnpmbdehalmpaaGreat

/-
  The iterator of All: every definition comes, by rising keys, each in memory of its own.
-/
namespace Go.Proofs.YtjnpmbdehalmpaaGreat
open Go.RowKit Go.Mk Go.Maps Go.Shelf

/-- What All's function reads. -/
structure Ap (p : Option Nat) (m : List Ent) (Bk Bm : Nat) (ao : Option Addr) (cap : Nat) (wx : World) : Prop where
  cell : wx.cell? ⟨Bk, 0, none⟩ = some (.slice ao m.length cap)
  keys : Lies wx wx.heap.size ao (strs (m.map keyE))
  tab : wx.cell? ⟨Bm, 0, none⟩ = some (.map p)
  tb : TbO wx p m

theorem Al.ap {w : World} {p : Option Nat} {m : List Ent} {Bk Bm : Nat} {wx : World} (h : Al w p m Bk Bm wx) : ∃ ao cap, Ap p m Bk Bm ao cap wx ∧ wx.ownsRow w.heap.size 9 1 (.slice ao m.length cap) m.length (strs (m.map keyE)) := by
  obtain ⟨ao, cap, h1, h2⟩ := h.keys
  exact ⟨ao, cap, ⟨h1, owns_lies h2, h.tab, h.tb⟩, h2⟩

theorem Ap.kept {S : Nat → Prop} {p : Option Nat} {m : List Ent} {Bk Bm : Nat} {ao : Option Addr} {cap : Nat} {wx wy : World} (h : Ap p m Bk Bm ao cap wx) (hk : Kept S wx wy) (h1 : ¬ S Bk) (h2 : ¬ S Bm) (h3 : m ≠ [] → ∀ a, ao = some a → ¬ S a.block) (h4 : ∀ b, p = some b → ¬ S b) (h5 : ∀ e ∈ m, e.1.vs ≠ [] → ∀ a, e.2.1 = some a → ¬ S a.block) : Ap p m Bk Bm ao cap wy := by
  refine ⟨(hk.cell (p := ⟨Bk, 0, none⟩) (World.block_lt_of_cell? _ _ h.cell) h1).trans h.cell, (h.keys.kept hk (fun hn a ha => h3 (fun e => hn (by rw [e]; rfl)) a ha)).mono hk.size, (hk.cell (p := ⟨Bm, 0, none⟩) (World.block_lt_of_cell? _ _ h.tab) h2).trans h.tab, ?_⟩
  rcases h.tb with hb | ⟨b, rfl, hb⟩
  · exact .inl hb
  · exact .inr ⟨b, rfl, hb.kept hk (h4 b rfl) h5⟩

theorem Ap.keep {p : Option Nat} {m : List Ent} {Bk Bm : Nat} {ao : Option Addr} {cap : Nat} {wx wy : World} (h : Ap p m Bk Bm ao cap wx) (hk : Kept (fun _ => False) wx wy) : Ap p m Bk Bm ao cap wy :=
  h.kept hk (fun h => h) (fun h => h) (fun _ _ _ h => h) (fun _ _ h => h) (fun _ _ _ _ _ h => h)

/-- How a value that comes lies in memory. -/
structure GE (x : Ent) (W : World) : Prop where
  lies : Lies W W.heap.size x.2.1 (strs x.1.vs)
  cap : x.1.vs.length ≤ x.2.2
  right : rightD x.1 = true
  off : x.1.vs ≠ [] → ∃ g, x.2.1 = some ⟨g, 0, none⟩

theorem owns_off {w : World} {base : Nat} {e : TypeId} {size n cap : Nat} {ao : Option Addr} {xs : List Value} (h : w.ownsRow base e size (.slice ao n cap) n xs) (hn : n ≠ 0) : ∃ g, ao = some ⟨g, 0, none⟩ := by
  rcases h.2 with ⟨_, h2⟩ | ⟨g, c, cur, hv, _⟩
  · exact (hn h2).elim
  · cases hv; exact ⟨g, rfl⟩

theorem GE.kept {S : Nat → Prop} {x : Ent} {W W' : World} (h : GE x W) (hk : Kept S W W') (hn : x.1.vs ≠ [] → ∀ a, x.2.1 = some a → ¬ S a.block) : GE x W' :=
  ⟨(h.lies.kept hk (fun hne a ha => hn (fun e => hne (by rw [e]; rfl)) a ha)).mono hk.size, h.cap, h.right, h.off⟩

/-- What is no row of cells may turn. -/
theorem GE.over {x : Ent} {A B : World} {n : Nat} (h : GE x A) (h1 : ∃ o, A.heap[n]? = some o ∧ o.isCells = false) (h2 : ∃ o, A.heap[n + 1]? = some o ∧ o.isCells = false) (hk : Kept (fun k => k = n ∨ k = n + 1) A B) : GE x B := by
  refine h.kept hk (fun hv a ha hS => ?_)
  obtain ⟨b, off, e, _, hc⟩ := h.lies (by unfold strs; simpa using hv)
  rw [e] at ha
  cases ha
  cases hvs : x.1.vs with
  | nil => exact hv hvs
  | cons t vs =>
    have h0 := hc 0 (.string (bs t)) (by rw [hvs]; rfl)
    have hno : ∀ k, (∃ o, A.heap[k]? = some o ∧ o.isCells = false) → b ≠ k := by
      rintro k ⟨o, ho, hoc⟩ rfl
      simp only [World.cell?, ho] at h0
      cases o <;> simp [Obj.isCells] at hoc h0
    rcases hS with h3 | h3
    · exact hno _ h1 h3
    · exact hno _ h2 h3

def encE (x : Ent) : Array Value := #[.agg #[.int .i64 x.1.k, .string (bs x.1.c), .string (bs x.1.p), .slice x.2.1 x.1.vs.length x.2.2, .string (bs x.1.s), .string (bs x.1.t)]]

set_option maxRecDepth 100000 in
set_option maxHeartbeats 2000000 in
theorem all1_in (n l : Nat) (p : Option Nat) (m : List Ent) (Bk Bm : Nat) (ao : Option Addr) (cap : Nat) (Kp : World → World → Prop) (hKp : ∀ A B, Ap p m Bk Bm ao cap A → Kp A B → Ap p m Bk Bm ao cap B) (J Jx : List Ent → World → Prop) (hJ : ∀ pre A B, J pre A → Kept (fun _ => False) A B → J pre B)
    (hY : ∀ pre x W1, J pre W1 → GE x W1 → pre.length < m.length → YieldAt Fence.wide (n - 1) Tryz.prog l (encE x) W1 fun e W' => (e = .returned (.bool true) ∧ J (pre ++ [x]) W' ∧ Kp W1 W') ∨ (e = .returned (.bool false) ∧ Jx (pre ++ [x]) W'))
    (W : World) (hA : Ap p m Bk Bm ao cap W) (hL : ∀ e ∈ m, Len8 e.1) (h0 : J [] W) (hlen : m.length ≤ 1000000) (hn : 1 ≤ n) :
    CallsIn Fence.wide n Tryz.prog 85 #[.func (.yield l) #[] #[], .pointer (some ⟨Bk, 0, none⟩), .pointer (some ⟨Bm, 0, none⟩)] W fun e W' => (∃ v, e = .returned v) ∧
      ((∃ ys, dds ys = dds m ∧ J ys W') ∨ (∃ pre, (∃ j, dds pre = (dds m).take j) ∧ Jx pre W')) := by
  have hro : Fence.wide.round = none := rfl
  have hk0 := hA.cell
  have HKP := Lib.hid hKp; have HJ := Lib.hid hJ; have HY := Lib.hid hY; have HA := Lib.hid hA; have HL := Lib.hid hL; have H0 := Lib.hid h0
  clear hKp hJ hY hA hL h0
  refine callsIn_of_wp Tryz.func85 rfl trivial ?_ hro
  simp only [Tryz.ntmps85, List.size_toArray, List.length_cons, List.length_nil, Nat.reduceAdd, Nat.reduceSub, Array.replicate_succ, Array.replicate_zero, List.push_toArray, List.append_toArray, List.nil_append, List.cons_append]
  gi_wp2
  clear hk0
  gi_loopw [8] (fun i wr => ∃ (j : Nat) (pre : List Ent), j ≤ m.length ∧ i = .int .i64 (j : Int) ∧ Hid (dds pre = (dds m).take j) ∧ Hid (J pre wr) ∧ Hid (Ap p m Bk Bm ao cap wr))
    (fun i _ => m.length - (intOf i).toNat)
  case atStart => exact ⟨0, [], Nat.zero_le _, rfl, Lib.hid rfl, H0, HA⟩
  case round =>
    obtain ⟨j, pre, hj, rfl, hpre, hJs, hAp⟩ := hrel
    by_cases hlt : j < m.length
    · obtain ⟨xb, xo, rfl, _, hc⟩ := hAp.out.keys (by intro h; simp [strs] at h; rw [h] at hlt; simp at hlt)
      have hmem := List.getElem_mem hlt
      have hx : wr.cell? ⟨xb, xo + j, none⟩ = some (.string (bs (keyE m[j]))) := hc j _ (by simp [strs, hlt])
      have htab := hAp.out.tab
      have HLE := Lib.hid (HL.out m[j] hmem)
      have hlk := (hAp.out.tb.look hmem (key_len HLE.out)).2
      have HLI := Lib.hid (hAp.out.tb.lies m[j] hmem)
      have HRT := Lib.hid (hAp.out.tb.right m[j] hmem)
      have HTK := Lib.hid (dds_take m j hlt)
      have i1 : (j : Int) < (m.length : Int) := by omega
      clear hc hmem
      generalize m[j] = x at *
      obtain ⟨d, dao, dcap⟩ := x
      unfold valE at hlk
      dsimp only at hlk HLE HLI HRT HTK
      gi_wp2_with fail
      refine ⟨trivial, (callsIn_wide.2 (copy_any d dao dcap wr.heap.size wr HLI.out.1 HLE.out)).mono ?_⟩
      rintro e w3 ⟨ao3, cap3, rfl, ho3, k3⟩
      have GX := Lib.hid (show GE (d, ao3, cap3) w3 from ⟨owns_lies ho3, owns_cap ho3, HRT.out, fun hv => owns_off ho3 (by simpa using hv)⟩)
      have J3 := Lib.hid (HJ.out _ _ _ hJs.out k3); have A3 := Lib.hid (hAp.out.keep k3)
      obtain ⟨fn, tmps, assign, body, hy, hR⟩ := HY.out pre (d, ao3, cap3) w3 J3.out GX.out (by have := congrArg List.length hpre.out; rw [dds_len, List.length_take, dds_len] at this; omega)
      unfold encE at hy
      dsimp only at hy
      have HR := Lib.hid hR
      clear hR k3 ho3 hlk htab hx
      unfold valE
      dsimp only
      gi_wp2_with fail
      refine HR.out.mono ?_
      rintro e W3 (⟨rfl, hJ3, hk3⟩ | ⟨rfl, hJx3⟩)
      · have HJ3 := Lib.hid hJ3; have HA4 := Lib.hid (HKP.out _ _ A3.out hk3); clear hJ3 hk3
        gi_wp2
        go_roundw
        case rel =>
          refine ⟨j + 1, pre ++ [(d, ao3, cap3)], by omega, by go_num, Lib.hid ?_, HJ3, HA4⟩
          rw [HTK.out, ← hpre.out]
          simp [dds]
        case measure => simp [intOf]; omega
      · have HJx3 := Lib.hid hJx3; clear hJx3
        gi_wp2
        refine bodyPost_ret (results_none rfl _ _ _) rfl ?_
        exact ⟨⟨_, rfl⟩, .inr ⟨_, ⟨j + 1, by rw [HTK.out, ← hpre.out]; simp [dds]⟩, HJx3.out⟩⟩
    · obtain rfl : j = m.length := by omega
      gi_wp2
      go_end0
      exact ⟨⟨_, rfl⟩, .inl ⟨pre, by rw [hpre.out, ← dds_len, List.take_length], hJs.out⟩⟩

theorem all1_seq (n : Nat) (hn : 1 ≤ n) (p : Option Nat) (m : List Ent) (Bk Bm : Nat) (ao : Option Addr) (cap : Nat) (Kp : World → World → Prop) (hKp : ∀ A B, Ap p m Bk Bm ao cap A → Kp A B → Ap p m Bk Bm ao cap B) (w : World) (hA : Ap p m Bk Bm ao cap w) (hL : ∀ e ∈ m, Len8 e.1) (hlen : m.length ≤ 1000000) :
    SeqG n Tryz.prog 85 #[.pointer (some ⟨Bk, 0, none⟩), .pointer (some ⟨Bm, 0, none⟩)] encE GE Kp (fun ys => dds ys = dds m) (fun pre => ∃ j, dds pre = (dds m).take j) m.length w := fun l J Jx W hW hJ hY h0 =>
  all1_in n l p m Bk Bm ao cap Kp hKp J Jx hJ hY W (hA.keep (kept_of_belowsize hW)) hL h0 hlen hn

end Go.Proofs.YtjnpmbdehalmpaaGreat
