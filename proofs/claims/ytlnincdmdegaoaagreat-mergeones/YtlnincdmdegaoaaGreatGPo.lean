/-
  Lemmas towards the claim of this folder: contracts of the functions that the law reaches; joined texts.
-/
import Derived.Test.YtlnincdmdegaoaaGreatGBk
import Derived.Test.YtlnincdmdegaoaaGreatPr
import Derived.Test.YtlnincdmdegaoaaGreatGDh
import Derived.Test.YtlnincdmdegaoaaGreatR7b
import Derived.Deep.RegionHeld
import Derived.Deep.CutBlock
import Derived.Deep.DeepCutAuto
import Derived.Test.YtlnincdmdegaoaaGreatGL7
import Derived.Test.YtlnincdmdegaoaaGreatGTg
/-
  A definition's octets: what is written of it, and that it is read back (plain); def.Write; the reference's Octets.
-/
namespace Go.Proofs.YtlnincdmdegaoaaGreat
open Go.RowKit Go.Mk

def octD (d : DD) : List UInt8 := bigB 4 d.k.toNat ++ (if d.k = 1 then encT d.c ++ encT d.p ++ encL d.vs else encT d.c ++ encT d.s ++ encT d.t)

def writeD (s : WS) (d : DD) : WS := if rightD d = true then (if d.k = 2 then (((s.num d.k).text d.c).text d.s).text d.t else (((s.num d.k).text d.c).text d.p).texts d.vs) else s.num (-1)

theorem writeD_right (o : List UInt8) (d : DD) (h : rightD d = true) (hs : SmallD d) : writeD ⟨o, 0⟩ d = ⟨o ++ octD d, 0⟩ := by
  have h1 := hs.c; have h2 := hs.p; have h3 := hs.n; have h4 := hs.s; have h5 := hs.t
  have hv : ∀ t ∈ d.vs, t.length ≤ 2147483647 := fun t ht => by have := hs.v t ht; omega
  unfold writeD octD
  rw [if_pos h]
  rcases right_kind h with hk | hk
  · rw [hk, if_neg (by decide), if_pos rfl]
    rw [show (1 : Int) = ((1 : Nat) : Int) from rfl, WS.num_enc _ 1 (by omega), WS.text_enc _ _ (by omega), WS.text_enc _ _ (by omega), WS.texts_enc _ _ (by omega) hv]
    simp [WS.enc]
  · rw [hk, if_pos rfl, if_neg (by decide)]
    rw [show (2 : Int) = ((2 : Nat) : Int) from rfl, WS.num_enc _ 2 (by omega), WS.text_enc _ _ (by omega), WS.text_enc _ _ (by omega), WS.text_enc _ _ (by omega)]
    simp [WS.enc]

theorem writeD_wrong (o : List UInt8) (d : DD) (h : rightD d = false) : writeD ⟨o, 0⟩ d = ⟨o, 2⟩ := by
  unfold writeD
  rw [if_neg (by simp [h])]
  simp [WS.num]

theorem sumL_le (l : List (List UInt8)) (h : ∀ t ∈ l, t.length ≤ 100) : sumL l ≤ 104 * l.length := by
  induction l with
  | nil => simp [sumL]
  | cons t l ih =>
    have h1 := ih (fun t ht => h t (List.mem_cons_of_mem _ ht))
    have h2 := h t List.mem_cons_self
    simp only [sumL, List.map_cons, List.sum_cons, List.length_cons] at *
    omega

theorem octD_len (d : DD) (hs : SmallD d) : (octD d).length ≤ 10000 := by
  have h1 := hs.c; have h2 := hs.p; have h3 := hs.n; have h4 := hs.s; have h5 := hs.t
  have h6 := sumL_le d.vs hs.v
  unfold octD
  rw [List.length_append, bigB_length]
  split
  · simp only [List.length_append, encT_len, encL_len]; omega
  · simp only [List.length_append, encT_len]; omega

/-- What was written of a valid one is read back. -/
theorem read_oct (d : DD) (t : List UInt8) (h : rightD d = true) (hs : SmallD d) : fieldsR ⟨octD d ++ t, 0⟩ = (⟨t, 0⟩, d) := by
  have h1 := hs.c; have h2 := hs.p; have h3 := hs.n; have h4 := hs.s; have h5 := hs.t
  have hv : ∀ t ∈ d.vs, t.length ≤ 2147483647 := fun t ht => by have := hs.v t ht; omega
  obtain ⟨k, c, p, vs, s, x⟩ := d
  dsimp only at h1 h2 h3 h4 h5 hv
  rcases right_kind h with hk | hk
  · dsimp only at hk
    subst hk
    have hr := h
    rw [rightD_one rfl] at hr
    simp only [rightC, Bool.and_eq_true, List.isEmpty_iff] at hr
    obtain ⟨⟨_, rfl⟩, rfl⟩ := hr
    have e0 : octD ⟨1, c, p, vs, [], []⟩ ++ t = bigB 4 1 ++ (encT c ++ (encT p ++ (encL vs ++ t))) := by simp [octD]
    have e1 := read_num 1 (encT c ++ (encT p ++ (encL vs ++ t))) (by omega)
    have e2 := read_text c (encT p ++ (encL vs ++ t)) (by omega)
    have e3 := read_text p (encL vs ++ t) (by omega)
    have e4 := read_texts vs t (by omega) hv
    rw [e0]
    unfold fieldsR
    rw [e1]
    simp [e2, e3, e4]
  · dsimp only at hk
    subst hk
    have hr := h
    rw [rightD_two rfl] at hr
    simp only [rightM, Bool.and_eq_true, List.isEmpty_iff] at hr
    obtain ⟨⟨_, rfl⟩, rfl⟩ := hr
    have e0 : octD ⟨2, c, [], [], s, x⟩ ++ t = bigB 4 2 ++ (encT c ++ (encT s ++ (encT x ++ t))) := by simp [octD]
    have e1 := read_num 2 (encT c ++ (encT s ++ (encT x ++ t))) (by omega)
    have e2 := read_text c (encT s ++ (encT x ++ t)) (by omega)
    have e3 := read_text s (encT x ++ t) (by omega)
    have e4 := read_text x t (by omega)
    rw [e0]
    unfold fieldsR
    rw [e1]
    simp [e2, e3, e4]

theorem judge_oct (d : DD) (t : List UInt8) (h : rightD d = true) (hs : SmallD d) : judgeR (fieldsR ⟨octD d ++ t, 0⟩) = (d, 0) := by
  rw [read_oct d t h hs]
  simp [judgeR, h]

theorem strs_map (l : List (List UInt8)) : (l.map bs).map .string = strs l := by
  unfold strs
  rw [List.map_map]
  rfl
theorem strL_map (l : List (List UInt8)) : strL (l.map bs) = l := by
  unfold strL
  rw [List.map_map]
  exact List.map_id _

end Go.Proofs.YtlnincdmdegaoaaGreat

/-
  def.Write.
-/
namespace Go.Proofs.YtlnincdmdegaoaaGreat
open Go.RowKit Go.Mk

/-- The Writer and the box, behind w. -/
structure W7 (w : World) (F : Nat → Prop) (b : Nat) (ao : Option Addr) (cap : Nat) (d : DD) (s : WS) (wx : World) : Prop where
  wr : WrF wx (fun k => F k ∧ k ≠ w.heap.size) b s
  bx : Bx wx w.heap.size ao cap d
  k : Kept F w wx
  sz : w.heap.size < wx.heap.size
  hF : ∀ k, w.heap.size ≤ k → F k

theorem W7.fr {w : World} {F : Nat → Prop} {b : Nat} {ao : Option Addr} {cap : Nat} {d : DD} {s : WS} {wx : World} (h : W7 w F b ao cap d s wx) : ∀ k, wx.heap.size ≤ k → F k ∧ k ≠ w.heap.size :=
  fun k hk => ⟨h.hF k (by have := h.sz; omega), by have := h.sz; omega⟩

theorem W7.step {w : World} {F : Nat → Prop} {b : Nat} {ao : Option Addr} {cap : Nat} {d : DD} {s s' : WS} {wx wy : World} (h : W7 w F b ao cap d s wx) (hw : WrF wy (fun k => F k ∧ k ≠ w.heap.size) b s') (hk : Kept (fun k => F k ∧ k ≠ w.heap.size) wx wy) : W7 w F b ao cap d s' wy :=
  ⟨hw, h.bx.kept hk (fun h => h.2 rfl), h.k.trans hk (fun _ _ h => h.1), Nat.lt_of_lt_of_le h.sz hk.size, h.hF⟩

theorem W7.fin {w : World} {F : Nat → Prop} {b : Nat} {ao : Option Addr} {cap : Nat} {d : DD} {s : WS} {wx : World} (h : W7 w F b ao cap d s wx) : WrFPost w F b s (.returned (.tuple #[])) wx := ⟨rfl, h.wr.in (fun _ _ h => h.1), h.k⟩

end Go.Proofs.YtlnincdmdegaoaaGreat

/-
  CONTRACTS of package snap: Write.
-/
namespace Go.Proofs.YtlnincdmdegaoaaGreat
open Go.RowKit Go.Mk Go.Maps Go.Shelf

theorem nm_len {l : List UInt8} (h : isNm l = true) : l.length ≤ 40 := by
  simp [isNm, lenIn] at h
  exact h.1.1.2

theorem flat_le (ps : List (List UInt8)) (k : Nat) (h : ∀ x ∈ ps, x.length ≤ k) : ps.flatten.length ≤ k * ps.length := by
  induction ps with
  | nil => simp
  | cons x ps ih =>
    have h1 := h x (by simp)
    have h2 := ih (fun y hy => h y (by simp [hy]))
    simp only [List.flatten_cons, List.length_append, List.length_cons, Nat.mul_add]
    omega

theorem sel_len {l : List UInt8} (h : isSel l = true) : l.length ≤ 410 := by
  unfold isSel at h
  have h := of_decide_eq_true h
  unfold kindL at h
  split at h
  · rename_i h1
    simp [isUn] at h1
    have := nm_len h1.1
    omega
  · split at h
    · rename_i h1
      simp [isBi, lenIn] at h1
      omega
    · split at h
      · simp at h
      · rename_i h1
        unfold kwL at h1
        split at h1
        · rename_i h2
          obtain ⟨a1, a2, a3⟩ := h2
          have hf := cutL_flat l
          rw [a1, List.append_nil] at hf
          have := flat_le (cutL l).1 41 (fun x hx => by
            have := List.all_eq_true.1 a3 x hx
            simp only [goodP, isUn, Bool.and_eq_true] at this
            have := nm_len this.1
            rw [List.length_dropLast] at this
            omega)
          rw [hf] at this
          omega
        · simp at h1

/-- A valid definition is small. -/
theorem right_small {d : DD} (h : rightD d = true) : SmallD d := by
  rcases right_kind h with hk | hk
  · rw [rightD_one hk] at h
    simp only [rightC, ownCl, Bool.and_eq_true] at h
    obtain ⟨⟨⟨⟨⟨h1, _⟩, h2⟩, h3⟩, h4⟩, h5⟩ := h
    simp only [isCl, Bool.and_eq_true] at h1 h2
    have e4 : d.s = [] := by simpa using h4
    have e5 : d.t = [] := by simpa using h5
    simp only [areVars, Bool.and_eq_true, decide_eq_true_eq] at h3
    refine ⟨by have := nm_len h1.1; omega, by have := nm_len h2.1; omega, by omega, by rw [e4]; simp, by rw [e5]; simp, fun x hx => ?_⟩
    obtain ⟨i, hi, rfl⟩ := List.mem_iff_getElem.1 hx
    have hv := List.all_eq_true.1 (show varsTo d.vs d.vs.length = true from h3.2) i (List.mem_range.2 hi)
    rw [varAt_lt hi] at hv
    simp only [isVa, isUn, Bool.and_eq_true] at hv
    have := nm_len hv.1.1.1
    omega
  · rw [rightD_two hk] at h
    simp only [rightM, isCl, Bool.and_eq_true, decide_eq_true_eq] at h
    obtain ⟨⟨⟨⟨h1, h2⟩, h3⟩, h4⟩, h5⟩ := h
    have e4 : d.p = [] := by simpa using h4
    have e5 : d.vs = [] := by simpa using h5
    exact ⟨by have := nm_len h1.1; omega, by rw [e4]; simp, by rw [e5]; simp, by have := sel_len h2; omega, by omega, by rw [e5]; simp⟩

/-- The octets of definitions, one behind the other. -/
def octsL (l : List DD) : List UInt8 := (l.map octD).flatten
def octS (l : List DD) : List UInt8 := bigB 4 l.length ++ octsL l

theorem octsL_len (l : List DD) (h : ∀ d ∈ l, SmallD d) : (octsL l).length ≤ 10000 * l.length := by
  unfold octsL
  have := flat_le (l.map octD) 10000 (fun x hx => by
    obtain ⟨d, hd, rfl⟩ := List.mem_map.1 hx
    exact octD_len d (h d hd))
  rwa [List.length_map] at this

theorem octsL_snoc (l : List DD) (d : DD) : octsL (l ++ [d]) = octsL l ++ octD d := by simp [octsL]

theorem lies_val {w : World} {B : Nat} {ao : Option Addr} {v : Value} {vs : List Value} (h : Lies w B ao (v :: vs)) : ∃ b off, ao = some ⟨b, off, none⟩ ∧ b < B ∧ w.cell? ⟨b, off, none⟩ = some v := by
  obtain ⟨b, off, e, hb, hc⟩ := h (by simp)
  exact ⟨b, off, e, hb, hc 0 v rfl⟩

theorem WrF.keptF {w w' : World} {F S : Nat → Prop} {b : Nat} {s : WS} (h : WrF w F b s) (hk : Kept S w w') (hd : ∀ k, F k → ¬ S k) : WrF w' F b s := by
  obtain ⟨hlo, ao, cap, hw, hr⟩ := h
  have hlt := hw.lt
  exact ⟨hlo, ao, cap, ⟨(hk.cell (p := ⟨b, 0, none⟩) hlt (hd b hlo)).trans hw.c0, (hk.cell (p := ⟨b, 1, none⟩) hlt (hd b hlo)).trans hw.c1, (hk.frozen (p := ⟨b, 0, none⟩) hlt (hd b hlo)).trans hw.f0, (hk.frozen (p := ⟨b, 1, none⟩) hlt (hd b hlo)).trans hw.f1, owns_kept hw.own hk (fun k hk' => hd k (hr k (by rw [← own_any]; exact hk'))), hw.ne⟩, hr⟩

/-- A writer that has written something: its blocks hold no row of texts. -/
theorem WrF.apart {w : World} {F : Nat → Prop} {b : Nat} {s : WS} (h : WrF w F b s) (hs : s.out ≠ []) {B g : Nat} {vs : List (List UInt8)} (hL : Lies w B (some ⟨g, 0, none⟩) (strs vs)) (hv : vs ≠ []) : WrF w (fun k => F k ∧ k ≠ g) b s := by
  obtain ⟨hlo, wo, wc, hw, hr⟩ := h
  cases vs with
  | nil => exact (hv rfl).elim
  | cons t vs =>
    obtain ⟨g', off, e, _, hc⟩ := lies_val (show Lies w B (some ⟨g, 0, none⟩) (.string (bs t) :: strs vs) from hL)
    cases e
    refine ⟨⟨hlo, fun e => ?_⟩, wo, wc, hw, fun k hk => ⟨hr k hk, fun e => ?_⟩⟩
    · have h0 := hw.c0
      rw [e, hc] at h0
      cases h0
    · subst e
      have h0 := hw.own
      cases ho : s.out with
      | nil => exact hs ho
      | cons q o =>
        rw [ho] at h0
        have h1 := h0.cells (g := k) (by rw [own_any]; exact hk) 0 (bv q) (by simp)
        rw [Addr.add_lit, Nat.zero_add, hc] at h1
        cases h1

end Go.Proofs.YtlnincdmdegaoaaGreat
