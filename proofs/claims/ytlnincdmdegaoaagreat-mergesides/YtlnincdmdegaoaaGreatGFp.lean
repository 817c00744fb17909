/-
  Lemmas towards the claim of this folder: contracts of the functions that the law reaches; joined texts.
-/
import Derived.Test.YtlnincdmdegaoaaGreatGR1
import Derived.Test.YtlnincdmdegaoaaGreatGRd
import Derived.Test.YtlnincdmdegaoaaGreatGDh
import Derived.Test.YtlnincdmdegaoaaGreatR7b
import Derived.Deep.RegionHeld
import Derived.Deep.CutBlock
import Derived.Deep.DeepCutAuto
import Derived.Test.YtlnincdmdegaoaaGreatGSu
/-
  What fields write: plain facts.
-/
namespace Go.Proofs.YtlnincdmdegaoaaGreat
open Go.RowKit Go.Mk

def WS.enc (s : WS) (l : List UInt8) : WS := if s.err ≠ 0 then s else ⟨s.out ++ l, 0⟩
theorem WS.num_enc (s : WS) (n : Nat) (h : n ≤ 2147483647) : s.num n = s.enc (bigB 4 n) := by
  by_cases he : s.err = 0
  · rw [WS.num_ok s n he h]; simp [WS.enc, he]
  · rw [WS.num_err s _ he]; simp [WS.enc, he]
theorem WS.int_enc (s : WS) (n : Int) : s.int n = s.enc (bigB 8 (asU64 n)) := rfl
theorem WS.text_enc (s : WS) (t : List UInt8) (h : t.length ≤ 2147483647) : s.text t = s.enc (encT t) := by
  unfold WS.text
  rw [WS.num_enc s _ h]
  by_cases he : s.err = 0 <;> simp [WS.enc, he, encT]
theorem WS.texts_enc (s : WS) (l : List (List UInt8)) (h : l.length ≤ 2147483647) (ht : ∀ t ∈ l, t.length ≤ 2147483647) : s.texts l = s.enc (encL l) := by
  have : ∀ (l : List (List UInt8)), (∀ t ∈ l, t.length ≤ 2147483647) → ∀ (s : WS), l.foldl WS.text s = s.enc (l.map encT).flatten := by
    intro l
    induction l with
    | nil => intro _ s; by_cases he : s.err = 0 <;> simp [WS.enc, he]; cases s; simp_all
    | cons t l ih =>
      intro ht s
      rw [List.foldl_cons, ih (fun t h => ht t (List.mem_cons_of_mem _ h)), WS.text_enc s t (ht t List.mem_cons_self)]
      by_cases he : s.err = 0 <;> simp [WS.enc, he]
  unfold WS.texts
  rw [this l ht, WS.num_enc s _ h]
  by_cases he : s.err = 0 <;> simp [WS.enc, he, encL]

theorem small_parts {f : FD} (h : f.small = true) : f.s.size ≤ 200 ∧ f.ls.length ≤ 20 ∧ ∀ t ∈ f.ls, t.size ≤ 100 := by
  simp [FD.small] at h
  exact ⟨h.1, h.2.1, h.2.2⟩

theorem enc_len (s : WS) (l : List UInt8) : (s.enc l).out.length ≤ s.out.length + l.length := by
  unfold WS.enc
  split
  · omega
  · simp

theorem enc_fin (s : WS) (l : List UInt8) (h : s.err = 0 ∨ s.err = 2) : (((s.enc l).err = 0 ∧ (s.enc l).out = s.out ++ l) ∨ ((s.enc l).err = 2 ∧ (s.enc l).out = s.out)) ∧ ((s.enc l).err == 0) = (s.err == 0) := by
  rcases h with h | h <;> simp [WS.enc, h]

theorem sum_le (l : List ByteArray) (h : ∀ t ∈ l, t.size ≤ 100) : sumL (strL l) ≤ 104 * l.length := by
  induction l with
  | nil => simp [sumL, strL]
  | cons t l ih =>
    have h1 := ih (fun t ht => h t (List.mem_cons_of_mem _ ht))
    have h2 := h t List.mem_cons_self
    have h3 : t.data.toList.length = t.size := rfl
    simp only [sumL, strL, List.map_cons, List.sum_cons, List.length_cons] at *
    omega

/-- What one field writes. -/
def FD.step (f : FD) (s : WS) : WS := if f.kind = 0 then s.num f.n else if f.kind = 1 then s.int f.n else if f.kind = 2 then s.text f.s.data.toList else s.texts (strL f.ls)


/-- What one field is written as, and when it can be. -/
def FD.encF (f : FD) : List UInt8 := if f.kind = 0 then bigB 4 f.n.toNat else if f.kind = 1 then bigB 8 (asU64 f.n) else if f.kind = 2 then encT f.s.data.toList else encL (strL f.ls)
def FD.good (f : FD) : Prop := f.kind = 0 → 0 ≤ f.n ∧ f.n ≤ 2147483647

theorem step_good (s : WS) (f : FD) (hs : f.small = true) (hg : f.good) : f.step s = s.enc f.encF := by
  obtain ⟨g1, g2, g3⟩ := small_parts hs
  unfold FD.step FD.encF
  by_cases k0 : f.kind = 0
  · obtain ⟨h1, h2⟩ := hg k0
    obtain ⟨m, hm⟩ := Int.eq_ofNat_of_zero_le h1
    rw [if_pos k0, if_pos k0, hm, Int.toNat_natCast]
    exact WS.num_enc s m (by omega)
  · rw [if_neg k0, if_neg k0]
    by_cases k1 : f.kind = 1
    · rw [if_pos k1, if_pos k1, WS.int_enc]
    · rw [if_neg k1, if_neg k1]
      by_cases k2 : f.kind = 2
      · rw [if_pos k2, if_pos k2]
        exact WS.text_enc s _ (show f.s.size ≤ _ by omega)
      · rw [if_neg k2, if_neg k2]
        refine WS.texts_enc s _ (by simp [strL]; omega) (fun t ht => ?_)
        obtain ⟨x, hx, rfl⟩ := List.mem_map.1 ht
        have := g3 x hx
        show x.size ≤ _
        omega

theorem step_bad (s : WS) (f : FD) (hg : ¬ f.good) : f.step s = if s.err ≠ 0 then s else ⟨s.out, 2⟩ := by
  unfold FD.good at hg
  have k0 : f.kind = 0 := Classical.byContradiction fun h => hg (fun h' => absurd h' h)
  have hn : f.n < 0 ∨ 2147483647 < f.n := by
    have : ¬ (0 ≤ f.n ∧ f.n ≤ 2147483647) := fun h => hg (fun _ => h)
    omega
  simp [FD.step, k0, WS.num, hn]

theorem encF_len (f : FD) (hs : f.small = true) : f.encF.length ≤ 10000 := by
  obtain ⟨g1, g2, g3⟩ := small_parts hs
  have g4 := sum_le f.ls g3
  have e1 : f.s.data.toList.length = f.s.size := rfl
  unfold FD.encF
  split
  · rw [bigB_length]; omega
  · split
    · rw [bigB_length]; omega
    · split
      · rw [encT_len]; omega
      · rw [encL_len]; omega

def bk (fs : List FD) : WS := fs.foldl (fun s f => f.step s) ⟨[], 0⟩

theorem bk_all (fs : List FD) (hs : ∀ f ∈ fs, f.small = true) : ((bk fs).err = 0 ∧ (bk fs).out = (fs.map FD.encF).flatten ∧ ∀ f ∈ fs, f.good) ∨ (bk fs).err = 2 := by
  have two : ∀ (fs : List FD), (∀ f ∈ fs, f.small = true) → ∀ s : WS, s.err = 2 → (fs.foldl (fun s f => f.step s) s).err = 2 := by
    intro fs
    induction fs with
    | nil => intro _ s h; exact h
    | cons f fs ih =>
      intro hs s h
      refine ih (fun g hg => hs g (List.mem_cons_of_mem _ hg)) _ ?_
      show (f.step s).err = 2
      by_cases hg : f.good
      · rw [step_good s f (hs f List.mem_cons_self) hg]; simp [WS.enc, h]
      · rw [step_bad s f hg]; simp [h]
  have all : ∀ (fs : List FD), (∀ f ∈ fs, f.small = true) → ∀ s : WS, s.err = 0 →
      (((fs.foldl (fun s f => f.step s) s).err = 0 ∧ (fs.foldl (fun s f => f.step s) s).out = s.out ++ (fs.map FD.encF).flatten ∧ ∀ f ∈ fs, f.good) ∨ (fs.foldl (fun s f => f.step s) s).err = 2) := by
    intro fs
    induction fs with
    | nil => intro _ s h; left; simp [h]
    | cons f fs ih =>
      intro hs s h
      have hs' := fun g hg => hs g (List.mem_cons_of_mem _ hg)
      by_cases hg : f.good
      · have e := step_good s f (hs f List.mem_cons_self) hg
        have e2 : s.enc f.encF = ⟨s.out ++ f.encF, 0⟩ := by simp [WS.enc, h]
        rw [List.foldl_cons, e, e2]
        rcases ih hs' ⟨s.out ++ f.encF, 0⟩ rfl with ⟨h1, h2, h3⟩ | h1
        · left
          refine ⟨h1, by rw [h2]; simp, fun g hg' => ?_⟩
          rcases List.mem_cons.1 hg' with rfl | hg'
          · exact hg
          · exact h3 g hg'
        · exact .inr h1
      · right
        have e := step_bad s f hg
        rw [List.foldl_cons, e]
        exact two fs hs' _ (by simp [h])
  simpa [bk] using all fs hs ⟨[], 0⟩ rfl

theorem bk_len (fs : List FD) (hs : ∀ f ∈ fs, f.small = true) : (bk fs).out.length ≤ 10000 * fs.length := by
  have : ∀ (fs : List FD), (∀ f ∈ fs, f.small = true) → ∀ s : WS, (fs.foldl (fun s f => f.step s) s).out.length ≤ s.out.length + 10000 * fs.length := by
    intro fs
    induction fs with
    | nil => intro _ s; simp
    | cons f fs ih =>
      intro hs s
      have h1 := ih (fun g hg => hs g (List.mem_cons_of_mem _ hg)) (f.step s)
      have h2 := encF_len f (hs f List.mem_cons_self)
      have h3 : (f.step s).out.length ≤ s.out.length + 10000 := by
        by_cases hg : f.good
        · rw [step_good s f (hs f List.mem_cons_self) hg]
          have := enc_len s f.encF
          omega
        · rw [step_bad s f hg]; split <;> simp
      simp only [List.foldl_cons, List.length_cons]
      omega
  simpa [bk] using this fs hs ⟨[], 0⟩

theorem bk_snoc (fs : List FD) (j : Nat) (h : j < fs.length) : bk (fs.take (j + 1)) = fs[j].step (bk (fs.take j)) := by
  have e : fs.take (j + 1) = fs.take j ++ [fs[j]] := by rw [List.take_add_one, List.getElem?_eq_getElem h]; rfl
  rw [e]
  unfold bk
  rw [List.foldl_append]
  rfl

/-- What a field is read as, where it stands at the head. -/
theorem read_field (f : FD) (t : List UInt8) (hs : f.small = true) (hg : f.good) (hr : -9223372036854775808 ≤ f.n ∧ f.n ≤ 9223372036854775807) :
    (f.kind = 0 → (⟨f.encF ++ t, 0⟩ : RS).num = (⟨t, 0⟩, f.n)) ∧ (f.kind = 1 → (⟨f.encF ++ t, 0⟩ : RS).int = (⟨t, 0⟩, f.n)) ∧
    (f.kind = 2 → (⟨f.encF ++ t, 0⟩ : RS).text = (⟨t, 0⟩, f.s.data.toList)) ∧ (f.kind ≠ 0 → f.kind ≠ 1 → f.kind ≠ 2 → (⟨f.encF ++ t, 0⟩ : RS).texts = (⟨t, 0⟩, strL f.ls)) := by
  obtain ⟨g1, g2, g3⟩ := small_parts hs
  refine ⟨fun k => ?_, fun k => ?_, fun k => ?_, fun k0 k1 k2 => ?_⟩
  · obtain ⟨h1, h2⟩ := hg k
    obtain ⟨m, hm⟩ := Int.eq_ofNat_of_zero_le h1
    have e : f.encF = bigB 4 m := by unfold FD.encF; rw [if_pos k, hm, Int.toNat_natCast]
    rw [e, hm]
    exact read_num m t (by omega)
  · have e : f.encF = bigB 8 (asU64 f.n) := by unfold FD.encF; rw [if_neg (by omega), if_pos k]
    rw [e]
    exact read_int f.n t hr.1 hr.2
  · have e : f.encF = encT f.s.data.toList := by unfold FD.encF; rw [if_neg (by omega), if_neg (by omega), if_pos k]
    rw [e]
    exact read_text _ t (show f.s.size ≤ _ by omega)
  · have e : f.encF = encL (strL f.ls) := by unfold FD.encF; rw [if_neg k0, if_neg k1, if_neg k2]
    rw [e]
    refine read_texts _ t (by simp [strL]; omega) (fun x hx => ?_)
    obtain ⟨y, hy, rfl⟩ := List.mem_map.1 hx
    have := g3 y hy
    show y.size ≤ _
    omega

end Go.Proofs.YtlnincdmdegaoaaGreat

/-
  A definition's octets: what is written of it, and that it is read back (plain); def.Write; the reference's Octets.
-/
namespace Go.Proofs.YtlnincdmdegaoaaGreat
open Go.RowKit Go.Mk

def octD (d : DD) : List UInt8 := bigB 4 d.k.toNat ++ (if d.k = 1 then encT d.c ++ encT d.p ++ encL d.vs else encT d.c ++ encT d.s ++ encT d.t)

def writeD (s : WS) (d : DD) : WS := if rightD d = true then (if d.k = 2 then (((s.num d.k).text d.c).text d.s).text d.t else (((s.num d.k).text d.c).text d.p).texts d.vs) else s.num (-1)

theorem writeD_right (o : List UInt8) (d : DD) (h : rightD d = true) (hs : SmallD d) : writeD ⟨o, 0⟩ d = ⟨o ++ octD d, 0⟩ := by
  have h1 := hs.c; have h2 := hs.p; have h3 := hs.n; have h4 := hs.s; have h5 := hs.t
  have hv : ∀ t ∈ d.vs, t.length ≤ 2147483647 := fun t ht => by have := hs.v t ht; omega
  unfold writeD octD
  rw [if_pos h]
  rcases right_kind h with hk | hk
  · rw [hk, if_neg (by decide), if_pos rfl]
    rw [show (1 : Int) = ((1 : Nat) : Int) from rfl, WS.num_enc _ 1 (by omega), WS.text_enc _ _ (by omega), WS.text_enc _ _ (by omega), WS.texts_enc _ _ (by omega) hv]
    simp [WS.enc]
  · rw [hk, if_pos rfl, if_neg (by decide)]
    rw [show (2 : Int) = ((2 : Nat) : Int) from rfl, WS.num_enc _ 2 (by omega), WS.text_enc _ _ (by omega), WS.text_enc _ _ (by omega), WS.text_enc _ _ (by omega)]
    simp [WS.enc]

theorem writeD_wrong (o : List UInt8) (d : DD) (h : rightD d = false) : writeD ⟨o, 0⟩ d = ⟨o, 2⟩ := by
  unfold writeD
  rw [if_neg (by simp [h])]
  simp [WS.num]

theorem sumL_le (l : List (List UInt8)) (h : ∀ t ∈ l, t.length ≤ 100) : sumL l ≤ 104 * l.length := by
  induction l with
  | nil => simp [sumL]
  | cons t l ih =>
    have h1 := ih (fun t ht => h t (List.mem_cons_of_mem _ ht))
    have h2 := h t List.mem_cons_self
    simp only [sumL, List.map_cons, List.sum_cons, List.length_cons] at *
    omega

theorem octD_len (d : DD) (hs : SmallD d) : (octD d).length ≤ 10000 := by
  have h1 := hs.c; have h2 := hs.p; have h3 := hs.n; have h4 := hs.s; have h5 := hs.t
  have h6 := sumL_le d.vs hs.v
  unfold octD
  rw [List.length_append, bigB_length]
  split
  · simp only [List.length_append, encT_len, encL_len]; omega
  · simp only [List.length_append, encT_len]; omega

/-- What was written of a valid one is read back. -/
theorem read_oct (d : DD) (t : List UInt8) (h : rightD d = true) (hs : SmallD d) : fieldsR ⟨octD d ++ t, 0⟩ = (⟨t, 0⟩, d) := by
  have h1 := hs.c; have h2 := hs.p; have h3 := hs.n; have h4 := hs.s; have h5 := hs.t
  have hv : ∀ t ∈ d.vs, t.length ≤ 2147483647 := fun t ht => by have := hs.v t ht; omega
  obtain ⟨k, c, p, vs, s, x⟩ := d
  dsimp only at h1 h2 h3 h4 h5 hv
  rcases right_kind h with hk | hk
  · dsimp only at hk
    subst hk
    have hr := h
    rw [rightD_one rfl] at hr
    simp only [rightC, Bool.and_eq_true, List.isEmpty_iff] at hr
    obtain ⟨⟨_, rfl⟩, rfl⟩ := hr
    have e0 : octD ⟨1, c, p, vs, [], []⟩ ++ t = bigB 4 1 ++ (encT c ++ (encT p ++ (encL vs ++ t))) := by simp [octD]
    have e1 := read_num 1 (encT c ++ (encT p ++ (encL vs ++ t))) (by omega)
    have e2 := read_text c (encT p ++ (encL vs ++ t)) (by omega)
    have e3 := read_text p (encL vs ++ t) (by omega)
    have e4 := read_texts vs t (by omega) hv
    rw [e0]
    unfold fieldsR
    rw [e1]
    simp [e2, e3, e4]
  · dsimp only at hk
    subst hk
    have hr := h
    rw [rightD_two rfl] at hr
    simp only [rightM, Bool.and_eq_true, List.isEmpty_iff] at hr
    obtain ⟨⟨_, rfl⟩, rfl⟩ := hr
    have e0 : octD ⟨2, c, [], [], s, x⟩ ++ t = bigB 4 2 ++ (encT c ++ (encT s ++ (encT x ++ t))) := by simp [octD]
    have e1 := read_num 2 (encT c ++ (encT s ++ (encT x ++ t))) (by omega)
    have e2 := read_text c (encT s ++ (encT x ++ t)) (by omega)
    have e3 := read_text s (encT x ++ t) (by omega)
    have e4 := read_text x t (by omega)
    rw [e0]
    unfold fieldsR
    rw [e1]
    simp [e2, e3, e4]

theorem judge_oct (d : DD) (t : List UInt8) (h : rightD d = true) (hs : SmallD d) : judgeR (fieldsR ⟨octD d ++ t, 0⟩) = (d, 0) := by
  rw [read_oct d t h hs]
  simp [judgeR, h]

theorem strs_map (l : List (List UInt8)) : (l.map bs).map .string = strs l := by
  unfold strs
  rw [List.map_map]
  rfl
theorem strL_map (l : List (List UInt8)) : strL (l.map bs) = l := by
  unfold strL
  rw [List.map_map]
  exact List.map_id _

end Go.Proofs.YtlnincdmdegaoaaGreat

/-
  def.Write.
-/
namespace Go.Proofs.YtlnincdmdegaoaaGreat
open Go.RowKit Go.Mk

/-- The Writer and the box, behind w. -/
structure W7 (w : World) (F : Nat → Prop) (b : Nat) (ao : Option Addr) (cap : Nat) (d : DD) (s : WS) (wx : World) : Prop where
  wr : WrF wx (fun k => F k ∧ k ≠ w.heap.size) b s
  bx : Bx wx w.heap.size ao cap d
  k : Kept F w wx
  sz : w.heap.size < wx.heap.size
  hF : ∀ k, w.heap.size ≤ k → F k

theorem W7.fr {w : World} {F : Nat → Prop} {b : Nat} {ao : Option Addr} {cap : Nat} {d : DD} {s : WS} {wx : World} (h : W7 w F b ao cap d s wx) : ∀ k, wx.heap.size ≤ k → F k ∧ k ≠ w.heap.size :=
  fun k hk => ⟨h.hF k (by have := h.sz; omega), by have := h.sz; omega⟩

theorem W7.step {w : World} {F : Nat → Prop} {b : Nat} {ao : Option Addr} {cap : Nat} {d : DD} {s s' : WS} {wx wy : World} (h : W7 w F b ao cap d s wx) (hw : WrF wy (fun k => F k ∧ k ≠ w.heap.size) b s') (hk : Kept (fun k => F k ∧ k ≠ w.heap.size) wx wy) : W7 w F b ao cap d s' wy :=
  ⟨hw, h.bx.kept hk (fun h => h.2 rfl), h.k.trans hk (fun _ _ h => h.1), Nat.lt_of_lt_of_le h.sz hk.size, h.hF⟩

theorem W7.fin {w : World} {F : Nat → Prop} {b : Nat} {ao : Option Addr} {cap : Nat} {d : DD} {s : WS} {wx : World} (h : W7 w F b ao cap d s wx) : WrFPost w F b s (.returned (.tuple #[])) wx := ⟨rfl, h.wr.in (fun _ _ h => h.1), h.k⟩

end Go.Proofs.YtlnincdmdegaoaaGreat
