/-
  A definition's octets: what is written of it, and that it is read back (plain); def.Write; the reference's Octets.
-/
import Derived.Test.YtecjecdgjmipcaaGreatFp
import Derived.Test.YtecjecdgjmipcaaGreatPr
import Derived.Test.YtecjecdgjmipcaaGreatGDg
import Derived.Test.YtecjecdgjmipcaaGreatGR7
import Derived.Deep.RegionHeld
import Derived.Deep.CutBlock
import Derived.Deep.DeepCutAuto
namespace Go.Proofs.YtecjecdgjmipcaaGreat
open Go.RowKit Go.Mk

def octD (d : DD) : List UInt8 := bigB 4 d.k.toNat ++ (if d.k = 1 then encT d.c ++ encT d.p ++ encL d.vs else encT d.c ++ encT d.s ++ encT d.t)

def writeD (s : WS) (d : DD) : WS := if rightD d = true then (if d.k = 2 then (((s.num d.k).text d.c).text d.s).text d.t else (((s.num d.k).text d.c).text d.p).texts d.vs) else s.num (-1)

theorem writeD_right (o : List UInt8) (d : DD) (h : rightD d = true) (hs : SmallD d) : writeD ⟨o, 0⟩ d = ⟨o ++ octD d, 0⟩ := by
  have h1 := hs.c; have h2 := hs.p; have h3 := hs.n; have h4 := hs.s; have h5 := hs.t
  have hv : ∀ t ∈ d.vs, t.length ≤ 2147483647 := fun t ht => by have := hs.v t ht; omega
  unfold writeD octD
  rw [if_pos h]
  rcases right_kind h with hk | hk
  · rw [hk, if_neg (by decide), if_pos rfl]
    rw [show (1 : Int) = ((1 : Nat) : Int) from rfl, WS.num_enc _ 1 (by omega), WS.text_enc _ _ (by omega), WS.text_enc _ _ (by omega), WS.texts_enc _ _ (by omega) hv]
    simp [WS.enc]
  · rw [hk, if_pos rfl, if_neg (by decide)]
    rw [show (2 : Int) = ((2 : Nat) : Int) from rfl, WS.num_enc _ 2 (by omega), WS.text_enc _ _ (by omega), WS.text_enc _ _ (by omega), WS.text_enc _ _ (by omega)]
    simp [WS.enc]

theorem writeD_wrong (o : List UInt8) (d : DD) (h : rightD d = false) : writeD ⟨o, 0⟩ d = ⟨o, 2⟩ := by
  unfold writeD
  rw [if_neg (by simp [h])]
  simp [WS.num]

theorem sumL_le (l : List (List UInt8)) (h : ∀ t ∈ l, t.length ≤ 100) : sumL l ≤ 104 * l.length := by
  induction l with
  | nil => simp [sumL]
  | cons t l ih =>
    have h1 := ih (fun t ht => h t (List.mem_cons_of_mem _ ht))
    have h2 := h t List.mem_cons_self
    simp only [sumL, List.map_cons, List.sum_cons, List.length_cons] at *
    omega

theorem octD_len (d : DD) (hs : SmallD d) : (octD d).length ≤ 10000 := by
  have h1 := hs.c; have h2 := hs.p; have h3 := hs.n; have h4 := hs.s; have h5 := hs.t
  have h6 := sumL_le d.vs hs.v
  unfold octD
  rw [List.length_append, bigB_length]
  split
  · simp only [List.length_append, encT_len, encL_len]; omega
  · simp only [List.length_append, encT_len]; omega

/-- What was written of a valid one is read back. -/
theorem read_oct (d : DD) (t : List UInt8) (h : rightD d = true) (hs : SmallD d) : fieldsR ⟨octD d ++ t, 0⟩ = (⟨t, 0⟩, d) := by
  have h1 := hs.c; have h2 := hs.p; have h3 := hs.n; have h4 := hs.s; have h5 := hs.t
  have hv : ∀ t ∈ d.vs, t.length ≤ 2147483647 := fun t ht => by have := hs.v t ht; omega
  obtain ⟨k, c, p, vs, s, x⟩ := d
  dsimp only at h1 h2 h3 h4 h5 hv
  rcases right_kind h with hk | hk
  · dsimp only at hk
    subst hk
    have hr := h
    rw [rightD_one rfl] at hr
    simp only [rightC, Bool.and_eq_true, List.isEmpty_iff] at hr
    obtain ⟨⟨_, rfl⟩, rfl⟩ := hr
    have e0 : octD ⟨1, c, p, vs, [], []⟩ ++ t = bigB 4 1 ++ (encT c ++ (encT p ++ (encL vs ++ t))) := by simp [octD]
    have e1 := read_num 1 (encT c ++ (encT p ++ (encL vs ++ t))) (by omega)
    have e2 := read_text c (encT p ++ (encL vs ++ t)) (by omega)
    have e3 := read_text p (encL vs ++ t) (by omega)
    have e4 := read_texts vs t (by omega) hv
    rw [e0]
    unfold fieldsR
    rw [e1]
    simp [e2, e3, e4]
  · dsimp only at hk
    subst hk
    have hr := h
    rw [rightD_two rfl] at hr
    simp only [rightM, Bool.and_eq_true, List.isEmpty_iff] at hr
    obtain ⟨⟨_, rfl⟩, rfl⟩ := hr
    have e0 : octD ⟨2, c, [], [], s, x⟩ ++ t = bigB 4 2 ++ (encT c ++ (encT s ++ (encT x ++ t))) := by simp [octD]
    have e1 := read_num 2 (encT c ++ (encT s ++ (encT x ++ t))) (by omega)
    have e2 := read_text c (encT s ++ (encT x ++ t)) (by omega)
    have e3 := read_text s (encT x ++ t) (by omega)
    have e4 := read_text x t (by omega)
    rw [e0]
    unfold fieldsR
    rw [e1]
    simp [e2, e3, e4]

theorem judge_oct (d : DD) (t : List UInt8) (h : rightD d = true) (hs : SmallD d) : judgeR (fieldsR ⟨octD d ++ t, 0⟩) = (d, 0) := by
  rw [read_oct d t h hs]
  simp [judgeR, h]

theorem strs_map (l : List (List UInt8)) : (l.map bs).map .string = strs l := by
  unfold strs
  rw [List.map_map]
  rfl
theorem strL_map (l : List (List UInt8)) : strL (l.map bs) = l := by
  unfold strL
  rw [List.map_map]
  exact List.map_id _

theorem WrF.textsL {w : World} {F : Nat → Prop} {b : Nat} {s : WS} (h : WrF w F b s) (hF : ∀ k, w.heap.size ≤ k → F k) (la : Option Addr) (lc : Nat) (l : List (List UInt8)) {B : Nat} (hL : Lies w B la (strs l)) (hna : l ≠ [] → ∀ a, la = some a → ¬ F a.block) (hl : s.out.length + 4 + sumL l ≤ 274877906944) (hn : l.length ≤ 274877906944) (hs : ∀ t ∈ l, t.length ≤ 274877906944) :
    Calls Tryz.prog 89 #[.pointer (some ⟨b, 0, none⟩), .slice la l.length lc] w (WrFPost w F b (s.texts l)) := by
  have := WrF.texts h hF la lc (l.map bs) (B := B) (by rw [strs_map]; exact hL) (fun hne => hna (fun e => hne (by rw [e]; rfl))) (by rw [strL_map]; exact hl) (by rw [List.length_map]; exact hn) (fun t ht => by obtain ⟨x, hx, rfl⟩ := List.mem_map.1 ht; exact hs x hx)
  rwa [strL_map, List.length_map] at this

theorem rtextsL_any (la : Option Addr) (lc : Nat) (l : List (List UInt8)) (B : Nat) (w : World) (hB : B ≤ w.heap.size) (hL : Lies w B la (strs l)) (hn : l.length ≤ 2147483647) (hs : ∀ t ∈ l, t.length ≤ 2147483647) (hz : sumL l ≤ 1099511627776) :
    Calls Tryz.prog 93 #[.slice la l.length lc] w fun e w' => e = .returned (.string (bs (encL l))) ∧ Below w.heap.size w w' := by
  have := rtexts_any la lc (l.map bs) B w hB (by rw [strs_map]; exact hL) (by rw [List.length_map]; exact hn) (fun t ht => by obtain ⟨x, hx, rfl⟩ := List.mem_map.1 ht; exact hs x hx) (by rw [strL_map]; exact hz)
  rwa [strL_map, List.length_map] at this

end Go.Proofs.YtecjecdgjmipcaaGreat
