/-
  Lemmas towards the claim of this folder: contracts of the functions that the law reaches; joined texts.
-/
import Derived.Test.YtlnincdmdegaoaaGreatGR1
/-
  WHAT IS WRITTEN IS READ BACK: plain facts on the encodings.
-/
namespace Go.Proofs.YtlnincdmdegaoaaGreat
open Go.RowKit Go.Mk

theorem natB_fold (k u n : Nat) : (bigB k u).foldl (fun n x => n * 256 + x.toNat) n = n * 256 ^ k + u % 256 ^ k := by
  induction k generalizing n with
  | zero => simp [bigB, Nat.mod_one]
  | succ k ih =>
    rw [bigB, List.foldl_cons, ih]
    have h1 : (UInt8.ofNat (u / 256 ^ k)).toNat = u / 256 ^ k % 256 := by simp
    rw [h1, Nat.pow_succ, Nat.mod_mul, Nat.add_mul, Nat.mul_assoc, Nat.mul_comm 256 (256 ^ k), Nat.add_assoc]
    congr 1
    rw [Nat.mul_comm (u / 256 ^ k % 256), Nat.add_comm]
theorem natB_bigB (k u : Nat) : natB (bigB k u) = u % 256 ^ k := by
  unfold natB
  rw [natB_fold]; simp

theorem take_big (k u : Nat) (t : List UInt8) : (bigB k u ++ t).take k = bigB k u ∧ (bigB k u ++ t).drop k = t := by
  have := bigB_length k u
  exact ⟨List.take_left' this, List.drop_left' this⟩

theorem read_num (n : Nat) (t : List UInt8) (h : n ≤ 2147483647) : (⟨bigB 4 n ++ t, 0⟩ : RS).num = (⟨t, 0⟩, (n : Int)) := by
  obtain ⟨e1, e2⟩ := take_big 4 n t
  have e3 : natB (bigB 4 n) = n := by rw [natB_bigB]; exact Nat.mod_eq_of_lt (by omega)
  unfold RS.num
  have hl : ¬ (bigB 4 n ++ t).length < 4 := by simp [bigB_length]
  have hb : ¬ 2147483647 < n := by omega
  simp only [e1, e2, e3, hl, hb, ne_eq, not_true_eq_false, if_false]

theorem asU64_back (n : Int) (h1 : -9223372036854775808 ≤ n) (h2 : n ≤ 9223372036854775807) : wrap64 (asU64 n : Int) = n := by
  have : (asU64 n : Int) = n % 18446744073709551616 := by
    rw [← asU64_eq, IntKind.wrap_u64]
  rw [this]
  unfold wrap64
  omega

theorem read_int (n : Int) (t : List UInt8) (h1 : -9223372036854775808 ≤ n) (h2 : n ≤ 9223372036854775807) : (⟨bigB 8 (asU64 n) ++ t, 0⟩ : RS).int = (⟨t, 0⟩, n) := by
  obtain ⟨e1, e2⟩ := take_big 8 (asU64 n) t
  have e3 : natB (bigB 8 (asU64 n)) = asU64 n := by
    rw [natB_bigB]; exact Nat.mod_eq_of_lt (asU64_lt n)
  unfold RS.int
  have hl : ¬ (bigB 8 (asU64 n) ++ t).length < 8 := by simp [bigB_length]
  simp only [e1, e2, e3, hl, ne_eq, not_true_eq_false, if_false, asU64_back n h1 h2]

theorem read_text (x t : List UInt8) (h : x.length ≤ 2147483647) : (⟨encT x ++ t, 0⟩ : RS).text = (⟨t, 0⟩, x) := by
  have e : (⟨encT x ++ t, 0⟩ : RS).num = (⟨x ++ t, 0⟩, (x.length : Int)) := by
    rw [encT, List.append_assoc]
    exact read_num _ _ h
  have hl : ¬ (x ++ t).length < x.length := by simp
  unfold RS.text
  simp only [e, Int.toNat_natCast, hl, ne_eq, not_true_eq_false, if_false, List.take_left', List.drop_left']

theorem read_many (l : List (List UInt8)) (t : List UInt8) (h : ∀ x ∈ l, x.length ≤ 2147483647) : RS.many l.length ⟨(l.map encT).flatten ++ t, 0⟩ = (⟨t, 0⟩, l) := by
  induction l with
  | nil => rfl
  | cons x l ih =>
    have e := read_text x ((l.map encT).flatten ++ t) (h x List.mem_cons_self)
    have e2 := ih (fun y hy => h y (List.mem_cons_of_mem _ hy))
    simp only [List.map_cons, List.flatten_cons, List.append_assoc, List.length_cons, RS.many, e, e2, ne_eq, not_true_eq_false, if_false]

theorem read_texts (l : List (List UInt8)) (t : List UInt8) (hl : l.length ≤ 1000000) (h : ∀ x ∈ l, x.length ≤ 2147483647) : (⟨encL l ++ t, 0⟩ : RS).texts = (⟨t, 0⟩, l) := by
  have e : (⟨encL l ++ t, 0⟩ : RS).num = (⟨(l.map encT).flatten ++ t, 0⟩, (l.length : Int)) := by
    rw [encL, List.append_assoc]
    exact read_num _ _ (by omega)
  have hs : l.length ≤ sumL l := by
    clear e hl h
    induction l with
    | nil => simp
    | cons x l ih => simp [sumL] at *; omega
  have ht : (⟨encL l ++ t, 0⟩ : RS).head = ⟨(l.map encT).flatten ++ t, 0⟩ := by
    unfold RS.head RS.tooMany
    rw [e]
    have : ¬ (1000000 < (l.length : Int) ∨ ((((l.map encT).flatten ++ t).length : Nat) : Int) < (l.length : Int)) := by
      simp only [List.length_append, flat_len]; omega
    simp only [this, and_false, decide_false, Bool.false_eq_true, if_false]
  unfold RS.texts
  rw [ht, e, Int.toNat_natCast, read_many l t h]
  simp

end Go.Proofs.YtlnincdmdegaoaaGreat

/-
  What fields write: plain facts.
-/
namespace Go.Proofs.YtlnincdmdegaoaaGreat
open Go.RowKit Go.Mk

def WS.enc (s : WS) (l : List UInt8) : WS := if s.err ≠ 0 then s else ⟨s.out ++ l, 0⟩
theorem WS.num_enc (s : WS) (n : Nat) (h : n ≤ 2147483647) : s.num n = s.enc (bigB 4 n) := by
  by_cases he : s.err = 0
  · rw [WS.num_ok s n he h]; simp [WS.enc, he]
  · rw [WS.num_err s _ he]; simp [WS.enc, he]
theorem WS.int_enc (s : WS) (n : Int) : s.int n = s.enc (bigB 8 (asU64 n)) := rfl
theorem WS.text_enc (s : WS) (t : List UInt8) (h : t.length ≤ 2147483647) : s.text t = s.enc (encT t) := by
  unfold WS.text
  rw [WS.num_enc s _ h]
  by_cases he : s.err = 0 <;> simp [WS.enc, he, encT]
theorem WS.texts_enc (s : WS) (l : List (List UInt8)) (h : l.length ≤ 2147483647) (ht : ∀ t ∈ l, t.length ≤ 2147483647) : s.texts l = s.enc (encL l) := by
  have : ∀ (l : List (List UInt8)), (∀ t ∈ l, t.length ≤ 2147483647) → ∀ (s : WS), l.foldl WS.text s = s.enc (l.map encT).flatten := by
    intro l
    induction l with
    | nil => intro _ s; by_cases he : s.err = 0 <;> simp [WS.enc, he]; cases s; simp_all
    | cons t l ih =>
      intro ht s
      rw [List.foldl_cons, ih (fun t h => ht t (List.mem_cons_of_mem _ h)), WS.text_enc s t (ht t List.mem_cons_self)]
      by_cases he : s.err = 0 <;> simp [WS.enc, he]
  unfold WS.texts
  rw [this l ht, WS.num_enc s _ h]
  by_cases he : s.err = 0 <;> simp [WS.enc, he, encL]

theorem small_parts {f : FD} (h : f.small = true) : f.s.size ≤ 200 ∧ f.ls.length ≤ 20 ∧ ∀ t ∈ f.ls, t.size ≤ 100 := by
  simp [FD.small] at h
  exact ⟨h.1, h.2.1, h.2.2⟩

theorem enc_len (s : WS) (l : List UInt8) : (s.enc l).out.length ≤ s.out.length + l.length := by
  unfold WS.enc
  split
  · omega
  · simp

theorem enc_fin (s : WS) (l : List UInt8) (h : s.err = 0 ∨ s.err = 2) : (((s.enc l).err = 0 ∧ (s.enc l).out = s.out ++ l) ∨ ((s.enc l).err = 2 ∧ (s.enc l).out = s.out)) ∧ ((s.enc l).err == 0) = (s.err == 0) := by
  rcases h with h | h <;> simp [WS.enc, h]

theorem sum_le (l : List ByteArray) (h : ∀ t ∈ l, t.size ≤ 100) : sumL (strL l) ≤ 104 * l.length := by
  induction l with
  | nil => simp [sumL, strL]
  | cons t l ih =>
    have h1 := ih (fun t ht => h t (List.mem_cons_of_mem _ ht))
    have h2 := h t List.mem_cons_self
    have h3 : t.data.toList.length = t.size := rfl
    simp only [sumL, strL, List.map_cons, List.sum_cons, List.length_cons] at *
    omega

/-- What one field writes. -/
def FD.step (f : FD) (s : WS) : WS := if f.kind = 0 then s.num f.n else if f.kind = 1 then s.int f.n else if f.kind = 2 then s.text f.s.data.toList else s.texts (strL f.ls)


/-- What one field is written as, and when it can be. -/
def FD.encF (f : FD) : List UInt8 := if f.kind = 0 then bigB 4 f.n.toNat else if f.kind = 1 then bigB 8 (asU64 f.n) else if f.kind = 2 then encT f.s.data.toList else encL (strL f.ls)
def FD.good (f : FD) : Prop := f.kind = 0 → 0 ≤ f.n ∧ f.n ≤ 2147483647

theorem step_good (s : WS) (f : FD) (hs : f.small = true) (hg : f.good) : f.step s = s.enc f.encF := by
  obtain ⟨g1, g2, g3⟩ := small_parts hs
  unfold FD.step FD.encF
  by_cases k0 : f.kind = 0
  · obtain ⟨h1, h2⟩ := hg k0
    obtain ⟨m, hm⟩ := Int.eq_ofNat_of_zero_le h1
    rw [if_pos k0, if_pos k0, hm, Int.toNat_natCast]
    exact WS.num_enc s m (by omega)
  · rw [if_neg k0, if_neg k0]
    by_cases k1 : f.kind = 1
    · rw [if_pos k1, if_pos k1, WS.int_enc]
    · rw [if_neg k1, if_neg k1]
      by_cases k2 : f.kind = 2
      · rw [if_pos k2, if_pos k2]
        exact WS.text_enc s _ (show f.s.size ≤ _ by omega)
      · rw [if_neg k2, if_neg k2]
        refine WS.texts_enc s _ (by simp [strL]; omega) (fun t ht => ?_)
        obtain ⟨x, hx, rfl⟩ := List.mem_map.1 ht
        have := g3 x hx
        show x.size ≤ _
        omega

theorem step_bad (s : WS) (f : FD) (hg : ¬ f.good) : f.step s = if s.err ≠ 0 then s else ⟨s.out, 2⟩ := by
  unfold FD.good at hg
  have k0 : f.kind = 0 := Classical.byContradiction fun h => hg (fun h' => absurd h' h)
  have hn : f.n < 0 ∨ 2147483647 < f.n := by
    have : ¬ (0 ≤ f.n ∧ f.n ≤ 2147483647) := fun h => hg (fun _ => h)
    omega
  simp [FD.step, k0, WS.num, hn]

theorem encF_len (f : FD) (hs : f.small = true) : f.encF.length ≤ 10000 := by
  obtain ⟨g1, g2, g3⟩ := small_parts hs
  have g4 := sum_le f.ls g3
  have e1 : f.s.data.toList.length = f.s.size := rfl
  unfold FD.encF
  split
  · rw [bigB_length]; omega
  · split
    · rw [bigB_length]; omega
    · split
      · rw [encT_len]; omega
      · rw [encL_len]; omega

def bk (fs : List FD) : WS := fs.foldl (fun s f => f.step s) ⟨[], 0⟩

theorem bk_all (fs : List FD) (hs : ∀ f ∈ fs, f.small = true) : ((bk fs).err = 0 ∧ (bk fs).out = (fs.map FD.encF).flatten ∧ ∀ f ∈ fs, f.good) ∨ (bk fs).err = 2 := by
  have two : ∀ (fs : List FD), (∀ f ∈ fs, f.small = true) → ∀ s : WS, s.err = 2 → (fs.foldl (fun s f => f.step s) s).err = 2 := by
    intro fs
    induction fs with
    | nil => intro _ s h; exact h
    | cons f fs ih =>
      intro hs s h
      refine ih (fun g hg => hs g (List.mem_cons_of_mem _ hg)) _ ?_
      show (f.step s).err = 2
      by_cases hg : f.good
      · rw [step_good s f (hs f List.mem_cons_self) hg]; simp [WS.enc, h]
      · rw [step_bad s f hg]; simp [h]
  have all : ∀ (fs : List FD), (∀ f ∈ fs, f.small = true) → ∀ s : WS, s.err = 0 →
      (((fs.foldl (fun s f => f.step s) s).err = 0 ∧ (fs.foldl (fun s f => f.step s) s).out = s.out ++ (fs.map FD.encF).flatten ∧ ∀ f ∈ fs, f.good) ∨ (fs.foldl (fun s f => f.step s) s).err = 2) := by
    intro fs
    induction fs with
    | nil => intro _ s h; left; simp [h]
    | cons f fs ih =>
      intro hs s h
      have hs' := fun g hg => hs g (List.mem_cons_of_mem _ hg)
      by_cases hg : f.good
      · have e := step_good s f (hs f List.mem_cons_self) hg
        have e2 : s.enc f.encF = ⟨s.out ++ f.encF, 0⟩ := by simp [WS.enc, h]
        rw [List.foldl_cons, e, e2]
        rcases ih hs' ⟨s.out ++ f.encF, 0⟩ rfl with ⟨h1, h2, h3⟩ | h1
        · left
          refine ⟨h1, by rw [h2]; simp, fun g hg' => ?_⟩
          rcases List.mem_cons.1 hg' with rfl | hg'
          · exact hg
          · exact h3 g hg'
        · exact .inr h1
      · right
        have e := step_bad s f hg
        rw [List.foldl_cons, e]
        exact two fs hs' _ (by simp [h])
  simpa [bk] using all fs hs ⟨[], 0⟩ rfl

theorem bk_len (fs : List FD) (hs : ∀ f ∈ fs, f.small = true) : (bk fs).out.length ≤ 10000 * fs.length := by
  have : ∀ (fs : List FD), (∀ f ∈ fs, f.small = true) → ∀ s : WS, (fs.foldl (fun s f => f.step s) s).out.length ≤ s.out.length + 10000 * fs.length := by
    intro fs
    induction fs with
    | nil => intro _ s; simp
    | cons f fs ih =>
      intro hs s
      have h1 := ih (fun g hg => hs g (List.mem_cons_of_mem _ hg)) (f.step s)
      have h2 := encF_len f (hs f List.mem_cons_self)
      have h3 : (f.step s).out.length ≤ s.out.length + 10000 := by
        by_cases hg : f.good
        · rw [step_good s f (hs f List.mem_cons_self) hg]
          have := enc_len s f.encF
          omega
        · rw [step_bad s f hg]; split <;> simp
      simp only [List.foldl_cons, List.length_cons]
      omega
  simpa [bk] using this fs hs ⟨[], 0⟩

theorem bk_snoc (fs : List FD) (j : Nat) (h : j < fs.length) : bk (fs.take (j + 1)) = fs[j].step (bk (fs.take j)) := by
  have e : fs.take (j + 1) = fs.take j ++ [fs[j]] := by rw [List.take_add_one, List.getElem?_eq_getElem h]; rfl
  rw [e]
  unfold bk
  rw [List.foldl_append]
  rfl

/-- What a field is read as, where it stands at the head. -/
theorem read_field (f : FD) (t : List UInt8) (hs : f.small = true) (hg : f.good) (hr : -9223372036854775808 ≤ f.n ∧ f.n ≤ 9223372036854775807) :
    (f.kind = 0 → (⟨f.encF ++ t, 0⟩ : RS).num = (⟨t, 0⟩, f.n)) ∧ (f.kind = 1 → (⟨f.encF ++ t, 0⟩ : RS).int = (⟨t, 0⟩, f.n)) ∧
    (f.kind = 2 → (⟨f.encF ++ t, 0⟩ : RS).text = (⟨t, 0⟩, f.s.data.toList)) ∧ (f.kind ≠ 0 → f.kind ≠ 1 → f.kind ≠ 2 → (⟨f.encF ++ t, 0⟩ : RS).texts = (⟨t, 0⟩, strL f.ls)) := by
  obtain ⟨g1, g2, g3⟩ := small_parts hs
  refine ⟨fun k => ?_, fun k => ?_, fun k => ?_, fun k0 k1 k2 => ?_⟩
  · obtain ⟨h1, h2⟩ := hg k
    obtain ⟨m, hm⟩ := Int.eq_ofNat_of_zero_le h1
    have e : f.encF = bigB 4 m := by unfold FD.encF; rw [if_pos k, hm, Int.toNat_natCast]
    rw [e, hm]
    exact read_num m t (by omega)
  · have e : f.encF = bigB 8 (asU64 f.n) := by unfold FD.encF; rw [if_neg (by omega), if_pos k]
    rw [e]
    exact read_int f.n t hr.1 hr.2
  · have e : f.encF = encT f.s.data.toList := by unfold FD.encF; rw [if_neg (by omega), if_neg (by omega), if_pos k]
    rw [e]
    exact read_text _ t (show f.s.size ≤ _ by omega)
  · have e : f.encF = encL (strL f.ls) := by unfold FD.encF; rw [if_neg k0, if_neg k1, if_neg k2]
    rw [e]
    refine read_texts _ t (by simp [strL]; omega) (fun x hx => ?_)
    obtain ⟨y, hy, rfl⟩ := List.mem_map.1 hx
    have := g3 y hy
    show y.size ≤ _
    omega

end Go.Proofs.YtlnincdmdegaoaaGreat
