/-
  MERGES as the program makes them (plain): sets of keys, a patch put onto the other side, the conflicts dropped, New of the values in whatever order.
-/
import Derived.Test.YtlnincdmdegaoaaGreatGPg
namespace Go.Mk

/-- A set of keys, key by key. -/
def setK (ks : List (List UInt8)) : List (List UInt8) := ks.foldl (fun s k => putK id k s) []

theorem setK_snoc (ks : List (List UInt8)) (k : List UInt8) : setK (ks ++ [k]) = putK id k (setK ks) := by simp [setK, List.foldl_append]

theorem setK_fold : ∀ (ks s : List (List UInt8)), Rise id s → Rise id (ks.foldl (fun s k => putK id k s) s) ∧ (∀ k, k ∈ ks.foldl (fun s k => putK id k s) s ↔ k ∈ s ∨ k ∈ ks) ∧ (ks.foldl (fun s k => putK id k s) s).length ≤ s.length + ks.length
  | [], s, h => ⟨h, by simp, by simp⟩
  | j :: r, s, h => by
    rw [List.foldl_cons]
    obtain ⟨h1, h2, h3⟩ := setK_fold r (putK id j s) (rise_putK h)
    have h4 := putK_le (a := j) h
    refine ⟨h1, fun k => ?_, by simp only [List.length_cons]; omega⟩
    rw [h2, mem_putK h]
    simp only [id, List.mem_cons]
    constructor
    · rintro ((rfl | ⟨hk, _⟩) | hx)
      · exact .inr (.inl rfl)
      · exact .inl hk
      · exact .inr (.inr hx)
    · rintro (hk | rfl | hx)
      · by_cases e : k = j
        · exact .inl (.inl e)
        · exact .inl (.inr ⟨hk, e⟩)
      · exact .inl (.inl rfl)
      · exact .inr hx

theorem setK_rise (ks : List (List UInt8)) : Rise id (setK ks) := (setK_fold ks [] List.Pairwise.nil).1
theorem mem_setK {ks : List (List UInt8)} {k : List UInt8} : k ∈ setK ks ↔ k ∈ ks := by
  rw [setK, (setK_fold ks [] List.Pairwise.nil).2.1]
  simp
theorem setK_len (ks : List (List UInt8)) : (setK ks).length ≤ ks.length := by
  have := (setK_fold ks [] List.Pairwise.nil).2.2
  simpa [setK] using this

/-- The keys for which two lists differ. -/
def diffK (a b : List DD) : List (List UInt8) := setK ((ofL a b).map ED.key)

theorem mem_diffK {a b : List DD} {k : List UInt8} : k ∈ diffK a b ↔ getK keyD k a ≠ getK keyD k b := by
  unfold diffK
  rw [mem_setK, List.mem_map]
  constructor
  · rintro ⟨e, he, rfl⟩
    obtain ⟨h1, h2, h3⟩ := mem_ofL.1 he
    rw [← h1, ← h2]
    exact h3
  · intro h
    exact ⟨⟨k, getK keyD k a, getK keyD k b⟩, mem_ofL.2 ⟨rfl, rfl, h⟩, rfl⟩

/-- A key of the third set that is in both others. -/
def both3 (b x y : List DD) (k : List UInt8) : Bool := decide (k ∈ diffK b x) && decide (k ∈ diffK b y)

theorem confs_is (b x y : List DD) : (diffK x y).filter (both3 b x y) = mergeC b x y := by
  refine rise_ext ((setK_rise _).filter _) conf_rise (fun k => ?_)
  rw [List.mem_filter, mem_conf, mem_diffK]
  unfold both3
  simp only [Bool.and_eq_true, decide_eq_true_eq, mem_diffK]
  constructor
  · rintro ⟨h1, h2, h3⟩; exact ⟨h2, h3, h1⟩
  · rintro ⟨h1, h2, h3⟩; exact ⟨h3, h1, h2⟩

theorem drops_get : ∀ (ks : List (List UInt8)) (l : List DD) (k : List UInt8), getK keyD k (ks.foldl (fun l k => dropK keyD k l) l) = if k ∈ ks then [] else getK keyD k l
  | [], l, k => by simp
  | j :: ks, l, k => by
    rw [List.foldl_cons, drops_get ks, getK_drop]
    by_cases h1 : k ∈ ks
    · simp [h1]
    · by_cases h2 : k = j
      · simp [h2]
      · simp [h1, h2]

/-- The merged definitions, as the program makes them. -/
def mergeM (b x y : List DD) : List DD := (mergeC b x y).foldl (fun l k => dropK keyD k l) (appP y (ofL b x))

theorem mergeM_is {b x y : List DD} (hb : Snp b) (hx : Snp x) (hy : Snp y) : mergeM b x y = mergeD b x y := by
  have hs : ∀ e ∈ ofL b x, sideB e.new e.key = true := fun e he => (rightE_iff.1 (ofL_rightE hb hx he)).2.2.1
  obtain ⟨h1, h2, h3⟩ := appP_spec (l := y) hy.rise hs (rise_ofL b x)
  refine getK_ext (drops_spec _ _ h1).1 (merge_snp hx hy).rise (fun k => ?_)
  unfold mergeM
  rw [drops_get, merge_get]
  by_cases hc : k ∈ mergeC b x y
  · rw [if_pos hc, mg_conf hc]; rfl
  · rw [if_neg hc, mg_is hc]
    show _ = if _ then _ else _
    by_cases hk : ∀ e ∈ ofL b x, e.key ≠ k
    · rw [h3 k hk, if_pos (ofL_no hk)]
    · obtain ⟨e, he, rfl⟩ : ∃ e ∈ ofL b x, e.key = k := by
        apply Classical.byContradiction
        intro hn
        exact hk (fun e he hek => hn ⟨e, he, hek⟩)
      obtain ⟨e1, e2, e3⟩ := mem_ofL.1 he
      rw [h2 e he, if_neg (by rw [← e1, ← e2]; exact e3), e2]

/-- What New makes of the definitions of a snapshot, in whatever order. -/
def fitL (l : List DD) : Int × List DD := if 500 < l.length then (21, []) else (0, l)

theorem newL_snp {l r : List DD} (h : Snp l) (hp : r.Perm l) : newL r = fitL l := by
  have hright : ∀ d ∈ r, rightD d = true := fun d hd => h.right d (hp.mem_iff.1 hd)
  have hpw : r.Pairwise (fun a b => keyD a ≠ keyD b) := (hp.pairwise_iff (fun {a b} (h : keyD a ≠ keyD b) => h.symm)).2 (h.rise.imp (fun h => lt_ne h))
  unfold fitL
  by_cases h5 : 500 < l.length
  · rw [if_pos h5]
    exact new_full _ [] [] ⟨List.Pairwise.nil, by simp, by simp, rfl⟩ hright hpw (by simp) (by simp) (by rw [hp.length_eq]; simpa using h5)
  · rw [if_neg h5]
    have h0 : (newL r).1 = 0 := new_ok _ [] [] ⟨List.Pairwise.nil, by simp, by simp, rfl⟩ hright hpw (by simp) (by rw [hp.length_eq]; simp; omega)
    have MM := newL_made h0
    have e2 : (newL r).2 = l := rise_ext MM.rise h.rise (fun x => by rw [MM.mem, hp.mem_iff])
    rw [← e2, ← h0]

theorem puts_rise (l : List DD) : ∀ (s : List DD), Rise keyD s → Rise keyD (l.foldl (fun o d => putK keyD d o) s) := by
  induction l with
  | nil => intro s h; exact h
  | cons d r ih => intro s h; exact ih _ (rise_putK h)

/-- What comes by rising keys stays so. -/
theorem puts_is : ∀ {l s : List DD}, Rise keyD (s ++ l) → l.foldl (fun o d => putK keyD d o) s = s ++ l
  | [], s, _ => by simp
  | d :: r, s, h => by
    have e : putK keyD d s = s ++ [d] := by
      have h1 : ∀ x ∈ s, keyD x < keyD d := fun x hx => (List.pairwise_append.1 h).2.2 x hx d (by simp)
      have h2 : Rise keyD s := (List.pairwise_append.1 h).1
      refine rise_ext (rise_putK h2) ?_ (fun x => ?_)
      · unfold Rise at h2 ⊢
        rw [List.pairwise_append]
        exact ⟨h2, by simp, fun a ha b hb => by rw [List.mem_singleton] at hb; subst hb; exact h1 a ha⟩
      · rw [mem_putK h2]
        simp only [List.mem_append, List.mem_singleton]
        constructor
        · rintro (rfl | ⟨hx, _⟩)
          · exact .inr rfl
          · exact .inl hx
        · rintro (hx | rfl)
          · exact .inr ⟨hx, lt_ne (h1 x hx)⟩
          · exact .inl rfl
    rw [List.foldl_cons, e, puts_is (by simpa using h)]
    simp

theorem fit_ok {l : List DD} (h : l.length ≤ 500) : fitL l = (0, l) := by unfold fitL; rw [if_neg (by omega)]
theorem fit_full {l : List DD} (h : 500 < l.length) : fitL l = (21, []) := by unfold fitL; rw [if_pos h]

theorem drops_len : ∀ (ks : List (List UInt8)) (l : List DD), (ks.foldl (fun l k => dropK keyD k l) l).length ≤ l.length
  | [], _ => Nat.le_refl _
  | _ :: ks, _ => Nat.le_trans (drops_len ks _) (List.length_filter_le _ _)

theorem puts_len : ∀ (s : List DD) (l : List DD), (s.foldl (fun o d => putK keyD d o) l).length ≤ l.length + s.length
  | [], l => by simp
  | d :: s, l => by
    have h := puts_len s (putK keyD d l)
    have h2 : (putK keyD d l).length ≤ l.length + 1 := by
      clear h
      induction l with
      | nil => simp [putK]
      | cons x r ih =>
        unfold putK
        split
        · simp
        · split
          · simp
          · simp only [List.length_cons]; omega
    rw [List.foldl_cons]
    simp only [List.length_cons]
    omega

theorem appP_len {A B : List DD} (hA : Snp A) (hB : Snp B) (C : List DD) : (appP C (ofL A B)).length ≤ C.length + (ofL A B).length := by
  have h : ∀ (p : List ED), (∀ e ∈ p, e.new.length ≤ 1) → ∀ (l : List DD), (appP l p).length ≤ l.length + p.length := by
    intro p
    induction p with
    | nil => intro _ l; simp [appP]
    | cons e r ih =>
      intro he l
      have h1 := ih (fun x hx => he x (List.mem_cons_of_mem _ hx)) (appS l e)
      have h2 := puts_len e.new (dropK keyD e.key l)
      have h3 : (dropK keyD e.key l).length ≤ l.length := List.length_filter_le _ _
      have h4 := he e List.mem_cons_self
      show (appP (appS l e) r).length ≤ _
      unfold appS at h1 ⊢
      simp only [List.length_cons]
      omega
  refine h _ (fun e he => ?_) C
  exact (sideB_iff.1 (rightE_iff.1 (ofL_rightE hA hB he)).2.2.1).1

end Go.Mk
