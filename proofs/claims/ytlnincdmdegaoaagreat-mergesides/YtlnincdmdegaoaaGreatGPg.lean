/-
  Lemmas towards the claim of this folder: contracts of the functions that the law reaches; joined texts.
-/
import Derived.Test.YtlnincdmdegaoaaGreatPe
/-
  MERGES of three lists by rising keys (plain, over no program).
-/
namespace Go.Mk

/-- What comes of a key: none, if it is a conflict. -/
def mgK (b x y : List DD) (k : List UInt8) : Option (List DD) :=
  if getK keyD k b = getK keyD k x then some (getK keyD k y) else if getK keyD k b = getK keyD k y ∨ getK keyD k x = getK keyD k y then some (getK keyD k x) else none

def keys3 (b x y : List DD) : List (List UInt8) := keysL (b ++ x ++ y)
def mergeD (b x y : List DD) : List DD := (keys3 b x y).flatMap (fun k => (mgK b x y k).getD [])
def mergeC (b x y : List DD) : List (List UInt8) := (keys3 b x y).filter (fun k => (mgK b x y k).isNone)
def chooseD (mine : List UInt8 → Bool) (b x y : List DD) : List DD := (keys3 b x y).flatMap (fun k => (mgK b x y k).getD (if mine k = true then getK keyD k x else getK keyD k y))

theorem flat_mem {s : List (List UInt8)} {f : List UInt8 → List DD} {d : DD} : d ∈ s.flatMap f ↔ ∃ k ∈ s, d ∈ f k := List.mem_flatMap

theorem flat_rise {f : List UInt8 → List DD} (h1 : ∀ k, ∀ d ∈ f k, keyD d = k) (h2 : ∀ k, (f k).length ≤ 1) : ∀ {s : List (List UInt8)}, Rise id s → Rise keyD (s.flatMap f)
  | [], _ => List.Pairwise.nil
  | k :: r, h => by
    obtain ⟨r1, r2⟩ := rise_cons.1 h
    have ih := flat_rise h1 h2 r2
    rw [List.flatMap_cons]
    unfold Rise at ih ⊢
    rw [List.pairwise_append]
    refine ⟨?_, ih, fun a ha b hb => ?_⟩
    · have := h2 k
      match f k, this with
      | [], _ => exact List.Pairwise.nil
      | [d], _ => simp
      | _ :: _ :: _, h => simp at h
    · obtain ⟨j, hj, hb⟩ := flat_mem.1 hb
      rw [h1 k a ha, h1 j b hb]
      exact r1 j hj

theorem flat_get {f : List UInt8 → List DD} (h1 : ∀ k, ∀ d ∈ f k, keyD d = k) : ∀ {s : List (List UInt8)}, Rise id s → ∀ k, getK keyD k (s.flatMap f) = if k ∈ s then f k else []
  | [], _, k => by simp [getK]
  | j :: r, h, k => by
    obtain ⟨r1, r2⟩ := rise_cons.1 h
    rw [List.flatMap_cons, getK_app, flat_get h1 r2 k]
    by_cases e : k = j
    · subst e
      rw [getK_all (h1 k), if_neg (fun hk => lt_irr _ (r1 k hk)), if_pos (by simp), List.append_nil]
    · rw [getK_no (fun d hd he => e (he.symm.trans (h1 j d hd))), List.nil_append]
      by_cases hk : k ∈ r
      · rw [if_pos hk, if_pos (by simp [hk])]
      · rw [if_neg hk, if_neg (by simp [hk, e])]

theorem keys3_no {b x y : List DD} {k : List UInt8} (h : k ∉ keys3 b x y) : getK keyD k b = [] ∧ getK keyD k x = [] ∧ getK keyD k y = [] := by
  have hn : ∀ d ∈ b ++ x ++ y, keyD d ≠ k := fun d hd e => h (mem_keys.2 ⟨d, hd, e⟩)
  exact ⟨getK_no (fun d hd => hn d (by simp [hd])), getK_no (fun d hd => hn d (by simp [hd])), getK_no (fun d hd => hn d (by simp [hd]))⟩

theorem keys3_turn (b x y : List DD) : keys3 b x y = keys3 b y x :=
  rise_ext (rise_keys _) (rise_keys _) (fun k => by
    unfold keys3
    rw [mem_keys, mem_keys]
    constructor
    · rintro ⟨d, hd, e⟩
      refine ⟨d, ?_, e⟩
      simp only [List.mem_append] at hd ⊢
      rcases hd with (h | h) | h
      · exact .inl (.inl h)
      · exact .inr h
      · exact .inl (.inr h)
    · rintro ⟨d, hd, e⟩
      refine ⟨d, ?_, e⟩
      simp only [List.mem_append] at hd ⊢
      rcases hd with (h | h) | h
      · exact .inl (.inl h)
      · exact .inr h
      · exact .inl (.inr h))

section
variable {b x y : List DD}

theorem mg_key (k : List UInt8) (z : List DD) (hz : ∀ d ∈ z, keyD d = k) : ∀ d ∈ (mgK b x y k).getD z, keyD d = k := by
  unfold mgK
  intro d hd
  split at hd
  · exact (mem_getK.1 hd).2
  · split at hd
    · exact (mem_getK.1 hd).2
    · exact hz d hd

theorem mg_len (hx : Rise keyD x) (hy : Rise keyD y) (k : List UInt8) (z : List DD) (hz : z.length ≤ 1) : ((mgK b x y k).getD z).length ≤ 1 := by
  unfold mgK
  split
  · exact getK_len hy k
  · split
    · exact getK_len hx k
    · exact hz

theorem mg_right (hx : Snp x) (hy : Snp y) (k : List UInt8) (z : List DD) (hz : ∀ d ∈ z, rightD d = true) : ∀ d ∈ (mgK b x y k).getD z, rightD d = true := by
  unfold mgK
  intro d hd
  split at hd
  · exact hy.right d (mem_getK.1 hd).1
  · split at hd
    · exact hx.right d (mem_getK.1 hd).1
    · exact hz d hd

theorem mg_no {k : List UInt8} (h : k ∉ keys3 b x y) : mgK b x y k = some [] := by
  obtain ⟨h1, h2, h3⟩ := keys3_no h
  unfold mgK
  rw [h1, h2, h3, if_pos rfl]

theorem merge_get (k : List UInt8) : getK keyD k (mergeD b x y) = (mgK b x y k).getD [] := by
  unfold mergeD keys3
  rw [flat_get (f := fun k => (mgK b x y k).getD []) (fun k => mg_key k [] (fun d hd => by cases hd)) (rise_keys _)]
  by_cases h : k ∈ keysL (b ++ x ++ y)
  · rw [if_pos h]
  · rw [if_neg h, mg_no h]; rfl

theorem merge_snp (hx : Snp x) (hy : Snp y) : Snp (mergeD b x y) :=
  ⟨flat_rise (fun k => mg_key k [] (fun d hd => by cases hd)) (fun k => mg_len hx.rise hy.rise k [] (Nat.zero_le _)) (rise_keys _), fun d hd => by
    obtain ⟨k, _, hd⟩ := flat_mem.1 hd
    exact mg_right hx hy k [] (fun d hd => by cases hd) d hd⟩

theorem mem_conf {k : List UInt8} : k ∈ mergeC b x y ↔ getK keyD k b ≠ getK keyD k x ∧ getK keyD k b ≠ getK keyD k y ∧ getK keyD k x ≠ getK keyD k y := by
  have e : (mgK b x y k).isNone = true ↔ getK keyD k b ≠ getK keyD k x ∧ getK keyD k b ≠ getK keyD k y ∧ getK keyD k x ≠ getK keyD k y := by
    unfold mgK
    by_cases h1 : getK keyD k b = getK keyD k x
    · rw [if_pos h1]; simp [h1]
    · rw [if_neg h1]
      by_cases h2 : getK keyD k b = getK keyD k y ∨ getK keyD k x = getK keyD k y
      · rw [if_pos h2]
        simp only [Option.isNone_some, Bool.false_eq_true, false_iff]
        rintro ⟨_, h3, h4⟩
        rcases h2 with h | h
        · exact h3 h
        · exact h4 h
      · rw [if_neg h2]
        simp only [Option.isNone_none, true_iff]
        exact ⟨h1, fun h => h2 (.inl h), fun h => h2 (.inr h)⟩
  unfold mergeC
  rw [List.mem_filter, e]
  constructor
  · exact fun h => h.2
  · intro h
    refine ⟨?_, h⟩
    apply Classical.byContradiction
    intro hn
    obtain ⟨h1, h2, _⟩ := keys3_no hn
    exact h.1 (h1.trans h2.symm)

theorem conf_rise : Rise id (mergeC b x y) := (rise_keys _).filter _

theorem conf_turn : mergeC b x y = mergeC b y x :=
  rise_ext conf_rise conf_rise (fun k => by
    rw [mem_conf, mem_conf]
    constructor
    · rintro ⟨h1, h2, h3⟩; exact ⟨h2, h1, fun h => h3 h.symm⟩
    · rintro ⟨h1, h2, h3⟩; exact ⟨h2, h1, fun h => h3 h.symm⟩)

theorem mg_is {k : List UInt8} (h : k ∉ mergeC b x y) : mgK b x y k = some (if getK keyD k b = getK keyD k x then getK keyD k y else getK keyD k x) := by
  unfold mgK
  by_cases h1 : getK keyD k b = getK keyD k x
  · rw [if_pos h1, if_pos h1]
  · rw [if_neg h1, if_neg h1]
    by_cases h2 : getK keyD k b = getK keyD k y ∨ getK keyD k x = getK keyD k y
    · rw [if_pos h2]
    · exact (h (mem_conf.2 ⟨h1, fun e => h2 (.inl e), fun e => h2 (.inr e)⟩)).elim

theorem mg_conf {k : List UInt8} (h : k ∈ mergeC b x y) : mgK b x y k = none := by
  obtain ⟨h1, h2, h3⟩ := mem_conf.1 h
  unfold mgK
  rw [if_neg h1, if_neg (fun e => e.elim h2 h3)]

/-! ### The laws of merges -/

theorem merge_ours (hb : Snp b) (hx : Snp x) : mergeD b x b = x ∧ mergeC b x b = [] := by
  have hc : ∀ k, k ∉ mergeC b x b := fun k h => (mem_conf.1 h).2.1 rfl
  refine ⟨getK_ext (merge_snp hx hb).rise hx.rise (fun k => ?_), List.eq_nil_iff_forall_not_mem.2 hc⟩
  rw [merge_get, mg_is (hc k)]
  show (if _ then _ else _) = _
  split
  · assumption
  · rfl

theorem merge_both (hx : Snp x) : mergeD b x x = x ∧ mergeC b x x = [] := by
  have hc : ∀ k, k ∉ mergeC b x x := fun k h => (mem_conf.1 h).2.2 rfl
  refine ⟨getK_ext (merge_snp hx hx).rise hx.rise (fun k => ?_), List.eq_nil_iff_forall_not_mem.2 hc⟩
  rw [merge_get, mg_is (hc k)]
  show (if _ then _ else _) = _
  split <;> rfl

theorem merge_theirs (hb : Snp b) (hx : Snp x) : mergeD b b x = x ∧ mergeC b b x = [] := by
  have hc : ∀ k, k ∉ mergeC b b x := fun k h => (mem_conf.1 h).1 rfl
  refine ⟨getK_ext (merge_snp hb hx).rise hx.rise (fun k => ?_), List.eq_nil_iff_forall_not_mem.2 hc⟩
  rw [merge_get, mg_is (hc k)]
  show (if _ then _ else _) = _
  rw [if_pos rfl]

theorem choose_get (mine : List UInt8 → Bool) (k : List UInt8) : getK keyD k (chooseD mine b x y) = (mgK b x y k).getD (if mine k = true then getK keyD k x else getK keyD k y) := by
  unfold chooseD keys3
  rw [flat_get (f := fun k => (mgK b x y k).getD (if mine k = true then getK keyD k x else getK keyD k y)) (fun k => mg_key k _ (fun d hd => by split at hd <;> exact (mem_getK.1 hd).2)) (rise_keys _)]
  by_cases h : k ∈ keysL (b ++ x ++ y)
  · rw [if_pos h]
  · rw [if_neg h, mg_no h]; rfl

theorem choose_snp (mine : List UInt8 → Bool) (hx : Snp x) (hy : Snp y) : Snp (chooseD mine b x y) :=
  ⟨flat_rise (fun k => mg_key k _ (fun d hd => by split at hd <;> exact (mem_getK.1 hd).2)) (fun k => mg_len hx.rise hy.rise k _ (by split; exact getK_len hx.rise k; exact getK_len hy.rise k)) (rise_keys _), fun d hd => by
    obtain ⟨k, _, hd⟩ := flat_mem.1 hd
    exact mg_right hx hy k _ (fun d hd => by split at hd; exact hx.right d (mem_getK.1 hd).1; exact hy.right d (mem_getK.1 hd).1) d hd⟩

/-- The conflicts' definitions are put. -/
def putC (x : List DD) (s : List (List UInt8)) (l : List DD) : List DD := s.foldl (fun o k => (getK keyD k x).foldl (fun o d => putK keyD d o) o) l

theorem putC_spec (hx : Rise keyD x) : ∀ (s : List (List UInt8)) {l : List DD}, Rise keyD l → Rise keyD (putC x s l) ∧ ∀ k, getK keyD k (putC x s l) = if k ∈ s ∧ getK keyD k x ≠ [] then getK keyD k x else getK keyD k l
  | [], l, hl => ⟨hl, fun k => by simp [putC]⟩
  | j :: s, l, hl => by
    have hstep : Rise keyD ((getK keyD j x).foldl (fun o d => putK keyD d o) l) ∧ ∀ k, getK keyD k ((getK keyD j x).foldl (fun o d => putK keyD d o) l) = if k = j ∧ getK keyD k x ≠ [] then getK keyD k x else getK keyD k l := by
      rcases getK_cases hx j with ⟨e, _⟩ | ⟨d, hd, hk, e⟩
      · rw [e]
        refine ⟨hl, fun k => ?_⟩
        rw [if_neg (fun h => h.2 (h.1 ▸ e))]
        rfl
      · rw [e]
        refine ⟨rise_putK hl, fun k => ?_⟩
        show getK keyD k (putK keyD d l) = _
        rw [getK_put hl, hk]
        by_cases h : k = j
        · subst h
          rw [if_pos rfl, if_pos ⟨rfl, by rw [e]; simp⟩, e]
        · rw [if_neg h, if_neg (fun h' => h h'.1)]
    obtain ⟨h1, h2⟩ := hstep
    obtain ⟨h3, h4⟩ := putC_spec hx s h1
    refine ⟨h3, fun k => ?_⟩
    show getK keyD k (putC x s _) = _
    rw [h4, h2]
    by_cases hz : getK keyD k x = []
    · simp [hz]
    · by_cases ha : k ∈ s
      · simp [ha, hz]
      · by_cases hb : k = j
        · subst hb
          simp [ha, hz]
        · simp [ha, hb]

theorem choose_put (hx : Snp x) (hy : Snp y) : putC x (mergeC b x y) (mergeD b x y) = chooseD (fun _ => true) b x y := by
  obtain ⟨h1, h2⟩ := putC_spec hx.rise (mergeC b x y) (merge_snp (b := b) hx hy).rise
  refine getK_ext h1 (choose_snp _ hx hy).rise (fun k => ?_)
  rw [h2, choose_get, merge_get]
  by_cases h : k ∈ mergeC b x y
  · rw [mg_conf h]
    simp only [Option.getD_none, if_true, h, true_and]
    split
    · rfl
    · rename_i hz
      exact (Classical.not_not.1 hz).symm
  · rw [if_neg (fun e => h e.1), mg_is h]
    rfl

end

end Go.Mk

/-
  PATCHES applied all at once: what is left of a snapshot and what is new, given to New (plain, over no program).
-/
namespace Go.Mk

/-- Too many: New is full. -/
theorem new_full : ∀ (r l out : List DD), Mades l out → (∀ d ∈ r, rightD d = true) → r.Pairwise (fun a b => keyD a ≠ keyD b) → (∀ a ∈ out, ∀ b ∈ r, keyD a ≠ keyD b) → out.length ≤ 500 → 500 < out.length + r.length → r.foldl newS (0, out) = (21, [])
  | [], _, out, _, _, _, _, h1, h2 => by simp at h2; omega
  | d :: r, l, out, h, hr, hp, hx, h1, h2 => by
    obtain ⟨p1, p2⟩ := List.pairwise_cons.1 hp
    have hn : ∀ x ∈ out, keyD x ≠ keyD d := fun x hx' => hx x hx' d (by simp)
    by_cases h5 : 500 ≤ out.length
    · have e : newS (0, out) d = (21, []) := by simp [newS, keyD_right (hr d (by simp)), hasK_no.2 hn, h5]
      rw [List.foldl_cons, e, newS_err (by simp)]
    · have e : newS (0, out) d = (0, putK keyD d out) := by simp [newS, keyD_right (hr d (by simp)), hasK_no.2 hn, h5]
      have hlen : (putK keyD d out).length = out.length + 1 := by rw [putK_len h.rise, dropK_none hn]
      rw [List.foldl_cons, e]
      refine new_full r (l ++ [d]) _ ⟨rise_putK h.rise, fun x hx => by
            rcases (mem_putK h.rise x).1 hx with rfl | ⟨hx, _⟩
            · exact hr x (by simp)
            · exact h.right x hx, fun x => by
            rw [mem_putK h.rise, List.mem_append, ← h.mem]
            constructor
            · rintro (rfl | ⟨hx, _⟩)
              · simp
              · exact .inl hx
            · rintro (hx | hx)
              · exact .inr ⟨hx, hn x hx⟩
              · simp at hx; exact .inl hx, by
            rw [hlen, h.len]; simp⟩ (fun x hx => hr x (by simp [hx])) p2 (fun a ha b hb => ?_) (by omega) (by rw [hlen]; simp at h2; omega)
      rcases (mem_putK h.rise a).1 ha with rfl | ⟨ha, _⟩
      · exact p1 b hb
      · exact hx a ha b (by simp [hb])

theorem drops_spec : ∀ (ks : List (List UInt8)) (l : List DD), Rise keyD l → Rise keyD (ks.foldl (fun l k => dropK keyD k l) l) ∧ ∀ d, d ∈ ks.foldl (fun l k => dropK keyD k l) l ↔ d ∈ l ∧ ∀ k ∈ ks, keyD d ≠ k
  | [], l, h => ⟨h, by simp⟩
  | k :: ks, l, h => by
    obtain ⟨h1, h2⟩ := drops_spec ks (dropK keyD k l) (rise_dropK h)
    refine ⟨h1, fun d => ?_⟩
    rw [List.foldl_cons, h2, mem_dropK]
    simp only [List.mem_cons, forall_eq_or_imp, and_assoc]

theorem news_apart : ∀ {p : List ED}, (∀ e ∈ p, sideB e.new e.key = true) → Rise ED.key p → (p.flatMap ED.new).Pairwise (fun a b => keyD a ≠ keyD b)
  | [], _, _ => List.Pairwise.nil
  | e :: p, hs, hp => by
    obtain ⟨p1, p2⟩ := rise_cons.1 hp
    have ih := news_apart (fun x hx => hs x (by simp [hx])) p2
    rw [List.flatMap_cons, List.pairwise_append]
    refine ⟨?_, ih, fun a ha b hb => ?_⟩
    · rcases side_cases (hs e (by simp)) with h | ⟨d, h, _⟩ <;> rw [h] <;> simp
    · obtain ⟨x, hx, hb⟩ := List.mem_flatMap.1 hb
      rw [(sideB_iff.1 (hs e (by simp))).2 a ha, (sideB_iff.1 (hs x (by simp [hx]))).2 b hb]
      exact lt_ne (p1 x hx)

theorem split_nil : (splitD []).2.2 = false := by decide +kernel

/-- What is left and what is new: New makes of it what the patch makes. -/
theorem new_apply {l : List DD} {p : List ED} (hl : Snp l) (hf : fitsP l p = true) : newL ((p.map ED.key).foldl (fun l k => dropK keyD k l) l ++ p.flatMap ED.new) = if 500 < (appP l p).length then (21, []) else (0, appP l p) := by
  obtain ⟨_, f2⟩ := fitsP_iff.1 hf
  obtain ⟨r1, r2⟩ := rightP_iff.1 f2
  have hs : ∀ e ∈ p, sideB e.new e.key = true := fun e he => (rightE_iff.1 (r1 e he)).2.2.1
  obtain ⟨h1, h2, h3⟩ := appP_spec (l := l) hl.rise hs r2
  obtain ⟨m1, m2⟩ := drops_spec (p.map ED.key) l hl.rise
  have ha := news_apart hs r2
  have hmn : ∀ d, d ∈ p.flatMap ED.new ↔ ∃ e ∈ p, d ∈ e.new := fun d => List.mem_flatMap
  generalize hM : (p.map ED.key).foldl (fun l k => dropK keyD k l) l = M at *
  have hrn : ∀ d ∈ p.flatMap ED.new, rightD d = true := fun d hd => by
    obtain ⟨e, he, hd⟩ := (hmn d).1 hd
    cases h : rightD d
    · have hk := (sideB_iff.1 (hs e he)).2 d hd
      rw [(keyD_iff d).2 h] at hk
      have := (rightE_iff.1 (r1 e he)).1
      rw [← hk, split_nil] at this
      cases this
    · rfl
  have hkn : ∀ d ∈ p.flatMap ED.new, ∃ e ∈ p, keyD d = e.key := fun d hd => by
    obtain ⟨e, he, hd⟩ := (hmn d).1 hd
    exact ⟨e, he, (sideB_iff.1 (hs e he)).2 d hd⟩
  have hright : ∀ d ∈ M ++ p.flatMap ED.new, rightD d = true := fun d hd => by
    rcases List.mem_append.1 hd with h | h
    · exact hl.right d ((m2 d).1 h).1
    · exact hrn d h
  have hpw : (M ++ p.flatMap ED.new).Pairwise (fun a b => keyD a ≠ keyD b) := by
    rw [List.pairwise_append]
    refine ⟨m1.imp (fun h => lt_ne h), ha, fun a ha b hb e => ?_⟩
    obtain ⟨x, hx, hk⟩ := hkn b hb
    exact ((m2 a).1 ha).2 x.key (List.mem_map_of_mem hx) (e.trans hk)
  have hmem : ∀ d, d ∈ M ++ p.flatMap ED.new ↔ d ∈ appP l p := fun d => by
    have e0 : d ∈ appP l p ↔ d ∈ getK keyD (keyD d) (appP l p) := by rw [mem_getK]; simp
    rw [List.mem_append, m2, hmn, e0]
    by_cases hk : ∀ e ∈ p, e.key ≠ keyD d
    · rw [h3 _ hk, mem_getK]
      constructor
      · rintro (⟨h, _⟩ | ⟨e, he, h⟩)
        · exact ⟨h, rfl⟩
        · exact (hk e he ((sideB_iff.1 (hs e he)).2 d h).symm).elim
      · rintro ⟨h, _⟩
        refine .inl ⟨h, fun k hk' e => ?_⟩
        obtain ⟨x, hx, rfl⟩ := List.mem_map.1 hk'
        exact hk x hx e.symm
    · obtain ⟨e, he, hek⟩ : ∃ e ∈ p, e.key = keyD d := by
        apply Classical.byContradiction
        intro hn
        exact hk (fun e he hek => hn ⟨e, he, hek⟩)
      rw [← hek, h2 e he]
      constructor
      · rintro (⟨_, h⟩ | ⟨x, hx, h⟩)
        · exact (h e.key (List.mem_map_of_mem he) rfl).elim
        · have hxe : x.key = e.key := ((sideB_iff.1 (hs x hx)).2 d h).symm.trans hek.symm
          rw [← rise_one r2 hx he hxe]
          exact h
      · intro h
        exact .inr ⟨e, he, h⟩
  have hne : ∀ {l : List DD}, l.Pairwise (fun a b => keyD a ≠ keyD b) → l.Nodup := fun h => h.imp (fun h e => h (by rw [e]))
  have hperm : (M ++ p.flatMap ED.new).Perm (appP l p) := (List.perm_ext_iff_of_nodup (hne hpw) (hne (h1.imp (fun h => lt_ne h)))).2 hmem
  have hlen := hperm.length_eq
  by_cases h5 : 500 < (appP l p).length
  · rw [if_pos h5]
    exact new_full _ [] [] ⟨List.Pairwise.nil, by simp, by simp, rfl⟩ hright hpw (by simp) (by simp) (by rw [hlen]; simpa using h5)
  · rw [if_neg h5]
    have h0 : (newL (M ++ p.flatMap ED.new)).1 = 0 := new_ok _ [] [] ⟨List.Pairwise.nil, by simp, by simp, rfl⟩ hright hpw (by simp) (by rw [hlen]; simp; omega)
    have MM := newL_made h0
    have e2 : (newL (M ++ p.flatMap ED.new)).2 = appP l p := rise_ext MM.rise h1 (fun x => by rw [MM.mem, hmem])
    rw [← e2, ← h0]

end Go.Mk
