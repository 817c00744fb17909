/-
  Lemmas towards the claim of this folder: contracts of the functions that the law reaches; joined texts.
-/
import Derived.Test.YtecjecdgjmipcaaGreatGNm
import Derived.Lib.IndexLaws
/-
  KEYS over lists (plain, over no program): where a key is cut, which parts are those of a valid definition.
-/
namespace Go.Mk

theorem occ2 {l : List UInt8} {i : Nat} (h : i + 1 < l.length) : Lib.occAt l [62, 62] i = (l[i]'(by omega) == 62 && l[i + 1] == 62) := by
  unfold Lib.occAt
  rw [List.drop_eq_getElem_cons (by omega), List.drop_eq_getElem_cons h]
  simp only [List.isPrefixOf, Bool.and_true]
  rw [Bool.beq_comm, Bool.beq_comm (a := 62) (b := l[i + 1])]

theorem cut_at {l : List UInt8} {i : Nat} (h : i + 1 < l.length) (hn : Lib.NoOcc l [62, 62] i) (ho : Lib.occAt l [62, 62] i = true) : Lib.cut l [62, 62] = (l.take i, l.drop (i + 2), true) := by
  have hi := Lib.index_hit hn (by omega) ho
  unfold Lib.cut
  rw [hi, if_pos (by omega)]
  simp

theorem cut_none {l : List UInt8} {i : Nat} (hn : Lib.NoOcc l [62, 62] i) (h : l.length ≤ i + 1) : Lib.cut l [62, 62] = (l, [], false) := by
  have hi := Lib.index_past (by simp) hn (by simp; omega)
  unfold Lib.cut
  rw [hi, if_neg (by omega)]

theorem right_parts (c s : List UInt8) : rightD ⟨2, c, [], [], s, []⟩ = (isCl c && isSel s) := by
  rw [rightD_two rfl]
  simp [rightM]

theorem cl_object : isCl [79, 98, 106, 101, 99, 116] = true := by decide +kernel

theorem right_own (c : List UInt8) : rightD ⟨1, c, [79, 98, 106, 101, 99, 116], [], [], []⟩ = ownCl c := by
  rw [rightD_one rfl]
  unfold rightC
  rw [show areVars [] = true from rfl]
  dsimp only
  rw [cl_object]
  simp

theorem split_m {l c s : List UInt8} (h : Lib.cut l [62, 62] = (c, s, true)) (hr : rightD ⟨2, c, [], [], s, []⟩ = true) : splitD l = (c, s, true) := by
  rw [right_parts] at hr
  unfold splitD splitC
  rw [h, if_pos rfl, if_pos hr]
theorem split_mno {l c s : List UInt8} (h : Lib.cut l [62, 62] = (c, s, true)) (hr : rightD ⟨2, c, [], [], s, []⟩ = false) : splitD l = ([], [], false) := by
  rw [right_parts] at hr
  unfold splitD splitC
  rw [h, if_pos rfl, if_neg (by rw [hr]; simp)]
theorem split_c {l : List UInt8} (h : Lib.cut l [62, 62] = (l, [], false)) (hr : rightD ⟨1, l, [79, 98, 106, 101, 99, 116], [], [], []⟩ = true) : splitD l = (l, [], true) := by
  rw [right_own] at hr
  unfold splitD splitC
  rw [h, if_neg (by simp), if_pos hr]
theorem split_cno {l : List UInt8} (h : Lib.cut l [62, 62] = (l, [], false)) (hr : rightD ⟨1, l, [79, 98, 106, 101, 99, 116], [], [], []⟩ = false) : splitD l = ([], [], false) := by
  rw [right_own] at hr
  unfold splitD splitC
  rw [h, if_neg (by simp), if_neg (by rw [hr]; simp)]

/-- A class name has no '>'. -/
theorem cl_no {l : List UInt8} (h : isCl l = true) : ∀ b ∈ l, b ≠ 62 := by
  intro b hb e
  subst e
  simp only [isCl, isNm, Bool.and_eq_true, List.all_eq_true] at h
  have := h.1.2 62 hb
  revert this
  decide

theorem cut_class {c : List UInt8} (h : isCl c = true) : Lib.cut c [62, 62] = (c, [], false) := by
  refine cut_none (i := c.length) (fun j hj => ?_) (by omega)
  unfold Lib.occAt
  rw [List.drop_eq_getElem_cons hj]
  have hne : c[j] ≠ 62 := cl_no h _ (List.getElem_mem hj)
  simp only [List.isPrefixOf]
  rw [beq_eq_false_iff_ne.2 (Ne.symm hne)]
  rfl

theorem cut_method {c s : List UInt8} (h : isCl c = true) : Lib.cut (c ++ [62, 62] ++ s) [62, 62] = (c, s, true) := by
  have e : Lib.cut (c ++ [62, 62] ++ s) [62, 62] = ((c ++ [62, 62] ++ s).take c.length, (c ++ [62, 62] ++ s).drop (c.length + 2), true) := by
    refine cut_at (by simp) (fun j hj => ?_) ?_
    · unfold Lib.occAt
      rw [List.append_assoc, List.drop_append_of_le_length (by omega), List.drop_eq_getElem_cons hj]
      have hne : c[j] ≠ 62 := cl_no h _ (List.getElem_mem hj)
      simp only [List.isPrefixOf, List.cons_append]
      rw [beq_eq_false_iff_ne.2 (Ne.symm hne)]
      rfl
    · unfold Lib.occAt
      rw [List.append_assoc, List.drop_left]
      simp
  rw [e]
  congr 1
  · rw [List.append_assoc, List.take_left]
  · congr 1
    rw [show c.length + 2 = (c ++ [62, 62]).length by simp, List.drop_left]

/-- The key of a valid definition has its parts, and says its kind. -/
theorem split_key {d : DD} (h : rightD d = true) : splitD (keyD d) = (d.c, d.s, true) := by
  unfold keyD
  rw [if_pos h]
  rcases right_kind h with hk | hk
  · rw [if_neg (by rw [hk]; decide)]
    rw [rightD_one hk] at h
    simp only [rightC, Bool.and_eq_true, ownCl] at h
    obtain ⟨⟨⟨⟨h1, _⟩, _⟩, h4⟩, _⟩ := h
    have hs : d.s = [] := by simpa using h4
    unfold splitD splitC
    rw [cut_class h1.1, if_neg (by simp), if_pos (by simp only [ownCl, Bool.and_eq_true]; exact h1), hs]
  · rw [if_pos hk]
    rw [rightD_two hk] at h
    simp only [rightM, Bool.and_eq_true] at h
    obtain ⟨⟨⟨⟨h1, h2⟩, _⟩, _⟩, _⟩ := h
    unfold splitD splitC
    rw [cut_method h1, if_pos rfl, if_pos (by rw [h1, h2]; rfl)]

theorem key_kind {a b : DD} (ha : rightD a = true) (hb : rightD b = true) (h : keyD a = keyD b) : a.k = b.k := by
  have e : ∀ {d : DD}, rightD d = true → (d.k = 1 ∧ (Lib.cut (keyD d) [62, 62]).2.2 = false) ∨ (d.k = 2 ∧ (Lib.cut (keyD d) [62, 62]).2.2 = true) := by
    intro d h
    unfold keyD
    rw [if_pos h]
    rcases right_kind h with hk | hk
    · refine .inl ⟨hk, ?_⟩
      rw [if_neg (by rw [hk]; decide)]
      rw [rightD_one hk] at h
      simp only [rightC, Bool.and_eq_true, ownCl] at h
      rw [cut_class h.1.1.1.1.1]
    · refine .inr ⟨hk, ?_⟩
      rw [if_pos hk]
      rw [rightD_two hk] at h
      simp only [rightM, Bool.and_eq_true] at h
      rw [cut_method h.1.1.1.1]
  rcases e ha with ⟨h1, h2⟩ | ⟨h1, h2⟩ <;> rcases e hb with ⟨h3, h4⟩ | ⟨h3, h4⟩
  · rw [h1, h3]
  · rw [h, h4] at h2; cases h2
  · rw [h, h4] at h2; cases h2
  · rw [h1, h3]

theorem key_ne {d : DD} (h : rightD d = true) : keyD d ≠ [] := by
  intro e
  have := split_key h
  rw [e] at this
  have e2 : splitD [] = ([], [], false) := by decide +kernel
  rw [e2] at this
  have := congrArg (fun r => r.2.2) this
  cases this

end Go.Mk

/-
  PATCHES over lists by rising keys (plain, over no program): what is there under a key, all keys, the patch from one list to another one, valid ones, those that fit, what they make, the way back.
-/
namespace Go.Mk

section
variable {α : Type} {key : α → List UInt8}

/-- What is there under a key. -/
def getK (key : α → List UInt8) (k : List UInt8) (l : List α) : List α := l.filter (fun x => key x == k)

theorem mem_getK {k : List UInt8} {l : List α} {x : α} : x ∈ getK key k l ↔ x ∈ l ∧ key x = k := by
  unfold getK
  rw [List.mem_filter]
  simp

theorem getK_no {k : List UInt8} {l : List α} (h : ∀ x ∈ l, key x ≠ k) : getK key k l = [] := by
  unfold getK
  rw [List.filter_eq_nil_iff]
  intro x hx
  simp [h x hx]

theorem getK_nil {k : List UInt8} {l : List α} (h : getK key k l = []) : ∀ x ∈ l, key x ≠ k := fun x hx e => by
  have := mem_getK.2 ⟨hx, e⟩
  rw [h] at this
  cases this

theorem getK_app (k : List UInt8) (l m : List α) : getK key k (l ++ m) = getK key k l ++ getK key k m := by
  unfold getK
  rw [List.filter_append]

theorem getK_all {k : List UInt8} {l : List α} (h : ∀ x ∈ l, key x = k) : getK key k l = l := by
  unfold getK
  rw [List.filter_eq_self]
  intro x hx
  simp [h x hx]

theorem getK_at : ∀ {l : List α}, Rise key l → ∀ {x : α}, x ∈ l → getK key (key x) l = [x]
  | [], _, x, h => by cases h
  | y :: r, h, x, hx => by
    obtain ⟨h1, h2⟩ := rise_cons.1 h
    rcases List.mem_cons.1 hx with rfl | hx
    · have e : getK key (key x) r = [] := getK_no (fun z hz => (lt_ne (h1 z hz)).symm)
      unfold getK at e ⊢
      rw [List.filter_cons_of_pos (by simp), e]
    · have e := getK_at h2 hx
      unfold getK at e ⊢
      rw [List.filter_cons_of_neg (by simpa using lt_ne (h1 x hx)), e]

theorem getK_cases {l : List α} (h : Rise key l) (k : List UInt8) : (getK key k l = [] ∧ ∀ x ∈ l, key x ≠ k) ∨ ∃ x ∈ l, key x = k ∧ getK key k l = [x] := by
  by_cases hx : ∃ x ∈ l, key x = k
  · obtain ⟨x, hx, rfl⟩ := hx
    exact .inr ⟨x, hx, rfl, getK_at h hx⟩
  · have hn : ∀ x ∈ l, key x ≠ k := fun x hm e => hx ⟨x, hm, e⟩
    exact .inl ⟨getK_no hn, hn⟩

theorem getK_len {l : List α} (h : Rise key l) (k : List UInt8) : (getK key k l).length ≤ 1 := by
  rcases getK_cases h k with ⟨e, _⟩ | ⟨x, _, _, e⟩ <;> rw [e] <;> simp

theorem getK_ext {l m : List α} (hl : Rise key l) (hm : Rise key m) (h : ∀ k, getK key k l = getK key k m) : l = m := by
  refine rise_ext hl hm (fun x => ?_)
  have e := h (key x)
  have a : x ∈ getK key (key x) l ↔ x ∈ l := by rw [mem_getK]; simp
  have b : x ∈ getK key (key x) m ↔ x ∈ m := by rw [mem_getK]; simp
  rw [← a, e, b]

theorem getK_drop (k j : List UInt8) (l : List α) : getK key k (dropK key j l) = if k = j then [] else getK key k l := by
  unfold getK dropK
  rw [List.filter_filter]
  split
  · rename_i e
    subst e
    rw [List.filter_eq_nil_iff]
    intro x _
    simp
  · rename_i e
    apply List.filter_congr
    intro x _
    by_cases hx : key x = k
    · simp [hx, e]
    · simp [hx]

theorem getK_put {a : α} {l : List α} (h : Rise key l) (k : List UInt8) : getK key k (putK key a l) = if k = key a then [a] else getK key k l := by
  have hp := rise_putK (a := a) h
  split
  · rename_i e
    subst e
    exact getK_at hp ((mem_putK h a).2 (.inl rfl))
  · rename_i e
    rcases getK_cases h k with ⟨e1, h1⟩ | ⟨x, hx, hk, e1⟩
    · rw [e1]
      refine getK_no (fun x hx => ?_)
      rcases (mem_putK h x).1 hx with rfl | ⟨hx, _⟩
      · exact fun h => e h.symm
      · exact h1 x hx
    · rw [e1]
      have hne : key x ≠ key a := fun h => e (hk.symm.trans h)
      have := getK_at hp ((mem_putK h x).2 (.inr ⟨hx, hne⟩))
      rwa [hk] at this
end

/-! ### All keys, rising -/

def keysL (l : List DD) : List (List UInt8) := l.foldl (fun s d => putK id (keyD d) s) []

theorem keys_fold : ∀ (l : List DD) (s : List (List UInt8)), Rise id s → Rise id (l.foldl (fun s d => putK id (keyD d) s) s) ∧ ∀ k, k ∈ l.foldl (fun s d => putK id (keyD d) s) s ↔ k ∈ s ∨ ∃ d ∈ l, keyD d = k
  | [], s, h => ⟨h, by simp⟩
  | d :: r, s, h => by
    rw [List.foldl_cons]
    obtain ⟨h1, h2⟩ := keys_fold r (putK id (keyD d) s) (rise_putK h)
    refine ⟨h1, fun k => ?_⟩
    rw [h2, mem_putK h]
    simp only [id, List.mem_cons]
    constructor
    · rintro ((rfl | ⟨hk, _⟩) | ⟨x, hx, rfl⟩)
      · exact .inr ⟨d, .inl rfl, rfl⟩
      · exact .inl hk
      · exact .inr ⟨x, .inr hx, rfl⟩
    · rintro (hk | ⟨x, rfl | hx, rfl⟩)
      · by_cases e : k = keyD d
        · exact .inl (.inl e)
        · exact .inl (.inr ⟨hk, e⟩)
      · exact .inl (.inl rfl)
      · exact .inr ⟨x, hx, rfl⟩

theorem rise_keys (l : List DD) : Rise id (keysL l) := (keys_fold l [] List.Pairwise.nil).1
theorem mem_keys {l : List DD} {k : List UInt8} : k ∈ keysL l ↔ ∃ d ∈ l, keyD d = k := by
  rw [keysL, (keys_fold l [] List.Pairwise.nil).2]
  simp

theorem keys_ext {l : List DD} {s : List (List UInt8)} (hs : Rise id s) (h : ∀ k, k ∈ s ↔ ∃ d ∈ l, keyD d = k) : s = keysL l :=
  rise_ext hs (rise_keys l) (fun k => by rw [h, mem_keys])

theorem keys_comm (a b : List DD) : keysL (a ++ b) = keysL (b ++ a) :=
  rise_ext (rise_keys _) (rise_keys _) (fun k => by rw [mem_keys, mem_keys]; simp only [List.mem_append, or_comm])

theorem rise_snoc {s : List (List UInt8)} {k : List UInt8} (h : Rise id s) (hk : ∀ x ∈ s, x < k) : Rise id (s ++ [k]) := by
  unfold Rise at h ⊢
  rw [List.pairwise_append]
  exact ⟨h, by simp, fun a ha b hb => by rw [List.mem_singleton] at hb; subst hb; exact hk a ha⟩

/-! ### Patches -/

structure ED where
  key : List UInt8
  old : List DD
  new : List DD
deriving DecidableEq

def zeroE : ED := ⟨[], [], []⟩

def edK (a b : List DD) (k : List UInt8) : Option ED := if getK keyD k a = getK keyD k b then none else some ⟨k, getK keyD k a, getK keyD k b⟩

/-- The patch from a to b. -/
def ofL (a b : List DD) : List ED := (keysL (a ++ b)).filterMap (edK a b)

/-- One edit of it. -/
def isEd (a b : List DD) (e : ED) : Prop := e.old = getK keyD e.key a ∧ e.new = getK keyD e.key b ∧ e.old ≠ e.new

theorem edK_some {a b : List DD} {k : List UInt8} {e : ED} : edK a b k = some e ↔ e.key = k ∧ isEd a b e := by
  obtain ⟨ek, eo, en⟩ := e
  unfold edK isEd
  dsimp only
  by_cases h : getK keyD k a = getK keyD k b
  · rw [if_pos h]
    simp only [reduceCtorEq, false_iff, not_and]
    rintro rfl rfl rfl hne
    exact hne h
  · rw [if_neg h]
    constructor
    · intro e
      simp only [Option.some.injEq, ED.mk.injEq] at e
      obtain ⟨rfl, rfl, rfl⟩ := e
      exact ⟨rfl, rfl, rfl, h⟩
    · rintro ⟨rfl, rfl, rfl, _⟩
      rfl

theorem mem_ofL {a b : List DD} {e : ED} : e ∈ ofL a b ↔ isEd a b e := by
  unfold ofL
  rw [List.mem_filterMap]
  constructor
  · rintro ⟨k, _, h⟩
    exact (edK_some.1 h).2
  · intro h
    refine ⟨e.key, ?_, edK_some.2 ⟨rfl, h⟩⟩
    rw [mem_keys]
    obtain ⟨h1, h2, h3⟩ := h
    by_cases ha : getK keyD e.key a = []
    · by_cases hb : getK keyD e.key b = []
      · rw [ha] at h1; rw [hb] at h2; exact (h3 (h1.trans h2.symm)).elim
      · obtain ⟨x, hx⟩ := List.exists_mem_of_ne_nil _ hb
        obtain ⟨x1, x2⟩ := mem_getK.1 hx
        exact ⟨x, by simp [x1], x2⟩
    · obtain ⟨x, hx⟩ := List.exists_mem_of_ne_nil _ ha
      obtain ⟨x1, x2⟩ := mem_getK.1 hx
      exact ⟨x, by simp [x1], x2⟩

theorem fm_congr {f g : List UInt8 → Option ED} : ∀ {s : List (List UInt8)}, (∀ j ∈ s, f j = g j) → s.filterMap f = s.filterMap g
  | [], _ => rfl
  | j :: r, h => by
    have ih := fm_congr (f := f) (g := g) (s := r) (fun i hi => h i (by simp [hi]))
    have e := h j (by simp)
    rw [List.filterMap_cons, List.filterMap_cons, e, ih]

theorem rise_fm {a b : List DD} : ∀ {s : List (List UInt8)}, Rise id s → Rise ED.key (s.filterMap (edK a b))
  | [], _ => List.Pairwise.nil
  | k :: r, h => by
    obtain ⟨h1, h2⟩ := rise_cons.1 h
    have ih := rise_fm (a := a) (b := b) h2
    rw [List.filterMap_cons]
    split
    · exact ih
    · rename_i e he
      refine rise_cons.2 ⟨fun x hx => ?_, ih⟩
      obtain ⟨j, hj, hx⟩ := List.mem_filterMap.1 hx
      rw [(edK_some.1 he).1, (edK_some.1 hx).1]
      exact h1 j hj

theorem rise_ofL (a b : List DD) : Rise ED.key (ofL a b) := rise_fm (rise_keys _)

/-- What is by rising keys and has just these edits is the patch. -/
theorem ofL_ext {a b : List DD} {p : List ED} (hp : Rise ED.key p) (h : ∀ e, e ∈ p ↔ isEd a b e) : p = ofL a b :=
  rise_ext hp (rise_ofL a b) (fun e => by rw [h, mem_ofL])

theorem ofL_no {a b : List DD} {k : List UInt8} (h : ∀ e ∈ ofL a b, e.key ≠ k) : getK keyD k a = getK keyD k b := by
  by_cases hk : getK keyD k a = getK keyD k b
  · exact hk
  · exact (h ⟨k, getK keyD k a, getK keyD k b⟩ (mem_ofL.2 ⟨rfl, rfl, hk⟩) rfl).elim

/-- One key more, behind all others. -/
theorem ofL_snoc {a b x y : List DD} {k : List UInt8} (ha : ∀ d ∈ a, keyD d < k) (hb : ∀ d ∈ b, keyD d < k) (hx : ∀ d ∈ x, keyD d = k) (hy : ∀ d ∈ y, keyD d = k) (hne : ¬ (x = [] ∧ y = [])) :
    ofL (a ++ x) (b ++ y) = ofL a b ++ (if x = y then [] else [⟨k, x, y⟩]) := by
  have hkey : keysL ((a ++ x) ++ (b ++ y)) = keysL (a ++ b) ++ [k] := by
    refine (keys_ext (rise_snoc (rise_keys _) (fun j hj => ?_)) (fun j => ?_)).symm
    · obtain ⟨d, hd, rfl⟩ := mem_keys.1 hj
      rcases List.mem_append.1 hd with h | h
      · exact ha d h
      · exact hb d h
    · rw [List.mem_append, mem_keys, List.mem_singleton]
      constructor
      · rintro (⟨d, hd, rfl⟩ | rfl)
        · refine ⟨d, ?_, rfl⟩
          simp only [List.mem_append] at hd ⊢
          rcases hd with h | h
          · exact .inl (.inl h)
          · exact .inr (.inl h)
        · cases x with
          | cons d r => exact ⟨d, by simp, hx d (by simp)⟩
          | nil => cases y with
            | cons d r => exact ⟨d, by simp, hy d (by simp)⟩
            | nil => exact (hne ⟨rfl, rfl⟩).elim
      · rintro ⟨d, hd, rfl⟩
        simp only [List.mem_append] at hd
        rcases hd with (h | h) | (h | h)
        · exact .inl ⟨d, by simp [h], rfl⟩
        · exact .inr (hx d h)
        · exact .inl ⟨d, by simp [h], rfl⟩
        · exact .inr (hy d h)
  have g1 : ∀ {l z : List DD} {j : List UInt8}, (∀ d ∈ z, keyD d = k) → j ≠ k → getK keyD j (l ++ z) = getK keyD j l := fun hz hj => by
    rw [getK_app, getK_no (l := _) (fun d hd e => hj (e.symm.trans (hz d hd))), List.append_nil]
  have g2 : ∀ {l z : List DD}, (∀ d ∈ l, keyD d < k) → (∀ d ∈ z, keyD d = k) → getK keyD k (l ++ z) = z := fun hl hz => by
    rw [getK_app, getK_no (fun d hd => lt_ne (hl d hd)), getK_all hz, List.nil_append]
  unfold ofL
  rw [hkey, List.filterMap_append]
  congr 1
  · refine fm_congr (fun j hj => ?_)
    have hjk : j ≠ k := by
      obtain ⟨d, hd, rfl⟩ := mem_keys.1 hj
      rcases List.mem_append.1 hd with h | h
      · exact lt_ne (ha d h)
      · exact lt_ne (hb d h)
    unfold edK
    rw [g1 hx hjk, g1 hy hjk]
  · unfold edK
    rw [List.filterMap_cons, g2 ha hx, g2 hb hy]
    by_cases e : x = y
    · simp [e]
    · simp [e]

/-! ### Valid patches -/

def sideB (l : List DD) (k : List UInt8) : Bool := decide (l.length ≤ 1) && l.all (fun d => keyD d == k)
def rightE (e : ED) : Bool := (splitD e.key).2.2 && sideB e.old e.key && sideB e.new e.key && !decide (e.old = e.new)
def rightAt (p : List ED) (i : Nat) : Bool := rightE (p.getD i zeroE) && (decide (i = 0) || decide ((p.getD (i - 1) zeroE).key < (p.getD i zeroE).key))
def rightTo (p : List ED) (n : Nat) : Bool := (List.range n).all (rightAt p)
def rightP (p : List ED) : Bool := rightTo p p.length

theorem rightTo_succ (p : List ED) (n : Nat) : rightTo p (n + 1) = (rightTo p n && rightAt p n) := by
  unfold rightTo
  rw [List.range_succ, List.all_append]
  simp

theorem rightP_no {p : List ED} {i : Nat} (h : i < p.length) (hn : rightAt p i = false) : rightP p = false := by
  unfold rightP rightTo
  rw [List.all_eq_false]
  exact ⟨i, List.mem_range.2 h, by simp [hn]⟩

theorem rightAt_lt {p : List ED} {i : Nat} (h : i < p.length) : rightAt p i = (rightE p[i] && (decide (i = 0) || decide ((p.getD (i - 1) zeroE).key < p[i].key))) := by
  unfold rightAt
  have e : p.getD i zeroE = p[i] := by rw [List.getD_eq_getElem?_getD, List.getElem?_eq_getElem h]; rfl
  rw [e]

theorem rightP_iff {p : List ED} : rightP p = true ↔ (∀ e ∈ p, rightE e = true) ∧ Rise ED.key p := by
  have hg : ∀ i (h : i < p.length), p.getD i zeroE = p[i] := fun i h => by rw [List.getD_eq_getElem?_getD, List.getElem?_eq_getElem h]; rfl
  unfold rightP rightTo
  rw [List.all_eq_true]
  simp only [List.mem_range]
  constructor
  · intro h
    have h1 : ∀ i (hi : i < p.length), rightE p[i] = true ∧ (i = 0 ∨ (p.getD (i - 1) zeroE).key < p[i].key) := fun i hi => by
      have := h i hi
      rw [rightAt_lt hi] at this
      simpa using this
    refine ⟨fun e he => ?_, ?_⟩
    · obtain ⟨i, hi, rfl⟩ := List.getElem_of_mem he
      exact (h1 i hi).1
    · unfold Rise
      rw [List.pairwise_iff_getElem]
      have hs : ∀ n i j (_ : j = i + n + 1) (hi : i < p.length) (hj : j < p.length), p[i].key < p[j].key := by
        intro n
        induction n with
        | zero =>
          rintro i j rfl hi hj
          have := ((h1 _ hj).2.resolve_left (by omega))
          rw [hg _ (by omega)] at this
          exact this
        | succ n ih =>
          rintro i j rfl hi hj
          have e1 := ih i (i + n + 1) rfl hi (by omega)
          have e2 := ((h1 _ hj).2.resolve_left (by omega))
          rw [hg _ (by omega)] at e2
          exact lt_tr e1 e2
      intro i j hi hj hij
      exact hs (j - i - 1) i j (by omega) hi hj
  · rintro ⟨h1, h2⟩ i hi
    rw [rightAt_lt hi]
    simp only [Bool.and_eq_true, Bool.or_eq_true, decide_eq_true_eq]
    refine ⟨h1 _ (List.getElem_mem hi), ?_⟩
    by_cases h0 : i = 0
    · exact .inl h0
    · right
      rw [hg _ (by omega)]
      unfold Rise at h2
      rw [List.pairwise_iff_getElem] at h2
      exact h2 (i - 1) i (by omega) hi (by omega)

theorem sideB_iff {l : List DD} {k : List UInt8} : sideB l k = true ↔ l.length ≤ 1 ∧ ∀ d ∈ l, keyD d = k := by
  unfold sideB
  simp

theorem rightE_iff {e : ED} : rightE e = true ↔ (splitD e.key).2.2 = true ∧ sideB e.old e.key = true ∧ sideB e.new e.key = true ∧ e.old ≠ e.new := by
  unfold rightE
  simp [and_assoc]

/-- A side that is valid: none, or one of that key. -/
theorem side_cases {l : List DD} {k : List UInt8} (h : sideB l k = true) : l = [] ∨ ∃ d, l = [d] ∧ keyD d = k := by
  obtain ⟨h1, h2⟩ := sideB_iff.1 h
  match l, h1, h2 with
  | [], _, _ => exact .inl rfl
  | [d], _, h2 => exact .inr ⟨d, rfl, h2 d (by simp)⟩
  | _ :: _ :: _, h1, _ => simp at h1

/-! ### Those that fit, and what they make -/

def fitsP (l : List DD) (p : List ED) : Bool := p.all (fun e => decide (getK keyD e.key l = e.old)) && rightP p

def appS (l : List DD) (e : ED) : List DD := e.new.foldl (fun o d => putK keyD d o) (dropK keyD e.key l)
def appP (l : List DD) (p : List ED) : List DD := p.foldl appS l
def applyP (l : List DD) (p : List ED) : Int × List DD :=
  if rightP p = false then (32, []) else if fitsP l p = false then (75, []) else if 500 < (appP l p).length then (21, []) else (0, appP l p)

theorem appS_one {l : List DD} {e : ED} (hl : Rise keyD l) (hs : sideB e.new e.key = true) : Rise keyD (appS l e) ∧ ∀ k, getK keyD k (appS l e) = if k = e.key then e.new else getK keyD k l := by
  unfold appS
  have hd := rise_dropK (k := e.key) hl
  rcases side_cases hs with h | ⟨d, h, hk⟩
  · rw [h]
    exact ⟨hd, fun k => getK_drop k e.key l⟩
  · rw [h]
    refine ⟨rise_putK hd, fun k => ?_⟩
    show getK keyD k (putK keyD d (dropK keyD e.key l)) = _
    rw [getK_put hd, hk, getK_drop]
    split
    · rfl
    · rfl

theorem appP_spec : ∀ {p : List ED} {l : List DD}, Rise keyD l → (∀ e ∈ p, sideB e.new e.key = true) → Rise ED.key p → Rise keyD (appP l p) ∧ (∀ e ∈ p, getK keyD e.key (appP l p) = e.new) ∧ ∀ k, (∀ e ∈ p, e.key ≠ k) → getK keyD k (appP l p) = getK keyD k l
  | [], l, hl, _, _ => ⟨hl, by simp, fun _ _ => rfl⟩
  | e :: p, l, hl, hs, hp => by
    obtain ⟨p1, p2⟩ := rise_cons.1 hp
    obtain ⟨a1, a2⟩ := appS_one hl (hs e (by simp))
    obtain ⟨b1, b2, b3⟩ := appP_spec a1 (fun x hx => hs x (by simp [hx])) p2
    refine ⟨b1, fun x hx => ?_, fun k hk => ?_⟩
    · rcases List.mem_cons.1 hx with rfl | hx
      · show getK keyD x.key (appP (appS l x) p) = _
        rw [b3 x.key (fun y hy => (lt_ne (p1 y hy)).symm), a2, if_pos rfl]
      · exact b2 x hx
    · show getK keyD k (appP (appS l e) p) = _
      rw [b3 k (fun y hy => hk y (by simp [hy])), a2, if_neg (fun h => hk e (by simp) h.symm)]

/-! ### The laws of patches -/

/-- A snapshot's list. -/
structure Snp (l : List DD) : Prop where
  rise : Rise keyD l
  right : ∀ d ∈ l, rightD d = true

theorem ofL_rightE {a b : List DD} (ha : Snp a) (hb : Snp b) {e : ED} (he : e ∈ ofL a b) : rightE e = true := by
  obtain ⟨h1, h2, h3⟩ := mem_ofL.1 he
  have hsd : ∀ {l : List DD}, Snp l → sideB (getK keyD e.key l) e.key = true := fun hl => sideB_iff.2 ⟨getK_len hl.rise _, fun d hd => (mem_getK.1 hd).2⟩
  have hsp : ∀ {l : List DD}, Snp l → getK keyD e.key l ≠ [] → (splitD e.key).2.2 = true := fun hl hn => by
    obtain ⟨x, hx⟩ := List.exists_mem_of_ne_nil _ hn
    obtain ⟨x1, x2⟩ := mem_getK.1 hx
    rw [← x2, split_key (hl.right x x1)]
  refine rightE_iff.2 ⟨?_, by rw [h1]; exact hsd ha, by rw [h2]; exact hsd hb, h3⟩
  by_cases h : getK keyD e.key a = []
  · exact hsp hb (fun h' => h3 (by rw [h1, h2, h, h']))
  · exact hsp ha h

theorem ofL_right {a b : List DD} (ha : Snp a) (hb : Snp b) : rightP (ofL a b) = true := rightP_iff.2 ⟨fun _ he => ofL_rightE ha hb he, rise_ofL a b⟩

theorem ofL_fits {a b : List DD} (ha : Snp a) (hb : Snp b) : fitsP a (ofL a b) = true := by
  unfold fitsP
  rw [ofL_right ha hb, Bool.and_true, List.all_eq_true]
  intro e he
  exact decide_eq_true (mem_ofL.1 he).1.symm

theorem ofL_app {a b : List DD} (ha : Snp a) (hb : Snp b) : appP a (ofL a b) = b := by
  have hs : ∀ e ∈ ofL a b, sideB e.new e.key = true := fun e he => (rightE_iff.1 (ofL_rightE ha hb he)).2.2.1
  obtain ⟨h1, h2, h3⟩ := appP_spec (l := a) ha.rise hs (rise_ofL a b)
  refine getK_ext h1 hb.rise (fun k => ?_)
  by_cases hk : ∀ e ∈ ofL a b, e.key ≠ k
  · rw [h3 k hk, ofL_no hk]
  · obtain ⟨e, he, hek⟩ : ∃ e ∈ ofL a b, e.key = k := by
      apply Classical.byContradiction
      intro hn
      exact hk (fun e he hek => hn ⟨e, he, hek⟩)
    subst hek
    rw [h2 e he]
    exact (mem_ofL.1 he).2.1

theorem ofL_apply {a b : List DD} (ha : Snp a) (hb : Snp b) (hn : b.length ≤ 500) : applyP a (ofL a b) = (0, b) := by
  unfold applyP
  rw [ofL_right ha hb, ofL_fits ha hb, ofL_app ha hb, if_neg (by simp), if_neg (by simp), if_neg (by omega)]

def turnE (e : ED) : ED := ⟨e.key, e.new, e.old⟩
def turnP (p : List ED) : List ED := p.map turnE

theorem turn_turn (p : List ED) : turnP (turnP p) = p := by
  unfold turnP
  rw [List.map_map]
  exact List.map_id p

theorem turn_len (p : List ED) : (turnP p).length = p.length := by simp [turnP]

theorem turn_ofL (a b : List DD) : turnP (ofL a b) = ofL b a := by
  refine ofL_ext ?_ (fun e => ?_)
  · unfold turnP Rise
    rw [List.pairwise_map]
    exact rise_ofL a b
  · unfold turnP
    rw [List.mem_map]
    constructor
    · rintro ⟨x, hx, rfl⟩
      obtain ⟨h1, h2, h3⟩ := mem_ofL.1 hx
      exact ⟨h2, h1, fun h => h3 h.symm⟩
    · rintro ⟨h1, h2, h3⟩
      exact ⟨turnE e, mem_ofL.2 ⟨h2, h1, fun h => h3 h.symm⟩, rfl⟩

theorem turn_rightE (e : ED) : rightE (turnE e) = rightE e := by
  rw [Bool.eq_iff_iff, rightE_iff, rightE_iff]
  unfold turnE
  constructor
  · rintro ⟨h1, h2, h3, h4⟩; exact ⟨h1, h3, h2, fun h => h4 h.symm⟩
  · rintro ⟨h1, h2, h3, h4⟩; exact ⟨h1, h3, h2, fun h => h4 h.symm⟩

theorem turn_right (p : List ED) : rightP (turnP p) = rightP p := by
  rw [Bool.eq_iff_iff, rightP_iff, rightP_iff]
  have e1 : (∀ e ∈ turnP p, rightE e = true) ↔ ∀ e ∈ p, rightE e = true := by
    unfold turnP
    simp only [List.mem_map, forall_exists_index, and_imp, forall_apply_eq_imp_iff₂, turn_rightE]
  have e2 : Rise ED.key (turnP p) ↔ Rise ED.key p := by
    unfold turnP Rise
    rw [List.pairwise_map]
    exact Iff.rfl
  rw [e1, e2]

theorem fitsP_iff {l : List DD} {p : List ED} : fitsP l p = true ↔ (∀ e ∈ p, getK keyD e.key l = e.old) ∧ rightP p = true := by
  unfold fitsP
  rw [Bool.and_eq_true, List.all_eq_true]
  simp only [decide_eq_true_eq]

/-- A valid patch that fits is that from a to what it makes. -/
theorem fits_ofL {a : List DD} {p : List ED} (ha : Rise keyD a) (h : fitsP a p = true) : ofL a (appP a p) = p := by
  obtain ⟨f1, f2⟩ := fitsP_iff.1 h
  obtain ⟨r1, r2⟩ := rightP_iff.1 f2
  obtain ⟨h1, h2, h3⟩ := appP_spec (l := a) ha (fun e he => (rightE_iff.1 (r1 e he)).2.2.1) r2
  refine (ofL_ext r2 (fun e => ?_)).symm
  constructor
  · intro he
    exact ⟨(f1 e he).symm, (h2 e he).symm, (rightE_iff.1 (r1 e he)).2.2.2⟩
  · rintro ⟨e1, e2, e3⟩
    by_cases hk : ∀ x ∈ p, x.key ≠ e.key
    · rw [h3 _ hk] at e2
      exact (e3 (e1.trans e2.symm)).elim
    · obtain ⟨x, hx, hxk⟩ : ∃ x ∈ p, x.key = e.key := by
        apply Classical.byContradiction
        intro hn
        exact hk (fun x hx hxk => hn ⟨x, hx, hxk⟩)
      have : x = e := by
        obtain ⟨xk, xo, xn⟩ := x
        obtain ⟨ek, eo, en⟩ := e
        dsimp only at hxk e1 e2
        subst hxk
        have g1 := f1 _ hx
        have g2 := h2 _ hx
        dsimp only at g1 g2
        rw [e1, g1, e2, g2]
      rw [← this]
      exact hx

/-- What a valid patch makes of a snapshot's list is one, but for its length. -/
theorem app_snp {a : List DD} {p : List ED} (ha : Snp a) (h : rightP p = true) : Snp (appP a p) := by
  obtain ⟨r1, r2⟩ := rightP_iff.1 h
  have hs : ∀ e ∈ p, sideB e.new e.key = true := fun e he => (rightE_iff.1 (r1 e he)).2.2.1
  obtain ⟨h1, h2, h3⟩ := appP_spec (l := a) ha.rise hs r2
  refine ⟨h1, fun d hd => ?_⟩
  have hm : d ∈ getK keyD (keyD d) (appP a p) := mem_getK.2 ⟨hd, rfl⟩
  by_cases hk : ∀ x ∈ p, x.key ≠ keyD d
  · rw [h3 _ hk] at hm
    exact ha.right d (mem_getK.1 hm).1
  · obtain ⟨x, hx, hxk⟩ : ∃ x ∈ p, x.key = keyD d := by
      apply Classical.byContradiction
      intro hn
      exact hk (fun x hx hxk => hn ⟨x, hx, hxk⟩)
    cases hr : rightD d with
    | true => rfl
    | false =>
      have hsp := (rightE_iff.1 (r1 x hx)).1
      rw [hxk, (keyD_iff d).2 hr, show splitD [] = ([], [], false) by decide +kernel] at hsp
      cases hsp

end Go.Mk

/-
  PATCHES applied all at once: what is left of a snapshot and what is new, given to New (plain, over no program).
-/
namespace Go.Mk

/-- Too many: New is full. -/
theorem new_full : ∀ (r l out : List DD), Mades l out → (∀ d ∈ r, rightD d = true) → r.Pairwise (fun a b => keyD a ≠ keyD b) → (∀ a ∈ out, ∀ b ∈ r, keyD a ≠ keyD b) → out.length ≤ 500 → 500 < out.length + r.length → r.foldl newS (0, out) = (21, [])
  | [], _, out, _, _, _, _, h1, h2 => by simp at h2; omega
  | d :: r, l, out, h, hr, hp, hx, h1, h2 => by
    obtain ⟨p1, p2⟩ := List.pairwise_cons.1 hp
    have hn : ∀ x ∈ out, keyD x ≠ keyD d := fun x hx' => hx x hx' d (by simp)
    by_cases h5 : 500 ≤ out.length
    · have e : newS (0, out) d = (21, []) := by simp [newS, keyD_right (hr d (by simp)), hasK_no.2 hn, h5]
      rw [List.foldl_cons, e, newS_err (by simp)]
    · have e : newS (0, out) d = (0, putK keyD d out) := by simp [newS, keyD_right (hr d (by simp)), hasK_no.2 hn, h5]
      have hlen : (putK keyD d out).length = out.length + 1 := by rw [putK_len h.rise, dropK_none hn]
      rw [List.foldl_cons, e]
      refine new_full r (l ++ [d]) _ ⟨rise_putK h.rise, fun x hx => by
            rcases (mem_putK h.rise x).1 hx with rfl | ⟨hx, _⟩
            · exact hr x (by simp)
            · exact h.right x hx, fun x => by
            rw [mem_putK h.rise, List.mem_append, ← h.mem]
            constructor
            · rintro (rfl | ⟨hx, _⟩)
              · simp
              · exact .inl hx
            · rintro (hx | hx)
              · exact .inr ⟨hx, hn x hx⟩
              · simp at hx; exact .inl hx, by
            rw [hlen, h.len]; simp⟩ (fun x hx => hr x (by simp [hx])) p2 (fun a ha b hb => ?_) (by omega) (by rw [hlen]; simp at h2; omega)
      rcases (mem_putK h.rise a).1 ha with rfl | ⟨ha, _⟩
      · exact p1 b hb
      · exact hx a ha b (by simp [hb])

theorem drops_spec : ∀ (ks : List (List UInt8)) (l : List DD), Rise keyD l → Rise keyD (ks.foldl (fun l k => dropK keyD k l) l) ∧ ∀ d, d ∈ ks.foldl (fun l k => dropK keyD k l) l ↔ d ∈ l ∧ ∀ k ∈ ks, keyD d ≠ k
  | [], l, h => ⟨h, by simp⟩
  | k :: ks, l, h => by
    obtain ⟨h1, h2⟩ := drops_spec ks (dropK keyD k l) (rise_dropK h)
    refine ⟨h1, fun d => ?_⟩
    rw [List.foldl_cons, h2, mem_dropK]
    simp only [List.mem_cons, forall_eq_or_imp, and_assoc]

theorem news_apart : ∀ {p : List ED}, (∀ e ∈ p, sideB e.new e.key = true) → Rise ED.key p → (p.flatMap ED.new).Pairwise (fun a b => keyD a ≠ keyD b)
  | [], _, _ => List.Pairwise.nil
  | e :: p, hs, hp => by
    obtain ⟨p1, p2⟩ := rise_cons.1 hp
    have ih := news_apart (fun x hx => hs x (by simp [hx])) p2
    rw [List.flatMap_cons, List.pairwise_append]
    refine ⟨?_, ih, fun a ha b hb => ?_⟩
    · rcases side_cases (hs e (by simp)) with h | ⟨d, h, _⟩ <;> rw [h] <;> simp
    · obtain ⟨x, hx, hb⟩ := List.mem_flatMap.1 hb
      rw [(sideB_iff.1 (hs e (by simp))).2 a ha, (sideB_iff.1 (hs x (by simp [hx]))).2 b hb]
      exact lt_ne (p1 x hx)

theorem split_nil : (splitD []).2.2 = false := by decide +kernel

/-- What is left and what is new: New makes of it what the patch makes. -/
theorem new_apply {l : List DD} {p : List ED} (hl : Snp l) (hf : fitsP l p = true) : newL ((p.map ED.key).foldl (fun l k => dropK keyD k l) l ++ p.flatMap ED.new) = if 500 < (appP l p).length then (21, []) else (0, appP l p) := by
  obtain ⟨_, f2⟩ := fitsP_iff.1 hf
  obtain ⟨r1, r2⟩ := rightP_iff.1 f2
  have hs : ∀ e ∈ p, sideB e.new e.key = true := fun e he => (rightE_iff.1 (r1 e he)).2.2.1
  obtain ⟨h1, h2, h3⟩ := appP_spec (l := l) hl.rise hs r2
  obtain ⟨m1, m2⟩ := drops_spec (p.map ED.key) l hl.rise
  have ha := news_apart hs r2
  have hmn : ∀ d, d ∈ p.flatMap ED.new ↔ ∃ e ∈ p, d ∈ e.new := fun d => List.mem_flatMap
  generalize hM : (p.map ED.key).foldl (fun l k => dropK keyD k l) l = M at *
  have hrn : ∀ d ∈ p.flatMap ED.new, rightD d = true := fun d hd => by
    obtain ⟨e, he, hd⟩ := (hmn d).1 hd
    cases h : rightD d
    · have hk := (sideB_iff.1 (hs e he)).2 d hd
      rw [(keyD_iff d).2 h] at hk
      have := (rightE_iff.1 (r1 e he)).1
      rw [← hk, split_nil] at this
      cases this
    · rfl
  have hkn : ∀ d ∈ p.flatMap ED.new, ∃ e ∈ p, keyD d = e.key := fun d hd => by
    obtain ⟨e, he, hd⟩ := (hmn d).1 hd
    exact ⟨e, he, (sideB_iff.1 (hs e he)).2 d hd⟩
  have hright : ∀ d ∈ M ++ p.flatMap ED.new, rightD d = true := fun d hd => by
    rcases List.mem_append.1 hd with h | h
    · exact hl.right d ((m2 d).1 h).1
    · exact hrn d h
  have hpw : (M ++ p.flatMap ED.new).Pairwise (fun a b => keyD a ≠ keyD b) := by
    rw [List.pairwise_append]
    refine ⟨m1.imp (fun h => lt_ne h), ha, fun a ha b hb e => ?_⟩
    obtain ⟨x, hx, hk⟩ := hkn b hb
    exact ((m2 a).1 ha).2 x.key (List.mem_map_of_mem hx) (e.trans hk)
  have hmem : ∀ d, d ∈ M ++ p.flatMap ED.new ↔ d ∈ appP l p := fun d => by
    have e0 : d ∈ appP l p ↔ d ∈ getK keyD (keyD d) (appP l p) := by rw [mem_getK]; simp
    rw [List.mem_append, m2, hmn, e0]
    by_cases hk : ∀ e ∈ p, e.key ≠ keyD d
    · rw [h3 _ hk, mem_getK]
      constructor
      · rintro (⟨h, _⟩ | ⟨e, he, h⟩)
        · exact ⟨h, rfl⟩
        · exact (hk e he ((sideB_iff.1 (hs e he)).2 d h).symm).elim
      · rintro ⟨h, _⟩
        refine .inl ⟨h, fun k hk' e => ?_⟩
        obtain ⟨x, hx, rfl⟩ := List.mem_map.1 hk'
        exact hk x hx e.symm
    · obtain ⟨e, he, hek⟩ : ∃ e ∈ p, e.key = keyD d := by
        apply Classical.byContradiction
        intro hn
        exact hk (fun e he hek => hn ⟨e, he, hek⟩)
      rw [← hek, h2 e he]
      constructor
      · rintro (⟨_, h⟩ | ⟨x, hx, h⟩)
        · exact (h e.key (List.mem_map_of_mem he) rfl).elim
        · have hxe : x.key = e.key := ((sideB_iff.1 (hs x hx)).2 d h).symm.trans hek.symm
          rw [← rise_one r2 hx he hxe]
          exact h
      · intro h
        exact .inr ⟨e, he, h⟩
  have hne : ∀ {l : List DD}, l.Pairwise (fun a b => keyD a ≠ keyD b) → l.Nodup := fun h => h.imp (fun h e => h (by rw [e]))
  have hperm : (M ++ p.flatMap ED.new).Perm (appP l p) := (List.perm_ext_iff_of_nodup (hne hpw) (hne (h1.imp (fun h => lt_ne h)))).2 hmem
  have hlen := hperm.length_eq
  by_cases h5 : 500 < (appP l p).length
  · rw [if_pos h5]
    exact new_full _ [] [] ⟨List.Pairwise.nil, by simp, by simp, rfl⟩ hright hpw (by simp) (by simp) (by rw [hlen]; simpa using h5)
  · rw [if_neg h5]
    have h0 : (newL (M ++ p.flatMap ED.new)).1 = 0 := new_ok _ [] [] ⟨List.Pairwise.nil, by simp, by simp, rfl⟩ hright hpw (by simp) (by rw [hlen]; simp; omega)
    have MM := newL_made h0
    have e2 : (newL (M ++ p.flatMap ED.new)).2 = appP l p := rise_ext MM.rise h1 (fun x => by rw [MM.mem, hmem])
    rw [← e2, ← h0]

end Go.Mk

/-
  A PATCH made step by step (plain): the smallest key that is left, on both sides.
-/
namespace Go.Mk

theorem take_get {A : List DD} {i : Nat} {kk : List UInt8} (hA : Rise keyD A) (hi : i ≤ A.length) (hlt : ∀ x ∈ A.take i, keyD x < kk) (hm : ∀ x ∈ A.drop i, ¬ keyD x < kk) :
    A.take (i + (getK keyD kk A).length) = A.take i ++ getK keyD kk A ∧ i + (getK keyD kk A).length ≤ A.length ∧ ∀ x ∈ A.drop (i + (getK keyD kk A).length), kk < keyD x := by
  have e0 : getK keyD kk A = getK keyD kk (A.drop i) := by
    have h : getK keyD kk (A.take i ++ A.drop i) = getK keyD kk (A.take i) ++ getK keyD kk (A.drop i) := getK_app _ _ _
    rw [List.take_append_drop, getK_no (fun x hx => lt_ne (hlt x hx)), List.nil_append] at h
    exact h
  have hd : Rise keyD (A.drop i) := List.Pairwise.sublist (List.drop_sublist i A) hA
  by_cases hl : i < A.length
  · have hc : A.drop i = A[i] :: A.drop (i + 1) := List.drop_eq_getElem_cons hl
    rw [hc] at hd hm
    obtain ⟨d1, d2⟩ := rise_cons.1 hd
    by_cases hk : keyD A[i] = kk
    · have e1 : getK keyD kk A = [A[i]] := by
        rw [e0, hc, ← hk]
        exact getK_at hd List.mem_cons_self
      rw [e1]
      refine ⟨?_, by simp; omega, fun x hx => ?_⟩
      · rw [List.length_singleton, List.take_add_one, List.getElem?_eq_getElem hl, Option.toList_some]
      · rw [List.length_singleton] at hx
        rw [← hk]
        exact d1 x hx
    · have hg : kk < keyD A[i] := by
        rcases lt_tri kk (keyD A[i]) with h | h | h
        · exact h
        · exact (hk h.symm).elim
        · exact (hm _ List.mem_cons_self h).elim
      have hall : ∀ x ∈ A[i] :: A.drop (i + 1), kk < keyD x := fun x hx => by
        rcases List.mem_cons.1 hx with rfl | hx
        · exact hg
        · exact lt_tr hg (d1 x hx)
      have e1 : getK keyD kk A = [] := by
        rw [e0, hc]
        exact getK_no (fun x hx => (lt_ne (hall x hx)).symm)
      rw [e1]
      refine ⟨by simp, by simpa using hi, fun x hx => ?_⟩
      rw [List.length_nil, Nat.add_zero, hc] at hx
      exact hall x hx
  · have hc : A.drop i = [] := List.drop_eq_nil_of_le (by omega)
    have e1 : getK keyD kk A = [] := by rw [e0, hc]; rfl
    rw [e1]
    refine ⟨by simp, by simpa using hi, fun x hx => ?_⟩
    rw [List.length_nil, Nat.add_zero, hc] at hx
    cases hx

/-- What was done of both sides: all of it comes before all that is left. -/
structure OfI (A B : List DD) (i k : Nat) : Prop where
  hi : i ≤ A.length
  hk : k ≤ B.length
  h1 : ∀ x ∈ A.take i, ∀ y ∈ B.drop k, keyD x < keyD y
  h2 : ∀ y ∈ B.take k, ∀ x ∈ A.drop i, keyD y < keyD x

theorem OfI.zero (A B : List DD) : OfI A B 0 0 := ⟨Nat.zero_le _, Nat.zero_le _, by simp, by simp⟩

theorem rise_split {A : List DD} (hA : Rise keyD A) (i : Nat) : ∀ x ∈ A.take i, ∀ y ∈ A.drop i, keyD x < keyD y := by
  have h : Rise keyD (A.take i ++ A.drop i) := by rw [List.take_append_drop]; exact hA
  unfold Rise at h
  rw [List.pairwise_append] at h
  exact h.2.2

theorem of_step {A B : List DD} (hA : Rise keyD A) (hB : Rise keyD B) {i k : Nat} (h : OfI A B i k) {kk : List UInt8} (hm1 : ∀ x ∈ A.drop i, ¬ keyD x < kk) (hm2 : ∀ y ∈ B.drop k, ¬ keyD y < kk)
    (hex : (∃ x ∈ A.drop i, keyD x = kk) ∨ ∃ y ∈ B.drop k, keyD y = kk) :
    OfI A B (i + (getK keyD kk A).length) (k + (getK keyD kk B).length) ∧ 1 ≤ (getK keyD kk A).length + (getK keyD kk B).length ∧
    ofL (A.take (i + (getK keyD kk A).length)) (B.take (k + (getK keyD kk B).length)) = ofL (A.take i) (B.take k) ++ (if getK keyD kk A = getK keyD kk B then [] else [⟨kk, getK keyD kk A, getK keyD kk B⟩]) := by
  have la : ∀ x ∈ A.take i, keyD x < kk := fun x hx => by
    rcases hex with ⟨y, hy, rfl⟩ | ⟨y, hy, rfl⟩
    · exact rise_split hA i x hx y hy
    · exact h.h1 x hx y hy
  have lb : ∀ x ∈ B.take k, keyD x < kk := fun x hx => by
    rcases hex with ⟨y, hy, rfl⟩ | ⟨y, hy, rfl⟩
    · exact h.h2 x hx y hy
    · exact rise_split hB k x hx y hy
  obtain ⟨a1, a2, a3⟩ := take_get hA h.hi la hm1
  obtain ⟨b1, b2, b3⟩ := take_get hB h.hk lb hm2
  have ka : ∀ d ∈ getK keyD kk A, keyD d = kk := fun d hd => (mem_getK.1 hd).2
  have kb : ∀ d ∈ getK keyD kk B, keyD d = kk := fun d hd => (mem_getK.1 hd).2
  have hne : ¬ (getK keyD kk A = [] ∧ getK keyD kk B = []) := by
    rintro ⟨e1, e2⟩
    rcases hex with ⟨y, hy, e⟩ | ⟨y, hy, e⟩
    · exact getK_nil e1 y (List.mem_of_mem_drop hy) e
    · exact getK_nil e2 y (List.mem_of_mem_drop hy) e
  refine ⟨⟨a2, b2, fun x hx y hy => ?_, fun y hy x hx => ?_⟩, ?_, ?_⟩
  · rw [a1] at hx
    rcases List.mem_append.1 hx with hx | hx
    · exact lt_tr (la x hx) (b3 y hy)
    · rw [ka x hx]; exact b3 y hy
  · rw [b1] at hy
    rcases List.mem_append.1 hy with hy | hy
    · exact lt_tr (lb y hy) (a3 x hx)
    · rw [kb y hy]; exact a3 x hx
  · rcases Nat.eq_zero_or_pos (getK keyD kk A).length with h0 | h0
    · rcases Nat.eq_zero_or_pos (getK keyD kk B).length with h1 | h1
      · exact (hne ⟨List.eq_nil_of_length_eq_zero h0, List.eq_nil_of_length_eq_zero h1⟩).elim
      · omega
    · omega
  · rw [a1, b1]
    exact ofL_snoc la lb ka kb hne

end Go.Mk
