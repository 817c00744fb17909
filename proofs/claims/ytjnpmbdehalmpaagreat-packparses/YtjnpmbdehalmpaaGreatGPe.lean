/-
  Lemmas towards the claim of this folder: contracts of the functions that the law reaches; joined texts.
-/
import Derived.Test.YtjnpmbdehalmpaaGreatGR8
import Derived.Test.YtjnpmbdehalmpaaGreatGPm
/-
  PATCHES over lists by rising keys (plain, over no program): what is there under a key, all keys, the patch from one list to another one, valid ones, those that fit, what they make, the way back.
-/
namespace Go.Mk

section
variable {α : Type} {key : α → List UInt8}

/-- What is there under a key. -/
def getK (key : α → List UInt8) (k : List UInt8) (l : List α) : List α := l.filter (fun x => key x == k)

theorem mem_getK {k : List UInt8} {l : List α} {x : α} : x ∈ getK key k l ↔ x ∈ l ∧ key x = k := by
  unfold getK
  rw [List.mem_filter]
  simp

theorem getK_no {k : List UInt8} {l : List α} (h : ∀ x ∈ l, key x ≠ k) : getK key k l = [] := by
  unfold getK
  rw [List.filter_eq_nil_iff]
  intro x hx
  simp [h x hx]

theorem getK_nil {k : List UInt8} {l : List α} (h : getK key k l = []) : ∀ x ∈ l, key x ≠ k := fun x hx e => by
  have := mem_getK.2 ⟨hx, e⟩
  rw [h] at this
  cases this

theorem getK_app (k : List UInt8) (l m : List α) : getK key k (l ++ m) = getK key k l ++ getK key k m := by
  unfold getK
  rw [List.filter_append]

theorem getK_all {k : List UInt8} {l : List α} (h : ∀ x ∈ l, key x = k) : getK key k l = l := by
  unfold getK
  rw [List.filter_eq_self]
  intro x hx
  simp [h x hx]

theorem getK_at : ∀ {l : List α}, Rise key l → ∀ {x : α}, x ∈ l → getK key (key x) l = [x]
  | [], _, x, h => by cases h
  | y :: r, h, x, hx => by
    obtain ⟨h1, h2⟩ := rise_cons.1 h
    rcases List.mem_cons.1 hx with rfl | hx
    · have e : getK key (key x) r = [] := getK_no (fun z hz => (lt_ne (h1 z hz)).symm)
      unfold getK at e ⊢
      rw [List.filter_cons_of_pos (by simp), e]
    · have e := getK_at h2 hx
      unfold getK at e ⊢
      rw [List.filter_cons_of_neg (by simpa using lt_ne (h1 x hx)), e]

theorem getK_cases {l : List α} (h : Rise key l) (k : List UInt8) : (getK key k l = [] ∧ ∀ x ∈ l, key x ≠ k) ∨ ∃ x ∈ l, key x = k ∧ getK key k l = [x] := by
  by_cases hx : ∃ x ∈ l, key x = k
  · obtain ⟨x, hx, rfl⟩ := hx
    exact .inr ⟨x, hx, rfl, getK_at h hx⟩
  · have hn : ∀ x ∈ l, key x ≠ k := fun x hm e => hx ⟨x, hm, e⟩
    exact .inl ⟨getK_no hn, hn⟩

theorem getK_len {l : List α} (h : Rise key l) (k : List UInt8) : (getK key k l).length ≤ 1 := by
  rcases getK_cases h k with ⟨e, _⟩ | ⟨x, _, _, e⟩ <;> rw [e] <;> simp

theorem getK_ext {l m : List α} (hl : Rise key l) (hm : Rise key m) (h : ∀ k, getK key k l = getK key k m) : l = m := by
  refine rise_ext hl hm (fun x => ?_)
  have e := h (key x)
  have a : x ∈ getK key (key x) l ↔ x ∈ l := by rw [mem_getK]; simp
  have b : x ∈ getK key (key x) m ↔ x ∈ m := by rw [mem_getK]; simp
  rw [← a, e, b]

theorem getK_drop (k j : List UInt8) (l : List α) : getK key k (dropK key j l) = if k = j then [] else getK key k l := by
  unfold getK dropK
  rw [List.filter_filter]
  split
  · rename_i e
    subst e
    rw [List.filter_eq_nil_iff]
    intro x _
    simp
  · rename_i e
    apply List.filter_congr
    intro x _
    by_cases hx : key x = k
    · simp [hx, e]
    · simp [hx]

theorem getK_put {a : α} {l : List α} (h : Rise key l) (k : List UInt8) : getK key k (putK key a l) = if k = key a then [a] else getK key k l := by
  have hp := rise_putK (a := a) h
  split
  · rename_i e
    subst e
    exact getK_at hp ((mem_putK h a).2 (.inl rfl))
  · rename_i e
    rcases getK_cases h k with ⟨e1, h1⟩ | ⟨x, hx, hk, e1⟩
    · rw [e1]
      refine getK_no (fun x hx => ?_)
      rcases (mem_putK h x).1 hx with rfl | ⟨hx, _⟩
      · exact fun h => e h.symm
      · exact h1 x hx
    · rw [e1]
      have hne : key x ≠ key a := fun h => e (hk.symm.trans h)
      have := getK_at hp ((mem_putK h x).2 (.inr ⟨hx, hne⟩))
      rwa [hk] at this
end

/-! ### All keys, rising -/

def keysL (l : List DD) : List (List UInt8) := l.foldl (fun s d => putK id (keyD d) s) []

theorem keys_fold : ∀ (l : List DD) (s : List (List UInt8)), Rise id s → Rise id (l.foldl (fun s d => putK id (keyD d) s) s) ∧ ∀ k, k ∈ l.foldl (fun s d => putK id (keyD d) s) s ↔ k ∈ s ∨ ∃ d ∈ l, keyD d = k
  | [], s, h => ⟨h, by simp⟩
  | d :: r, s, h => by
    rw [List.foldl_cons]
    obtain ⟨h1, h2⟩ := keys_fold r (putK id (keyD d) s) (rise_putK h)
    refine ⟨h1, fun k => ?_⟩
    rw [h2, mem_putK h]
    simp only [id, List.mem_cons]
    constructor
    · rintro ((rfl | ⟨hk, _⟩) | ⟨x, hx, rfl⟩)
      · exact .inr ⟨d, .inl rfl, rfl⟩
      · exact .inl hk
      · exact .inr ⟨x, .inr hx, rfl⟩
    · rintro (hk | ⟨x, rfl | hx, rfl⟩)
      · by_cases e : k = keyD d
        · exact .inl (.inl e)
        · exact .inl (.inr ⟨hk, e⟩)
      · exact .inl (.inl rfl)
      · exact .inr ⟨x, hx, rfl⟩

theorem rise_keys (l : List DD) : Rise id (keysL l) := (keys_fold l [] List.Pairwise.nil).1
theorem mem_keys {l : List DD} {k : List UInt8} : k ∈ keysL l ↔ ∃ d ∈ l, keyD d = k := by
  rw [keysL, (keys_fold l [] List.Pairwise.nil).2]
  simp

theorem keys_ext {l : List DD} {s : List (List UInt8)} (hs : Rise id s) (h : ∀ k, k ∈ s ↔ ∃ d ∈ l, keyD d = k) : s = keysL l :=
  rise_ext hs (rise_keys l) (fun k => by rw [h, mem_keys])

theorem keys_comm (a b : List DD) : keysL (a ++ b) = keysL (b ++ a) :=
  rise_ext (rise_keys _) (rise_keys _) (fun k => by rw [mem_keys, mem_keys]; simp only [List.mem_append, or_comm])

theorem rise_snoc {s : List (List UInt8)} {k : List UInt8} (h : Rise id s) (hk : ∀ x ∈ s, x < k) : Rise id (s ++ [k]) := by
  unfold Rise at h ⊢
  rw [List.pairwise_append]
  exact ⟨h, by simp, fun a ha b hb => by rw [List.mem_singleton] at hb; subst hb; exact hk a ha⟩

/-! ### Patches -/

structure ED where
  key : List UInt8
  old : List DD
  new : List DD
deriving DecidableEq

def zeroE : ED := ⟨[], [], []⟩

def edK (a b : List DD) (k : List UInt8) : Option ED := if getK keyD k a = getK keyD k b then none else some ⟨k, getK keyD k a, getK keyD k b⟩

/-- The patch from a to b. -/
def ofL (a b : List DD) : List ED := (keysL (a ++ b)).filterMap (edK a b)

/-- One edit of it. -/
def isEd (a b : List DD) (e : ED) : Prop := e.old = getK keyD e.key a ∧ e.new = getK keyD e.key b ∧ e.old ≠ e.new

theorem edK_some {a b : List DD} {k : List UInt8} {e : ED} : edK a b k = some e ↔ e.key = k ∧ isEd a b e := by
  obtain ⟨ek, eo, en⟩ := e
  unfold edK isEd
  dsimp only
  by_cases h : getK keyD k a = getK keyD k b
  · rw [if_pos h]
    simp only [reduceCtorEq, false_iff, not_and]
    rintro rfl rfl rfl hne
    exact hne h
  · rw [if_neg h]
    constructor
    · intro e
      simp only [Option.some.injEq, ED.mk.injEq] at e
      obtain ⟨rfl, rfl, rfl⟩ := e
      exact ⟨rfl, rfl, rfl, h⟩
    · rintro ⟨rfl, rfl, rfl, _⟩
      rfl

theorem mem_ofL {a b : List DD} {e : ED} : e ∈ ofL a b ↔ isEd a b e := by
  unfold ofL
  rw [List.mem_filterMap]
  constructor
  · rintro ⟨k, _, h⟩
    exact (edK_some.1 h).2
  · intro h
    refine ⟨e.key, ?_, edK_some.2 ⟨rfl, h⟩⟩
    rw [mem_keys]
    obtain ⟨h1, h2, h3⟩ := h
    by_cases ha : getK keyD e.key a = []
    · by_cases hb : getK keyD e.key b = []
      · rw [ha] at h1; rw [hb] at h2; exact (h3 (h1.trans h2.symm)).elim
      · obtain ⟨x, hx⟩ := List.exists_mem_of_ne_nil _ hb
        obtain ⟨x1, x2⟩ := mem_getK.1 hx
        exact ⟨x, by simp [x1], x2⟩
    · obtain ⟨x, hx⟩ := List.exists_mem_of_ne_nil _ ha
      obtain ⟨x1, x2⟩ := mem_getK.1 hx
      exact ⟨x, by simp [x1], x2⟩

theorem fm_congr {f g : List UInt8 → Option ED} : ∀ {s : List (List UInt8)}, (∀ j ∈ s, f j = g j) → s.filterMap f = s.filterMap g
  | [], _ => rfl
  | j :: r, h => by
    have ih := fm_congr (f := f) (g := g) (s := r) (fun i hi => h i (by simp [hi]))
    have e := h j (by simp)
    rw [List.filterMap_cons, List.filterMap_cons, e, ih]

theorem rise_fm {a b : List DD} : ∀ {s : List (List UInt8)}, Rise id s → Rise ED.key (s.filterMap (edK a b))
  | [], _ => List.Pairwise.nil
  | k :: r, h => by
    obtain ⟨h1, h2⟩ := rise_cons.1 h
    have ih := rise_fm (a := a) (b := b) h2
    rw [List.filterMap_cons]
    split
    · exact ih
    · rename_i e he
      refine rise_cons.2 ⟨fun x hx => ?_, ih⟩
      obtain ⟨j, hj, hx⟩ := List.mem_filterMap.1 hx
      rw [(edK_some.1 he).1, (edK_some.1 hx).1]
      exact h1 j hj

theorem rise_ofL (a b : List DD) : Rise ED.key (ofL a b) := rise_fm (rise_keys _)

/-- What is by rising keys and has just these edits is the patch. -/
theorem ofL_ext {a b : List DD} {p : List ED} (hp : Rise ED.key p) (h : ∀ e, e ∈ p ↔ isEd a b e) : p = ofL a b :=
  rise_ext hp (rise_ofL a b) (fun e => by rw [h, mem_ofL])

theorem ofL_no {a b : List DD} {k : List UInt8} (h : ∀ e ∈ ofL a b, e.key ≠ k) : getK keyD k a = getK keyD k b := by
  by_cases hk : getK keyD k a = getK keyD k b
  · exact hk
  · exact (h ⟨k, getK keyD k a, getK keyD k b⟩ (mem_ofL.2 ⟨rfl, rfl, hk⟩) rfl).elim

/-- One key more, behind all others. -/
theorem ofL_snoc {a b x y : List DD} {k : List UInt8} (ha : ∀ d ∈ a, keyD d < k) (hb : ∀ d ∈ b, keyD d < k) (hx : ∀ d ∈ x, keyD d = k) (hy : ∀ d ∈ y, keyD d = k) (hne : ¬ (x = [] ∧ y = [])) :
    ofL (a ++ x) (b ++ y) = ofL a b ++ (if x = y then [] else [⟨k, x, y⟩]) := by
  have hkey : keysL ((a ++ x) ++ (b ++ y)) = keysL (a ++ b) ++ [k] := by
    refine (keys_ext (rise_snoc (rise_keys _) (fun j hj => ?_)) (fun j => ?_)).symm
    · obtain ⟨d, hd, rfl⟩ := mem_keys.1 hj
      rcases List.mem_append.1 hd with h | h
      · exact ha d h
      · exact hb d h
    · rw [List.mem_append, mem_keys, List.mem_singleton]
      constructor
      · rintro (⟨d, hd, rfl⟩ | rfl)
        · refine ⟨d, ?_, rfl⟩
          simp only [List.mem_append] at hd ⊢
          rcases hd with h | h
          · exact .inl (.inl h)
          · exact .inr (.inl h)
        · cases x with
          | cons d r => exact ⟨d, by simp, hx d (by simp)⟩
          | nil => cases y with
            | cons d r => exact ⟨d, by simp, hy d (by simp)⟩
            | nil => exact (hne ⟨rfl, rfl⟩).elim
      · rintro ⟨d, hd, rfl⟩
        simp only [List.mem_append] at hd
        rcases hd with (h | h) | (h | h)
        · exact .inl ⟨d, by simp [h], rfl⟩
        · exact .inr (hx d h)
        · exact .inl ⟨d, by simp [h], rfl⟩
        · exact .inr (hy d h)
  have g1 : ∀ {l z : List DD} {j : List UInt8}, (∀ d ∈ z, keyD d = k) → j ≠ k → getK keyD j (l ++ z) = getK keyD j l := fun hz hj => by
    rw [getK_app, getK_no (l := _) (fun d hd e => hj (e.symm.trans (hz d hd))), List.append_nil]
  have g2 : ∀ {l z : List DD}, (∀ d ∈ l, keyD d < k) → (∀ d ∈ z, keyD d = k) → getK keyD k (l ++ z) = z := fun hl hz => by
    rw [getK_app, getK_no (fun d hd => lt_ne (hl d hd)), getK_all hz, List.nil_append]
  unfold ofL
  rw [hkey, List.filterMap_append]
  congr 1
  · refine fm_congr (fun j hj => ?_)
    have hjk : j ≠ k := by
      obtain ⟨d, hd, rfl⟩ := mem_keys.1 hj
      rcases List.mem_append.1 hd with h | h
      · exact lt_ne (ha d h)
      · exact lt_ne (hb d h)
    unfold edK
    rw [g1 hx hjk, g1 hy hjk]
  · unfold edK
    rw [List.filterMap_cons, g2 ha hx, g2 hb hy]
    by_cases e : x = y
    · simp [e]
    · simp [e]

/-! ### Valid patches -/

def sideB (l : List DD) (k : List UInt8) : Bool := decide (l.length ≤ 1) && l.all (fun d => keyD d == k)
def rightE (e : ED) : Bool := (splitD e.key).2.2 && sideB e.old e.key && sideB e.new e.key && !decide (e.old = e.new)
def rightAt (p : List ED) (i : Nat) : Bool := rightE (p.getD i zeroE) && (decide (i = 0) || decide ((p.getD (i - 1) zeroE).key < (p.getD i zeroE).key))
def rightTo (p : List ED) (n : Nat) : Bool := (List.range n).all (rightAt p)
def rightP (p : List ED) : Bool := rightTo p p.length

theorem rightTo_succ (p : List ED) (n : Nat) : rightTo p (n + 1) = (rightTo p n && rightAt p n) := by
  unfold rightTo
  rw [List.range_succ, List.all_append]
  simp

theorem rightP_no {p : List ED} {i : Nat} (h : i < p.length) (hn : rightAt p i = false) : rightP p = false := by
  unfold rightP rightTo
  rw [List.all_eq_false]
  exact ⟨i, List.mem_range.2 h, by simp [hn]⟩

theorem rightAt_lt {p : List ED} {i : Nat} (h : i < p.length) : rightAt p i = (rightE p[i] && (decide (i = 0) || decide ((p.getD (i - 1) zeroE).key < p[i].key))) := by
  unfold rightAt
  have e : p.getD i zeroE = p[i] := by rw [List.getD_eq_getElem?_getD, List.getElem?_eq_getElem h]; rfl
  rw [e]

theorem rightP_iff {p : List ED} : rightP p = true ↔ (∀ e ∈ p, rightE e = true) ∧ Rise ED.key p := by
  have hg : ∀ i (h : i < p.length), p.getD i zeroE = p[i] := fun i h => by rw [List.getD_eq_getElem?_getD, List.getElem?_eq_getElem h]; rfl
  unfold rightP rightTo
  rw [List.all_eq_true]
  simp only [List.mem_range]
  constructor
  · intro h
    have h1 : ∀ i (hi : i < p.length), rightE p[i] = true ∧ (i = 0 ∨ (p.getD (i - 1) zeroE).key < p[i].key) := fun i hi => by
      have := h i hi
      rw [rightAt_lt hi] at this
      simpa using this
    refine ⟨fun e he => ?_, ?_⟩
    · obtain ⟨i, hi, rfl⟩ := List.getElem_of_mem he
      exact (h1 i hi).1
    · unfold Rise
      rw [List.pairwise_iff_getElem]
      have hs : ∀ n i j (_ : j = i + n + 1) (hi : i < p.length) (hj : j < p.length), p[i].key < p[j].key := by
        intro n
        induction n with
        | zero =>
          rintro i j rfl hi hj
          have := ((h1 _ hj).2.resolve_left (by omega))
          rw [hg _ (by omega)] at this
          exact this
        | succ n ih =>
          rintro i j rfl hi hj
          have e1 := ih i (i + n + 1) rfl hi (by omega)
          have e2 := ((h1 _ hj).2.resolve_left (by omega))
          rw [hg _ (by omega)] at e2
          exact lt_tr e1 e2
      intro i j hi hj hij
      exact hs (j - i - 1) i j (by omega) hi hj
  · rintro ⟨h1, h2⟩ i hi
    rw [rightAt_lt hi]
    simp only [Bool.and_eq_true, Bool.or_eq_true, decide_eq_true_eq]
    refine ⟨h1 _ (List.getElem_mem hi), ?_⟩
    by_cases h0 : i = 0
    · exact .inl h0
    · right
      rw [hg _ (by omega)]
      unfold Rise at h2
      rw [List.pairwise_iff_getElem] at h2
      exact h2 (i - 1) i (by omega) hi (by omega)

theorem sideB_iff {l : List DD} {k : List UInt8} : sideB l k = true ↔ l.length ≤ 1 ∧ ∀ d ∈ l, keyD d = k := by
  unfold sideB
  simp

theorem rightE_iff {e : ED} : rightE e = true ↔ (splitD e.key).2.2 = true ∧ sideB e.old e.key = true ∧ sideB e.new e.key = true ∧ e.old ≠ e.new := by
  unfold rightE
  simp [and_assoc]

/-- A side that is valid: none, or one of that key. -/
theorem side_cases {l : List DD} {k : List UInt8} (h : sideB l k = true) : l = [] ∨ ∃ d, l = [d] ∧ keyD d = k := by
  obtain ⟨h1, h2⟩ := sideB_iff.1 h
  match l, h1, h2 with
  | [], _, _ => exact .inl rfl
  | [d], _, h2 => exact .inr ⟨d, rfl, h2 d (by simp)⟩
  | _ :: _ :: _, h1, _ => simp at h1

/-! ### Those that fit, and what they make -/

def fitsP (l : List DD) (p : List ED) : Bool := p.all (fun e => decide (getK keyD e.key l = e.old)) && rightP p

def appS (l : List DD) (e : ED) : List DD := e.new.foldl (fun o d => putK keyD d o) (dropK keyD e.key l)
def appP (l : List DD) (p : List ED) : List DD := p.foldl appS l
def applyP (l : List DD) (p : List ED) : Int × List DD :=
  if rightP p = false then (32, []) else if fitsP l p = false then (75, []) else if 500 < (appP l p).length then (21, []) else (0, appP l p)

theorem appS_one {l : List DD} {e : ED} (hl : Rise keyD l) (hs : sideB e.new e.key = true) : Rise keyD (appS l e) ∧ ∀ k, getK keyD k (appS l e) = if k = e.key then e.new else getK keyD k l := by
  unfold appS
  have hd := rise_dropK (k := e.key) hl
  rcases side_cases hs with h | ⟨d, h, hk⟩
  · rw [h]
    exact ⟨hd, fun k => getK_drop k e.key l⟩
  · rw [h]
    refine ⟨rise_putK hd, fun k => ?_⟩
    show getK keyD k (putK keyD d (dropK keyD e.key l)) = _
    rw [getK_put hd, hk, getK_drop]
    split
    · rfl
    · rfl

theorem appP_spec : ∀ {p : List ED} {l : List DD}, Rise keyD l → (∀ e ∈ p, sideB e.new e.key = true) → Rise ED.key p → Rise keyD (appP l p) ∧ (∀ e ∈ p, getK keyD e.key (appP l p) = e.new) ∧ ∀ k, (∀ e ∈ p, e.key ≠ k) → getK keyD k (appP l p) = getK keyD k l
  | [], l, hl, _, _ => ⟨hl, by simp, fun _ _ => rfl⟩
  | e :: p, l, hl, hs, hp => by
    obtain ⟨p1, p2⟩ := rise_cons.1 hp
    obtain ⟨a1, a2⟩ := appS_one hl (hs e (by simp))
    obtain ⟨b1, b2, b3⟩ := appP_spec a1 (fun x hx => hs x (by simp [hx])) p2
    refine ⟨b1, fun x hx => ?_, fun k hk => ?_⟩
    · rcases List.mem_cons.1 hx with rfl | hx
      · show getK keyD x.key (appP (appS l x) p) = _
        rw [b3 x.key (fun y hy => (lt_ne (p1 y hy)).symm), a2, if_pos rfl]
      · exact b2 x hx
    · show getK keyD k (appP (appS l e) p) = _
      rw [b3 k (fun y hy => hk y (by simp [hy])), a2, if_neg (fun h => hk e (by simp) h.symm)]

/-! ### The laws of patches -/

/-- A snapshot's list. -/
structure Snp (l : List DD) : Prop where
  rise : Rise keyD l
  right : ∀ d ∈ l, rightD d = true

theorem ofL_rightE {a b : List DD} (ha : Snp a) (hb : Snp b) {e : ED} (he : e ∈ ofL a b) : rightE e = true := by
  obtain ⟨h1, h2, h3⟩ := mem_ofL.1 he
  have hsd : ∀ {l : List DD}, Snp l → sideB (getK keyD e.key l) e.key = true := fun hl => sideB_iff.2 ⟨getK_len hl.rise _, fun d hd => (mem_getK.1 hd).2⟩
  have hsp : ∀ {l : List DD}, Snp l → getK keyD e.key l ≠ [] → (splitD e.key).2.2 = true := fun hl hn => by
    obtain ⟨x, hx⟩ := List.exists_mem_of_ne_nil _ hn
    obtain ⟨x1, x2⟩ := mem_getK.1 hx
    rw [← x2, split_key (hl.right x x1)]
  refine rightE_iff.2 ⟨?_, by rw [h1]; exact hsd ha, by rw [h2]; exact hsd hb, h3⟩
  by_cases h : getK keyD e.key a = []
  · exact hsp hb (fun h' => h3 (by rw [h1, h2, h, h']))
  · exact hsp ha h

theorem ofL_right {a b : List DD} (ha : Snp a) (hb : Snp b) : rightP (ofL a b) = true := rightP_iff.2 ⟨fun _ he => ofL_rightE ha hb he, rise_ofL a b⟩

theorem ofL_fits {a b : List DD} (ha : Snp a) (hb : Snp b) : fitsP a (ofL a b) = true := by
  unfold fitsP
  rw [ofL_right ha hb, Bool.and_true, List.all_eq_true]
  intro e he
  exact decide_eq_true (mem_ofL.1 he).1.symm

theorem ofL_app {a b : List DD} (ha : Snp a) (hb : Snp b) : appP a (ofL a b) = b := by
  have hs : ∀ e ∈ ofL a b, sideB e.new e.key = true := fun e he => (rightE_iff.1 (ofL_rightE ha hb he)).2.2.1
  obtain ⟨h1, h2, h3⟩ := appP_spec (l := a) ha.rise hs (rise_ofL a b)
  refine getK_ext h1 hb.rise (fun k => ?_)
  by_cases hk : ∀ e ∈ ofL a b, e.key ≠ k
  · rw [h3 k hk, ofL_no hk]
  · obtain ⟨e, he, hek⟩ : ∃ e ∈ ofL a b, e.key = k := by
      apply Classical.byContradiction
      intro hn
      exact hk (fun e he hek => hn ⟨e, he, hek⟩)
    subst hek
    rw [h2 e he]
    exact (mem_ofL.1 he).2.1

theorem ofL_apply {a b : List DD} (ha : Snp a) (hb : Snp b) (hn : b.length ≤ 500) : applyP a (ofL a b) = (0, b) := by
  unfold applyP
  rw [ofL_right ha hb, ofL_fits ha hb, ofL_app ha hb, if_neg (by simp), if_neg (by simp), if_neg (by omega)]

def turnE (e : ED) : ED := ⟨e.key, e.new, e.old⟩
def turnP (p : List ED) : List ED := p.map turnE

theorem turn_turn (p : List ED) : turnP (turnP p) = p := by
  unfold turnP
  rw [List.map_map]
  exact List.map_id p

theorem turn_len (p : List ED) : (turnP p).length = p.length := by simp [turnP]

theorem turn_ofL (a b : List DD) : turnP (ofL a b) = ofL b a := by
  refine ofL_ext ?_ (fun e => ?_)
  · unfold turnP Rise
    rw [List.pairwise_map]
    exact rise_ofL a b
  · unfold turnP
    rw [List.mem_map]
    constructor
    · rintro ⟨x, hx, rfl⟩
      obtain ⟨h1, h2, h3⟩ := mem_ofL.1 hx
      exact ⟨h2, h1, fun h => h3 h.symm⟩
    · rintro ⟨h1, h2, h3⟩
      exact ⟨turnE e, mem_ofL.2 ⟨h2, h1, fun h => h3 h.symm⟩, rfl⟩

theorem turn_rightE (e : ED) : rightE (turnE e) = rightE e := by
  rw [Bool.eq_iff_iff, rightE_iff, rightE_iff]
  unfold turnE
  constructor
  · rintro ⟨h1, h2, h3, h4⟩; exact ⟨h1, h3, h2, fun h => h4 h.symm⟩
  · rintro ⟨h1, h2, h3, h4⟩; exact ⟨h1, h3, h2, fun h => h4 h.symm⟩

theorem turn_right (p : List ED) : rightP (turnP p) = rightP p := by
  rw [Bool.eq_iff_iff, rightP_iff, rightP_iff]
  have e1 : (∀ e ∈ turnP p, rightE e = true) ↔ ∀ e ∈ p, rightE e = true := by
    unfold turnP
    simp only [List.mem_map, forall_exists_index, and_imp, forall_apply_eq_imp_iff₂, turn_rightE]
  have e2 : Rise ED.key (turnP p) ↔ Rise ED.key p := by
    unfold turnP Rise
    rw [List.pairwise_map]
    exact Iff.rfl
  rw [e1, e2]

theorem fitsP_iff {l : List DD} {p : List ED} : fitsP l p = true ↔ (∀ e ∈ p, getK keyD e.key l = e.old) ∧ rightP p = true := by
  unfold fitsP
  rw [Bool.and_eq_true, List.all_eq_true]
  simp only [decide_eq_true_eq]

/-- A valid patch that fits is that from a to what it makes. -/
theorem fits_ofL {a : List DD} {p : List ED} (ha : Rise keyD a) (h : fitsP a p = true) : ofL a (appP a p) = p := by
  obtain ⟨f1, f2⟩ := fitsP_iff.1 h
  obtain ⟨r1, r2⟩ := rightP_iff.1 f2
  obtain ⟨h1, h2, h3⟩ := appP_spec (l := a) ha (fun e he => (rightE_iff.1 (r1 e he)).2.2.1) r2
  refine (ofL_ext r2 (fun e => ?_)).symm
  constructor
  · intro he
    exact ⟨(f1 e he).symm, (h2 e he).symm, (rightE_iff.1 (r1 e he)).2.2.2⟩
  · rintro ⟨e1, e2, e3⟩
    by_cases hk : ∀ x ∈ p, x.key ≠ e.key
    · rw [h3 _ hk] at e2
      exact (e3 (e1.trans e2.symm)).elim
    · obtain ⟨x, hx, hxk⟩ : ∃ x ∈ p, x.key = e.key := by
        apply Classical.byContradiction
        intro hn
        exact hk (fun x hx hxk => hn ⟨x, hx, hxk⟩)
      have : x = e := by
        obtain ⟨xk, xo, xn⟩ := x
        obtain ⟨ek, eo, en⟩ := e
        dsimp only at hxk e1 e2
        subst hxk
        have g1 := f1 _ hx
        have g2 := h2 _ hx
        dsimp only at g1 g2
        rw [e1, g1, e2, g2]
      rw [← this]
      exact hx

/-- What a valid patch makes of a snapshot's list is one, but for its length. -/
theorem app_snp {a : List DD} {p : List ED} (ha : Snp a) (h : rightP p = true) : Snp (appP a p) := by
  obtain ⟨r1, r2⟩ := rightP_iff.1 h
  have hs : ∀ e ∈ p, sideB e.new e.key = true := fun e he => (rightE_iff.1 (r1 e he)).2.2.1
  obtain ⟨h1, h2, h3⟩ := appP_spec (l := a) ha.rise hs r2
  refine ⟨h1, fun d hd => ?_⟩
  have hm : d ∈ getK keyD (keyD d) (appP a p) := mem_getK.2 ⟨hd, rfl⟩
  by_cases hk : ∀ x ∈ p, x.key ≠ keyD d
  · rw [h3 _ hk] at hm
    exact ha.right d (mem_getK.1 hm).1
  · obtain ⟨x, hx, hxk⟩ : ∃ x ∈ p, x.key = keyD d := by
      apply Classical.byContradiction
      intro hn
      exact hk (fun x hx hxk => hn ⟨x, hx, hxk⟩)
    cases hr : rightD d with
    | true => rfl
    | false =>
      have hsp := (rightE_iff.1 (r1 x hx)).1
      rw [hxk, (keyD_iff d).2 hr, show splitD [] = ([], [], false) by decide +kernel] at hsp
      cases hsp

end Go.Mk

/-
  EDITS as they lie in memory: a key and two rows of definitions each.
-/
namespace Go.Proofs.YtjnpmbdehalmpaaGreat
open Go.RowKit Go.Mk Go.Maps

/-- A slice of definitions: its address, its room, what is there. -/
structure SD where
  ao : Option Addr
  cap : Nat
  es : List Ent

def SD.val (s : SD) : Value := .slice s.ao s.es.length s.cap

structure EE where
  key : List UInt8
  old : SD
  new : SD

def edE (e : EE) : ED := ⟨e.key, dds e.old.es, dds e.new.es⟩
def eds (p : List EE) : List ED := p.map edE
theorem eds_len (p : List EE) : (eds p).length = p.length := by simp [eds]
theorem eds_get (p : List EE) (j : Nat) (h : j < p.length) : (eds p)[j]'(by rw [eds_len]; exact h) = edE p[j] := by simp [eds]
theorem eds_take (p : List EE) (j : Nat) (h : j < p.length) : (eds p).take (j + 1) = (eds p).take j ++ [edE p[j]] := by
  rw [List.take_add_one, List.getElem?_eq_getElem (by rw [eds_len]; exact h), eds_get p j h]; rfl
theorem eds_getD (p : List EE) (j : Nat) (h : j < p.length) : (eds p).getD j zeroE = edE p[j] := by
  rw [List.getD_eq_getElem?_getD, List.getElem?_eq_getElem (by rw [eds_len]; exact h), eds_get p j h]; rfl

def cellsP1 (e : EE) : List Value := [.string (bs e.key), .slice e.old.ao e.old.es.length e.old.cap, .slice e.new.ao e.new.es.length e.new.cap]
def cellsP (p : List EE) : List Value := p.flatMap cellsP1

theorem cellsP_snoc (p : List EE) (e : EE) : cellsP (p ++ [e]) = cellsP p ++ cellsP1 e := by simp [cellsP]

theorem cellsP_get : ∀ (p : List EE) (j : Nat) (h : j < p.length) (i : Nat) (u : Value), (cellsP1 p[j])[i]? = some u → (cellsP p)[j * 3 + i]? = some u
  | [], j, h, _, _, _ => by simp at h
  | e :: es, 0, _, i, u, hu => by
    have hi : i < 3 := by have := (List.getElem?_eq_some_iff.1 hu).1; simpa [cellsP1] using this
    rw [cellsP, List.flatMap_cons, List.getElem?_append_left (by simp [cellsP1]; omega)]
    simpa using hu
  | e :: es, j + 1, h, i, u, hu => by
    have := cellsP_get es j (by simpa using h) i u (by simpa using hu)
    rw [cellsP, List.flatMap_cons, List.getElem?_append_right (by simp [cellsP1]; omega)]
    rw [show (j + 1) * 3 + i - (cellsP1 e).length = j * 3 + i by simp [cellsP1]; omega]
    exact this

/-- An edit's cells. -/
structure Eo (w : World) (b o : Nat) (e : EE) : Prop where
  c0 : w.cell? ⟨b, o, none⟩ = some (.string (bs e.key))
  c1 : w.cell? ⟨b, o + 1, none⟩ = some (.slice e.old.ao e.old.es.length e.old.cap)
  c2 : w.cell? ⟨b, o + 2, none⟩ = some (.slice e.new.ao e.new.es.length e.new.cap)

theorem Eo.kept {S : Nat → Prop} {w w' : World} {b o : Nat} {e : EE} (h : Eo w b o e) (hk : Kept S w w') (hb : ¬ S b) : Eo w' b o e := by
  have hlt : b < w.heap.size := World.block_lt_of_cell? _ _ h.c0
  exact ⟨(hk.cell (p := ⟨b, o, none⟩) hlt hb).trans h.c0, (hk.cell (p := ⟨b, o + 1, none⟩) hlt hb).trans h.c1, (hk.cell (p := ⟨b, o + 2, none⟩) hlt hb).trans h.c2⟩

/-- A slice of definitions lies there. -/
structure SDs (w : World) (B : Nat) (s : SD) : Prop where
  ds : Ds w B s.ao s.es
  cap : s.es.length ≤ s.cap

theorem SDs.keep {w w' : World} {B : Nat} {s : SD} (h : SDs w B s) (hk : Kept (fun _ => False) w w') : SDs w' B s := ⟨h.ds.keep hk, h.cap⟩
theorem SDs.kept {S : Nat → Prop} {w w' : World} {B : Nat} {s : SD} (h : SDs w B s) (hk : Kept S w w') (hS : ∀ k, k < B → ¬ S k) : SDs w' B s := ⟨h.ds.kept hk hS, h.cap⟩
theorem SDs.mono {w : World} {B B' : Nat} {s : SD} (h : SDs w B s) (hB : B ≤ B') : SDs w B' s := ⟨h.ds.mono hB, h.cap⟩
theorem SDs.nil (w : World) (B : Nat) (ao : Option Addr) (cap : Nat) : SDs w B ⟨ao, cap, []⟩ := ⟨⟨fun h => (h rfl).elim, fun e he => absurd he List.not_mem_nil⟩, Nat.zero_le _⟩

/-- A patch in a row behind an address. -/
structure Es (w : World) (B : Nat) (pa : Option Addr) (p : List EE) : Prop where
  row : p ≠ [] → ∃ b off, pa = some ⟨b, off, none⟩ ∧ b < B ∧ ∀ j (h : j < p.length), Eo w b (off + j * 3) p[j]
  lies : ∀ e ∈ p, SDs w B e.old ∧ SDs w B e.new

theorem Es.kept {S : Nat → Prop} {w w' : World} {B : Nat} {pa : Option Addr} {p : List EE} (h : Es w B pa p) (hk : Kept S w w') (hS : ∀ k, k < B → ¬ S k) : Es w' B pa p := by
  refine ⟨fun hn => ?_, fun e he => ⟨(h.lies e he).1.kept hk hS, (h.lies e he).2.kept hk hS⟩⟩
  obtain ⟨b, off, e, hb, hc⟩ := h.row hn
  exact ⟨b, off, e, hb, fun j hj => (hc j hj).kept hk (hS b hb)⟩

theorem Es.keep {w w' : World} {B : Nat} {pa : Option Addr} {p : List EE} (h : Es w B pa p) (hk : Kept (fun _ => False) w w') : Es w' B pa p := h.kept hk (fun _ _ h => h)

theorem Es.mono {w : World} {B B' : Nat} {pa : Option Addr} {p : List EE} (h : Es w B pa p) (hB : B ≤ B') : Es w B' pa p := by
  refine ⟨fun hn => ?_, fun e he => ⟨(h.lies e he).1.mono hB, (h.lies e he).2.mono hB⟩⟩
  obtain ⟨b, off, e, hb, hc⟩ := h.row hn
  exact ⟨b, off, e, Nat.lt_of_lt_of_le hb hB, hc⟩

theorem Es.nil (w : World) (B : Nat) (pa : Option Addr) : Es w B pa [] := ⟨fun h => (h rfl).elim, fun e he => absurd he List.not_mem_nil⟩

/-- A new row of edits. -/
def EsQ (w : World) (p : List ED) (e : Ending) (w' : World) : Prop := ∃ pa pc q, e = .returned (.slice pa q.length pc) ∧ eds q = p ∧ Es w' w'.heap.size pa q ∧ Kept (fun _ => False) w w'

/-- A list of definitions. -/
def DsQ (w : World) (l : List DD) (e : Ending) (w' : World) : Prop := ∃ s : SD, e = .returned s.val ∧ dds s.es = l ∧ SDs w' w'.heap.size s ∧ Kept (fun _ => False) w w'

end Go.Proofs.YtjnpmbdehalmpaaGreat
