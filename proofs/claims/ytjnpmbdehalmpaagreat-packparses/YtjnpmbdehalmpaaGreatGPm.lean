/-
  Lemmas towards the claim of this folder: contracts of the functions that the law reaches; joined texts.
-/
import Derived.Test.YtjnpmbdehalmpaaGreatGMk
import Derived.Lib.IndexMore
/-
  DEFINITIONS over lists (plain, over no program): valid ones, their keys, a key's parts, their encoding and how it is read.
-/
namespace Go.Mk

structure DD where
  k : Int
  c : List UInt8
  p : List UInt8
  vs : List (List UInt8)
  s : List UInt8
  t : List UInt8
deriving DecidableEq

def zeroD : DD := ⟨0, [], [], [], [], []⟩

/-- The i-th is a variable name, and none before it is the same. -/
def varAt (vs : List (List UInt8)) (i : Nat) : Bool := isVa (vs.getD i []) && !(vs.take i).contains (vs.getD i [])
def varsTo (vs : List (List UInt8)) (n : Nat) : Bool := (List.range n).all (varAt vs)
def varsL (vs : List (List UInt8)) : Bool := varsTo vs vs.length
def areVars (vs : List (List UInt8)) : Bool := decide (vs.length ≤ 20) && varsL vs

def ownCl (l : List UInt8) : Bool := isCl l && !builtins.contains l
def isSel (l : List UInt8) : Bool := decide (kindL l ≠ 0)

def rightC (d : DD) : Bool := ownCl d.c && isCl d.p && areVars d.vs && d.s.isEmpty && d.t.isEmpty
def rightM (d : DD) : Bool := isCl d.c && isSel d.s && decide (d.t.length ≤ 4000) && d.p.isEmpty && d.vs.isEmpty
def rightD (d : DD) : Bool := if d.k = 1 then rightC d else if d.k = 2 then rightM d else false

def keyD (d : DD) : List UInt8 := if rightD d = true then (if d.k = 2 then d.c ++ [62, 62] ++ d.s else d.c) else []

def splitC (r : List UInt8 × List UInt8 × Bool) : List UInt8 × List UInt8 × Bool :=
  if r.2.2 = true then (if (isCl r.1 && isSel r.2.1) = true then (r.1, r.2.1, true) else ([], [], false)) else if ownCl r.1 = true then (r.1, [], true) else ([], [], false)
def splitD (l : List UInt8) : List UInt8 × List UInt8 × Bool := splitC (Lib.cut l [62, 62])

/-- All fields are equal. -/
def sameB (a b : DD) : Bool := a.k == b.k && a.c == b.c && a.p == b.p && a.vs == b.vs && a.s == b.s && a.t == b.t

theorem sameB_iff (a b : DD) : sameB a b = true ↔ a = b := by
  obtain ⟨k, c, p, vs, s, t⟩ := a
  obtain ⟨k', c', p', vs', s', t'⟩ := b
  simp [sameB, and_assoc]

theorem sameB_refl (a : DD) : sameB a a = true := (sameB_iff a a).2 rfl

theorem varsTo_succ (vs : List (List UInt8)) (n : Nat) : varsTo vs (n + 1) = (varsTo vs n && varAt vs n) := by
  unfold varsTo
  rw [List.range_succ, List.all_append]
  simp

theorem varAt_lt {vs : List (List UInt8)} {i : Nat} (h : i < vs.length) : varAt vs i = (isVa vs[i] && !(vs.take i).contains vs[i]) := by
  unfold varAt
  rw [List.getD_eq_getElem?_getD, List.getElem?_eq_getElem h]
  rfl

theorem varsL_no {vs : List (List UInt8)} {i : Nat} (h : i < vs.length) (hn : varAt vs i = false) : varsL vs = false := by
  unfold varsL varsTo
  rw [List.all_eq_false]
  exact ⟨i, List.mem_range.2 h, by simp [hn]⟩

theorem rightD_one {d : DD} (h : d.k = 1) : rightD d = rightC d := by simp [rightD, h]
theorem rightD_two {d : DD} (h : d.k = 2) : rightD d = rightM d := by simp [rightD, h]
theorem rightD_no {d : DD} (h : d.k ≠ 1) (h2 : d.k ≠ 2) : rightD d = false := by simp [rightD, h, h2]

theorem right_kind {d : DD} (h : rightD d = true) : d.k = 1 ∨ d.k = 2 := by
  by_cases h1 : d.k = 1
  · exact .inl h1
  · by_cases h2 : d.k = 2
    · exact .inr h2
    · rw [rightD_no h1 h2] at h; cases h

end Go.Mk

/-
  LISTS BY RISING KEYS (plain, over no program): put, drop, find; the reference's Put; the first error of New.
-/
namespace Go.Mk

theorem lt_irr (a : List UInt8) : ¬ a < a := List.lt_irrefl a
theorem lt_tr {a b c : List UInt8} (h : a < b) (k : b < c) : a < c := List.lt_trans h k
theorem lt_tri (a b : List UInt8) : a < b ∨ a = b ∨ b < a := by
  by_cases h : a < b
  · exact .inl h
  · by_cases k : b < a
    · exact .inr (.inr k)
    · exact .inr (.inl (List.le_antisymm k h))
theorem lt_ne {a b : List UInt8} (h : a < b) : a ≠ b := fun e => lt_irr b (e ▸ h)
theorem lt_asy {a b : List UInt8} (h : a < b) : ¬ b < a := fun k => lt_irr a (lt_tr h k)

theorem bytesLess_lt : ∀ (x y : List UInt8), Op.bytesLess x y = decide (x < y)
  | [], [] => by simp [Op.bytesLess]
  | _ :: _, [] => by simp [Op.bytesLess]
  | [], _ :: _ => by simp [Op.bytesLess]
  | a :: x, b :: y => by
    rw [Op.bytesLess, bytesLess_lt x y, Bool.eq_iff_iff]
    simp [List.cons_lt_cons_iff]

theorem bytesBefore_lt : ∀ (x y : List UInt8), bytesBefore x y = decide (x < y)
  | [], [] => by simp [bytesBefore]
  | _ :: _, [] => by simp [bytesBefore]
  | [], _ :: _ => by simp [bytesBefore]
  | a :: x, b :: y => by
    rw [bytesBefore, bytesBefore_lt x y, Bool.eq_iff_iff]
    simp [List.cons_lt_cons_iff]

section
variable {α : Type} (key : α → List UInt8)

/-- Rising keys. -/
def Rise (l : List α) : Prop := l.Pairwise (fun a b => key a < key b)

/-- With a, in the place of what has its key. -/
def putK (a : α) : List α → List α
  | [] => [a]
  | x :: r => if key a < key x then a :: x :: r else if key a = key x then a :: r else x :: putK a r

def dropK (k : List UInt8) (l : List α) : List α := l.filter (fun x => !(key x == k))

def hasK (k : List UInt8) (l : List α) : Bool := l.any (fun x => key x == k)

/-- The place of a key; -1: it is not there. -/
def findI (k : List UInt8) : List α → Int
  | [] => -1
  | x :: r => if key x = k then 0 else if findI k r < 0 then -1 else findI k r + 1

variable {key}

theorem rise_cons {a : α} {l : List α} : Rise key (a :: l) ↔ (∀ x ∈ l, key a < key x) ∧ Rise key l := List.pairwise_cons

theorem dropK_none {k : List UInt8} {l : List α} (h : ∀ x ∈ l, key x ≠ k) : dropK key k l = l := by
  unfold dropK
  rw [List.filter_eq_self]
  intro x hx
  simp [h x hx]

theorem putK_drop (a : α) : ∀ {l : List α}, Rise key l → putK key a l = putK key a (dropK key (key a) l)
  | [], _ => rfl
  | x :: r, h => by
    obtain ⟨h1, h2⟩ := rise_cons.1 h
    rcases lt_tri (key a) (key x) with hl | he | hg
    · rw [dropK_none (fun y hy => by
        rcases List.mem_cons.1 hy with rfl | hy
        · exact (lt_ne hl).symm
        · exact (lt_ne (lt_tr hl (h1 y hy))).symm)]
    · have e1 : dropK key (key a) (x :: r) = r := by
        have := dropK_none (key := key) (k := key a) (l := r) (fun y hy => (lt_ne (he ▸ h1 y hy)).symm)
        unfold dropK at this ⊢
        rw [List.filter_cons_of_neg (by simp [he]), this]
      rw [e1]
      cases r with
      | nil => simp [putK, he, lt_irr]
      | cons y r =>
        have hy : key a < key y := he ▸ h1 y (by simp)
        simp [putK, he, lt_irr, he ▸ hy]
    · have e1 : dropK key (key a) (x :: r) = x :: dropK key (key a) r := by
        unfold dropK
        rw [List.filter_cons_of_pos (by simp [lt_ne hg])]
      rw [e1]
      simp only [putK, if_neg (lt_asy hg), if_neg (lt_ne hg).symm]
      rw [putK_drop a h2]

theorem mem_putK {a : α} : ∀ {l : List α}, Rise key l → ∀ x, x ∈ putK key a l ↔ x = a ∨ (x ∈ l ∧ key x ≠ key a)
  | [], _, x => by simp [putK]
  | y :: r, h, x => by
    obtain ⟨h1, h2⟩ := rise_cons.1 h
    have ih := mem_putK (a := a) h2 x
    unfold putK
    split
    · rename_i hl
      have hne : ∀ z ∈ y :: r, key z ≠ key a := fun z hz => by
        rcases List.mem_cons.1 hz with rfl | hz
        · exact (lt_ne hl).symm
        · exact (lt_ne (lt_tr hl (h1 z hz))).symm
      constructor
      · intro hx
        rcases List.mem_cons.1 hx with rfl | hx
        · exact .inl rfl
        · exact .inr ⟨hx, hne x hx⟩
      · rintro (rfl | ⟨hx, _⟩)
        · exact List.mem_cons_self
        · exact List.mem_cons_of_mem _ hx
    · split
      · rename_i hl he
        constructor
        · intro hx
          rcases List.mem_cons.1 hx with rfl | hx
          · exact .inl rfl
          · exact .inr ⟨List.mem_cons_of_mem _ hx, (lt_ne (he ▸ h1 x hx)).symm⟩
        · rintro (rfl | ⟨hx, hn⟩)
          · exact List.mem_cons_self
          · rcases List.mem_cons.1 hx with rfl | hx
            · exact (hn he.symm).elim
            · exact List.mem_cons_of_mem _ hx
      · rename_i hl he
        rw [List.mem_cons, List.mem_cons, ih]
        constructor
        · rintro (rfl | rfl | ⟨hx, hn⟩)
          · exact .inr ⟨.inl rfl, fun e => he e.symm⟩
          · exact .inl rfl
          · exact .inr ⟨.inr hx, hn⟩
        · rintro (rfl | ⟨rfl | hx, hn⟩)
          · exact .inr (.inl rfl)
          · exact .inl rfl
          · exact .inr (.inr ⟨hx, hn⟩)

theorem rise_putK {a : α} : ∀ {l : List α}, Rise key l → Rise key (putK key a l)
  | [], _ => by simp [putK, Rise]
  | y :: r, h => by
    obtain ⟨h1, h2⟩ := rise_cons.1 h
    unfold putK
    split
    · rename_i hl
      refine rise_cons.2 ⟨fun z hz => ?_, h⟩
      rcases List.mem_cons.1 hz with rfl | hz
      · exact hl
      · exact lt_tr hl (h1 z hz)
    · split
      · rename_i hl he
        exact rise_cons.2 ⟨fun z hz => he ▸ h1 z hz, h2⟩
      · rename_i hl he
        refine rise_cons.2 ⟨fun z hz => ?_, rise_putK h2⟩
        rcases (mem_putK h2 z).1 hz with rfl | ⟨hz, _⟩
        · rcases lt_tri (key z) (key y) with h' | h' | h'
          · exact (hl h').elim
          · exact (he h').elim
          · exact h'
        · exact h1 z hz

theorem rise_dropK {k : List UInt8} {l : List α} (h : Rise key l) : Rise key (dropK key k l) := h.filter _

theorem mem_dropK {k : List UInt8} {l : List α} {x : α} : x ∈ dropK key k l ↔ x ∈ l ∧ key x ≠ k := by
  unfold dropK
  rw [List.mem_filter]
  simp

theorem hasK_iff {k : List UInt8} {l : List α} : hasK key k l = true ↔ ∃ x ∈ l, key x = k := by
  unfold hasK
  rw [List.any_eq_true]
  simp

theorem hasK_no {k : List UInt8} {l : List α} : hasK key k l = false ↔ ∀ x ∈ l, key x ≠ k := by
  cases h : hasK key k l
  · simp only [true_iff]
    intro x hx e
    rw [hasK_iff.2 ⟨x, hx, e⟩] at h
    cases h
  · obtain ⟨x, hx, e⟩ := hasK_iff.1 h
    constructor
    · intro h; cases h
    · intro h; exact (h x hx e).elim

theorem putK_len {a : α} : ∀ {l : List α}, Rise key l → (putK key a l).length = (dropK key (key a) l).length + 1
  | [], _ => rfl
  | y :: r, h => by
    obtain ⟨h1, h2⟩ := rise_cons.1 h
    have ih := putK_len (a := a) h2
    unfold putK
    split
    · rename_i hl
      rw [dropK_none (fun z hz => by
        rcases List.mem_cons.1 hz with rfl | hz
        · exact (lt_ne hl).symm
        · exact (lt_ne (lt_tr hl (h1 z hz))).symm)]
      rfl
    · split
      · rename_i hl he
        have := dropK_none (key := key) (k := key a) (l := r) (fun y hy => (lt_ne (he ▸ h1 y hy)).symm)
        unfold dropK at this ⊢
        rw [List.filter_cons_of_neg (by simp [he]), this]
        rfl
      · rename_i hl he
        unfold dropK at ih ⊢
        rw [List.filter_cons_of_pos (by simpa using fun e : key y = key a => he e.symm), List.length_cons, List.length_cons, ih]

theorem putK_le {a : α} {l : List α} (h : Rise key l) : (putK key a l).length ≤ l.length + 1 := by
  rw [putK_len h]
  exact Nat.succ_le_succ (List.length_filter_le _ _)

theorem rise_ext : ∀ {l m : List α}, Rise key l → Rise key m → (∀ x, x ∈ l ↔ x ∈ m) → l = m
  | [], [], _, _, _ => rfl
  | [], b :: _, _, _, h => by have := (h b).2 (by simp); simp at this
  | a :: _, [], _, _, h => by have := (h a).1 (by simp); simp at this
  | a :: r, b :: s, h1, h2, h => by
    obtain ⟨a1, a2⟩ := rise_cons.1 h1
    obtain ⟨b1, b2⟩ := rise_cons.1 h2
    have hab : a = b := by
      rcases List.mem_cons.1 ((h a).1 (by simp)) with e | ha
      · exact e
      · rcases List.mem_cons.1 ((h b).2 (by simp)) with e | hb
        · exact e.symm
        · exact (lt_asy (a1 b hb) (b1 a ha)).elim
    subst hab
    rw [rise_ext a2 b2 (fun p => ⟨fun hp => by
      rcases List.mem_cons.1 ((h p).1 (by simp [hp])) with e | hp'
      · exact (lt_irr _ (e ▸ a1 p hp)).elim
      · exact hp', fun hp => by
      rcases List.mem_cons.1 ((h p).2 (by simp [hp])) with e | hp'
      · exact (lt_irr _ (e ▸ b1 p hp)).elim
      · exact hp'⟩)]

theorem rise_sub_le : ∀ {m l : List α}, Rise key l → Rise key m → (∀ x ∈ l, x ∈ m) → l.length ≤ m.length
  | [], [], _, _, _ => Nat.le_refl _
  | [], a :: _, _, _, h => by have := h a (by simp); simp at this
  | _ :: _, [], _, _, _ => Nat.zero_le _
  | b :: s, a :: r, hl, hm, h => by
    obtain ⟨l1, l2⟩ := rise_cons.1 hl
    obtain ⟨m1, m2⟩ := rise_cons.1 hm
    have hne : ∀ x ∈ r, key b < key a ∨ key b = key a → x ∈ s := fun x hx hk => by
      rcases List.mem_cons.1 (h x (by simp [hx])) with e | hx'
      · have := l1 x hx
        rw [e] at this
        rcases hk with hk | hk
        · exact (lt_asy hk this).elim
        · rw [hk] at this; exact (lt_irr _ this).elim
      · exact hx'
    rcases List.mem_cons.1 (h a (by simp)) with e | ha
    · exact Nat.succ_le_succ (rise_sub_le l2 m2 (fun x hx => hne x hx (.inr (by rw [e]))))
    · have hba := m1 a ha
      refine Nat.le_succ_of_le (rise_sub_le hl m2 (fun x hx => ?_))
      rcases List.mem_cons.1 hx with e | hx
      · rw [e]; exact ha
      · exact hne x hx (.inl hba)

theorem rise_sub_eq : ∀ {m l : List α}, Rise key l → Rise key m → (∀ x ∈ l, x ∈ m) → l.length = m.length → l = m
  | [], [], _, _, _, _ => rfl
  | [], _ :: _, _, _, _, h => by simp at h
  | _ :: _, [], _, _, _, h => by simp at h
  | b :: s, a :: r, hl, hm, h, hn => by
    obtain ⟨l1, l2⟩ := rise_cons.1 hl
    obtain ⟨m1, m2⟩ := rise_cons.1 hm
    have hne : ∀ x ∈ r, key b < key a ∨ key b = key a → x ∈ s := fun x hx hk => by
      rcases List.mem_cons.1 (h x (by simp [hx])) with e | hx'
      · have := l1 x hx
        rw [e] at this
        rcases hk with hk | hk
        · exact (lt_asy hk this).elim
        · rw [hk] at this; exact (lt_irr _ this).elim
      · exact hx'
    rcases List.mem_cons.1 (h a (by simp)) with e | ha
    · rw [e, rise_sub_eq l2 m2 (fun x hx => hne x hx (.inr (by rw [e]))) (by simpa using hn)]
    · have hba := m1 a ha
      have := rise_sub_le hl m2 (fun x hx => by
        rcases List.mem_cons.1 hx with e | hx
        · rw [e]; exact ha
        · exact hne x hx (.inl hba))
      simp at this hn
      omega

/-- Of one key there is one. -/
theorem rise_one {l : List α} (h : Rise key l) {x y : α} (hx : x ∈ l) (hy : y ∈ l) (e : key x = key y) : x = y := by
  induction l with
  | nil => simp at hx
  | cons a r ih =>
    obtain ⟨a1, a2⟩ := rise_cons.1 h
    rcases List.mem_cons.1 hx with ex | hx1
    · rcases List.mem_cons.1 hy with ey | hy1
      · rw [ex, ey]
      · have := a1 y hy1
        rw [← ex, e] at this
        exact (lt_irr _ this).elim
    · rcases List.mem_cons.1 hy with ey | hy1
      · have := a1 x hx1
        rw [← ey, e] at this
        exact (lt_irr _ this).elim
      · exact ih a2 hx1 hy1

/-- The reference's Put, a step: what was laid out, and whether a is among it. -/
def putS (key : α → List UInt8) (a : α) (st : List α × Bool) (x : α) : List α × Bool :=
  let st1 := if st.2 = false ∧ ¬ key x < key a then (st.1 ++ [a], true) else st
  if key x = key a then st1 else (st1.1 ++ [x], st1.2)

def putE (a : α) (st : List α × Bool) : List α := if st.2 = true then st.1 else st.1 ++ [a]

theorem putS_done (a : α) : ∀ (l : List α) (acc : List α), (∀ x ∈ l, key x ≠ key a) → l.foldl (putS key a) (acc, true) = (acc ++ l, true)
  | [], acc, _ => by simp
  | x :: r, acc, h => by
    rw [List.foldl_cons]
    have e : putS key a (acc, true) x = (acc ++ [x], true) := by simp [putS, h x (by simp)]
    rw [e, putS_done a r _ (fun y hy => h y (by simp [hy]))]
    simp

theorem putS_all (a : α) : ∀ (l : List α) (acc : List α), Rise key l → putE a (l.foldl (putS key a) (acc, false)) = acc ++ putK key a l
  | [], acc, _ => by simp [putE, putK]
  | x :: r, acc, h => by
    obtain ⟨h1, h2⟩ := rise_cons.1 h
    rw [List.foldl_cons]
    rcases lt_tri (key a) (key x) with hl | he | hg
    · have e : putS key a (acc, false) x = (acc ++ [a] ++ [x], true) := by simp [putS, lt_asy hl, (lt_ne hl).symm]
      rw [e, putS_done a r _ (fun y hy => (lt_ne (lt_tr hl (h1 y hy))).symm)]
      simp [putE, putK, hl]
    · have e : putS key a (acc, false) x = (acc ++ [a], true) := by simp [putS, he, lt_irr]
      rw [e, putS_done a r _ (fun y hy => (lt_ne (he ▸ h1 y hy)).symm)]
      simp [putE, putK, he, lt_irr]
    · have e : putS key a (acc, false) x = (acc ++ [x], false) := by simp [putS, hg, lt_ne hg]
      rw [e, putS_all a r _ h2]
      simp [putK, lt_asy hg, (lt_ne hg).symm]

theorem findI_no {k : List UInt8} : ∀ {l : List α}, (∀ x ∈ l, key x ≠ k) → findI key k l = -1
  | [], _ => rfl
  | x :: r, h => by simp [findI, h x (by simp), findI_no (l := r) (fun y hy => h y (by simp [hy]))]

theorem findI_at {k : List UInt8} : ∀ {l : List α} (i : Nat) (h : i < l.length), key l[i] = k → (∀ x ∈ l.take i, key x ≠ k) → findI key k l = i
  | [], i, h, _, _ => by simp at h
  | x :: r, 0, _, h1, _ => by simp at h1; simp [findI, h1]
  | x :: r, i + 1, h, h1, h2 => by
    have hx : key x ≠ k := h2 x (by simp)
    have ih := findI_at (k := k) (l := r) i (by simpa using h) (by simpa using h1) (fun y hy => h2 y (by simp [hy]))
    simp only [findI, if_neg hx, ih]
    rw [if_neg (by omega)]
    omega

end

section
variable {α β : Type} {ka : α → List UInt8} {kb : β → List UInt8} {f : α → β}

theorem map_putK (hk : ∀ a, kb (f a) = ka a) (a : α) : ∀ l : List α, (putK ka a l).map f = putK kb (f a) (l.map f)
  | [] => rfl
  | x :: r => by
    simp only [putK, List.map_cons, hk]
    split
    · rfl
    · split
      · rfl
      · rw [List.map_cons, map_putK hk a r]

theorem map_dropK (hk : ∀ a, kb (f a) = ka a) (k : List UInt8) (l : List α) : (dropK ka k l).map f = dropK kb k (l.map f) := by
  unfold dropK
  rw [List.filter_map]
  congr 1
  apply List.filter_congr
  intro x _
  simp [hk]

theorem map_rise (hk : ∀ a, kb (f a) = ka a) {l : List α} : Rise kb (l.map f) ↔ Rise ka l := by
  unfold Rise
  rw [List.pairwise_map]
  simp [hk]

theorem map_hasK (hk : ∀ a, kb (f a) = ka a) (k : List UInt8) (l : List α) : hasK kb k (l.map f) = hasK ka k l := by
  unfold hasK
  rw [List.any_map]
  congr 1
  funext x
  simp [hk]
end

/-! ### New -/

/-- One definition more: the error of the first that is wrong, and what there is. -/
def newS (st : Int × List DD) (d : DD) : Int × List DD :=
  if st.1 ≠ 0 then st
  else if keyD d = [] then (31, [])
  else if hasK keyD (keyD d) st.2 = true then (45, [])
  else if 500 ≤ st.2.length then (21, [])
  else (0, putK keyD d st.2)

def newL (l : List DD) : Int × List DD := l.foldl newS (0, [])

theorem newS_err {st : Int × List DD} (h : st.1 ≠ 0) : ∀ l : List DD, l.foldl newS st = st
  | [] => rfl
  | d :: r => by rw [List.foldl_cons, show newS st d = st by simp [newS, h], newS_err h r]

theorem keyD_right {d : DD} (h : rightD d = true) : keyD d ≠ [] := by
  unfold keyD
  rw [if_pos h]
  split
  · simp
  · rename_i hk
    have h1 : d.k = 1 := (right_kind h).resolve_right hk
    rw [rightD_one h1] at h
    intro e
    simp [rightC, ownCl, isCl, isNm, lenIn, e] at h

theorem keyD_iff (d : DD) : keyD d = [] ↔ rightD d = false := by
  cases h : rightD d
  · simp [keyD, h]
  · simp [keyD_right h]

/-- What New makes, step by step: rising, valid, of the definitions that came. -/
structure Mades (l out : List DD) : Prop where
  rise : Rise keyD out
  right : ∀ d ∈ out, rightD d = true
  mem : ∀ d, d ∈ out ↔ d ∈ l
  len : out.length = l.length

theorem new_some : ∀ (r l out : List DD), Mades l out → (r.foldl newS (0, out)).1 = 0 → Mades (l ++ r) (r.foldl newS (0, out)).2
  | [], l, out, h, _ => by simpa using h
  | d :: r, l, out, h, he => by
    rw [List.foldl_cons] at he ⊢
    by_cases h1 : keyD d = []
    · rw [show newS (0, out) d = (31, []) by simp [newS, h1], newS_err (by simp)] at he
      cases he
    · cases h2 : hasK keyD (keyD d) out
      · by_cases h3 : 500 ≤ out.length
        · rw [show newS (0, out) d = (21, []) by simp [newS, h1, h2, h3], newS_err (by simp)] at he
          cases he
        · have e : newS (0, out) d = (0, putK keyD d out) := by simp [newS, h1, h2, h3]
          rw [e] at he ⊢
          have hr : rightD d = true := by
            cases hr : rightD d
            · exact (h1 ((keyD_iff d).2 hr)).elim
            · rfl
          have hn := hasK_no.1 h2
          have := new_some r (l ++ [d]) (putK keyD d out) ⟨rise_putK h.rise, fun x hx => by
            rcases (mem_putK h.rise x).1 hx with rfl | ⟨hx, _⟩
            · exact hr
            · exact h.right x hx, fun x => by
            rw [mem_putK h.rise, List.mem_append, ← h.mem]
            constructor
            · rintro (rfl | ⟨hx, _⟩)
              · simp
              · exact .inl hx
            · rintro (hx | hx)
              · exact .inr ⟨hx, hn x hx⟩
              · simp at hx; exact .inl hx, by
            rw [putK_len h.rise, dropK_none hn, h.len]; simp⟩ he
          simpa using this
      · rw [show newS (0, out) d = (45, []) by simp [newS, h1, h2], newS_err (by simp)] at he
        cases he

theorem newL_made {l : List DD} (h : (newL l).1 = 0) : Mades l (newL l).2 := by
  have := new_some l [] [] ⟨List.Pairwise.nil, by simp, by simp, rfl⟩ h
  simpa [newL] using this

theorem newL_none {l : List DD} (h : (newL l).1 ≠ 0) : (newL l).2 = [] := by
  have : ∀ (r : List DD) (st : Int × List DD), (st.1 ≠ 0 → st.2 = []) → (r.foldl newS st).1 ≠ 0 → (r.foldl newS st).2 = [] := by
    intro r
    induction r with
    | nil => intro st h1 h2; exact h1 h2
    | cons d r ih =>
      intro st h1
      rw [List.foldl_cons]
      refine ih _ ?_
      unfold newS
      split
      · exact fun _ => h1 (by assumption)
      · repeat' split
        all_goals first | (intro _; rfl) | (intro h; exact (h rfl).elim)
  exact this l (0, []) (fun h => (h rfl).elim) h

/-- No key twice: then New makes one, whatever the order. -/
theorem new_ok : ∀ (r l out : List DD), Mades l out → (∀ d ∈ r, rightD d = true) → r.Pairwise (fun a b => keyD a ≠ keyD b) → (∀ a ∈ out, ∀ b ∈ r, keyD a ≠ keyD b) → out.length + r.length ≤ 500 → (r.foldl newS (0, out)).1 = 0
  | [], _, _, _, _, _, _, _ => rfl
  | d :: r, l, out, h, hr, hp, hx, hl => by
    obtain ⟨p1, p2⟩ := List.pairwise_cons.1 hp
    have hn : ∀ x ∈ out, keyD x ≠ keyD d := fun x hx' => hx x hx' d (by simp)
    have e : newS (0, out) d = (0, putK keyD d out) := by
      simp [newS, keyD_right (hr d (by simp)), hasK_no.2 hn]
      simp at hl
      omega
    rw [List.foldl_cons, e]
    refine new_ok r (l ++ [d]) _ ⟨rise_putK h.rise, fun x hx => by
            rcases (mem_putK h.rise x).1 hx with rfl | ⟨hx, _⟩
            · exact hr x (by simp)
            · exact h.right x hx, fun x => by
            rw [mem_putK h.rise, List.mem_append, ← h.mem]
            constructor
            · rintro (rfl | ⟨hx, _⟩)
              · simp
              · exact .inl hx
            · rintro (hx | hx)
              · exact .inr ⟨hx, hn x hx⟩
              · simp at hx; exact .inl hx, by
            rw [putK_len h.rise, dropK_none hn, h.len]; simp⟩ (fun x hx => hr x (by simp [hx])) p2 (fun a ha b hb => ?_) ?_
    · rcases (mem_putK h.rise a).1 ha with rfl | ⟨ha, _⟩
      · exact p1 b hb
      · exact hx a ha b (by simp [hb])
    · rw [putK_len h.rise, dropK_none hn]
      simp at hl
      omega

/-- What New took has no key twice. -/
theorem new_apart : ∀ (r l out : List DD), Mades l out → (r.foldl newS (0, out)).1 = 0 → r.Pairwise (fun a b => keyD a ≠ keyD b) ∧ (∀ a ∈ out, ∀ b ∈ r, keyD a ≠ keyD b) ∧ out.length + r.length ≤ 500 ∨ (500 < out.length + r.length)
  | [], _, out, _, _ => by
    by_cases h : out.length ≤ 500
    · exact .inl ⟨List.Pairwise.nil, by simp, by simpa using h⟩
    · exact .inr (by simp; omega)
  | d :: r, l, out, h, he => by
    rw [List.foldl_cons] at he
    by_cases h1 : keyD d = []
    · rw [show newS (0, out) d = (31, []) by simp [newS, h1], newS_err (by simp)] at he
      cases he
    · cases h2 : hasK keyD (keyD d) out
      · by_cases h3 : 500 ≤ out.length
        · rw [show newS (0, out) d = (21, []) by simp [newS, h1, h2, h3], newS_err (by simp)] at he
          cases he
        · have e : newS (0, out) d = (0, putK keyD d out) := by simp [newS, h1, h2, h3]
          rw [e] at he
          have hr : rightD d = true := by
            cases hr : rightD d
            · exact (h1 ((keyD_iff d).2 hr)).elim
            · rfl
          have hn := hasK_no.1 h2
          have hlen : (putK keyD d out).length = out.length + 1 := by rw [putK_len h.rise, dropK_none hn]
          rcases new_apart r (l ++ [d]) (putK keyD d out) ⟨rise_putK h.rise, fun x hx => by
            rcases (mem_putK h.rise x).1 hx with rfl | ⟨hx, _⟩
            · exact hr
            · exact h.right x hx, fun x => by
            rw [mem_putK h.rise, List.mem_append, ← h.mem]
            constructor
            · rintro (rfl | ⟨hx, _⟩)
              · simp
              · exact .inl hx
            · rintro (hx | hx)
              · exact .inr ⟨hx, hn x hx⟩
              · simp at hx; exact .inl hx, by
            rw [hlen, h.len]; simp⟩ he with ⟨q1, q2, q3⟩ | q
          · refine .inl ⟨List.pairwise_cons.2 ⟨fun b hb => q2 d ((mem_putK h.rise d).2 (.inl rfl)) b hb, q1⟩, fun a ha b hb => ?_, by rw [hlen] at q3; simp; omega⟩
            rcases List.mem_cons.1 hb with rfl | hb
            · exact hn a ha
            · exact q2 a ((mem_putK h.rise a).2 (.inr ⟨ha, hn a ha⟩)) b hb
          · exact .inr (by rw [hlen] at q; simp; omega)
      · rw [show newS (0, out) d = (45, []) by simp [newS, h1, h2], newS_err (by simp)] at he
        cases he

/-- The same definitions in another order. -/
theorem newL_perm {l m : List DD} (hp : l.Perm m) (h : (newL l).1 = 0) (hl : l.length ≤ 500) : (newL m).1 = 0 ∧ (newL m).2 = (newL l).2 := by
  have M := newL_made h
  rcases new_apart l [] [] ⟨List.Pairwise.nil, by simp, by simp, rfl⟩ h with ⟨q1, _, _⟩ | q
  · have hm : (newL m).1 = 0 := new_ok m [] [] ⟨List.Pairwise.nil, by simp, by simp, rfl⟩ (fun d hd => M.right d ((M.mem d).2 (hp.mem_iff.2 hd))) ((hp.pairwise_iff (fun {a b} (h : keyD a ≠ keyD b) => h.symm)).1 q1) (by simp) (by rw [← hp.length_eq]; simpa using hl)
    refine ⟨hm, ?_⟩
    have M' := newL_made hm
    exact rise_ext M'.rise M.rise (fun x => by rw [M'.mem, M.mem, hp.mem_iff])
  · simp at q; omega

end Go.Mk
