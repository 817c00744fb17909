/-
  KEYS over lists (plain, over no program): where a key is cut, which parts are those of a valid definition.
-/
import Derived.Test.YtomdhljhjeeakaaPm
import Derived.Lib.IndexLaws
namespace Go.Mk

theorem occ2 {l : List UInt8} {i : Nat} (h : i + 1 < l.length) : Lib.occAt l [62, 62] i = (l[i]'(by omega) == 62 && l[i + 1] == 62) := by
  unfold Lib.occAt
  rw [List.drop_eq_getElem_cons (by omega), List.drop_eq_getElem_cons h]
  simp only [List.isPrefixOf, Bool.and_true]
  rw [Bool.beq_comm, Bool.beq_comm (a := 62) (b := l[i + 1])]

theorem cut_at {l : List UInt8} {i : Nat} (h : i + 1 < l.length) (hn : Lib.NoOcc l [62, 62] i) (ho : Lib.occAt l [62, 62] i = true) : Lib.cut l [62, 62] = (l.take i, l.drop (i + 2), true) := by
  have hi := Lib.index_hit hn (by omega) ho
  unfold Lib.cut
  rw [hi, if_pos (by omega)]
  simp

theorem cut_none {l : List UInt8} {i : Nat} (hn : Lib.NoOcc l [62, 62] i) (h : l.length ≤ i + 1) : Lib.cut l [62, 62] = (l, [], false) := by
  have hi := Lib.index_past (by simp) hn (by simp; omega)
  unfold Lib.cut
  rw [hi, if_neg (by omega)]

theorem right_parts (c s : List UInt8) : rightD ⟨2, c, [], [], s, []⟩ = (isCl c && isSel s) := by
  rw [rightD_two rfl]
  simp [rightM]

theorem cl_object : isCl [79, 98, 106, 101, 99, 116] = true := by decide +kernel

theorem right_own (c : List UInt8) : rightD ⟨1, c, [79, 98, 106, 101, 99, 116], [], [], []⟩ = ownCl c := by
  rw [rightD_one rfl]
  unfold rightC
  rw [show areVars [] = true from rfl]
  dsimp only
  rw [cl_object]
  simp

theorem split_m {l c s : List UInt8} (h : Lib.cut l [62, 62] = (c, s, true)) (hr : rightD ⟨2, c, [], [], s, []⟩ = true) : splitD l = (c, s, true) := by
  rw [right_parts] at hr
  unfold splitD splitC
  rw [h, if_pos rfl, if_pos hr]
theorem split_mno {l c s : List UInt8} (h : Lib.cut l [62, 62] = (c, s, true)) (hr : rightD ⟨2, c, [], [], s, []⟩ = false) : splitD l = ([], [], false) := by
  rw [right_parts] at hr
  unfold splitD splitC
  rw [h, if_pos rfl, if_neg (by rw [hr]; simp)]
theorem split_c {l : List UInt8} (h : Lib.cut l [62, 62] = (l, [], false)) (hr : rightD ⟨1, l, [79, 98, 106, 101, 99, 116], [], [], []⟩ = true) : splitD l = (l, [], true) := by
  rw [right_own] at hr
  unfold splitD splitC
  rw [h, if_neg (by simp), if_pos hr]
theorem split_cno {l : List UInt8} (h : Lib.cut l [62, 62] = (l, [], false)) (hr : rightD ⟨1, l, [79, 98, 106, 101, 99, 116], [], [], []⟩ = false) : splitD l = ([], [], false) := by
  rw [right_own] at hr
  unfold splitD splitC
  rw [h, if_neg (by simp), if_neg (by rw [hr]; simp)]

/-- A class name has no '>'. -/
theorem cl_no {l : List UInt8} (h : isCl l = true) : ∀ b ∈ l, b ≠ 62 := by
  intro b hb e
  subst e
  simp only [isCl, isNm, Bool.and_eq_true, List.all_eq_true] at h
  have := h.1.2 62 hb
  revert this
  decide

theorem cut_class {c : List UInt8} (h : isCl c = true) : Lib.cut c [62, 62] = (c, [], false) := by
  refine cut_none (i := c.length) (fun j hj => ?_) (by omega)
  unfold Lib.occAt
  rw [List.drop_eq_getElem_cons hj]
  have hne : c[j] ≠ 62 := cl_no h _ (List.getElem_mem hj)
  simp only [List.isPrefixOf]
  rw [beq_eq_false_iff_ne.2 (Ne.symm hne)]
  rfl

theorem cut_method {c s : List UInt8} (h : isCl c = true) : Lib.cut (c ++ [62, 62] ++ s) [62, 62] = (c, s, true) := by
  have e : Lib.cut (c ++ [62, 62] ++ s) [62, 62] = ((c ++ [62, 62] ++ s).take c.length, (c ++ [62, 62] ++ s).drop (c.length + 2), true) := by
    refine cut_at (by simp) (fun j hj => ?_) ?_
    · unfold Lib.occAt
      rw [List.append_assoc, List.drop_append_of_le_length (by omega), List.drop_eq_getElem_cons hj]
      have hne : c[j] ≠ 62 := cl_no h _ (List.getElem_mem hj)
      simp only [List.isPrefixOf, List.cons_append]
      rw [beq_eq_false_iff_ne.2 (Ne.symm hne)]
      rfl
    · unfold Lib.occAt
      rw [List.append_assoc, List.drop_left]
      simp
  rw [e]
  congr 1
  · rw [List.append_assoc, List.take_left]
  · congr 1
    rw [show c.length + 2 = (c ++ [62, 62]).length by simp, List.drop_left]

/-- The key of a valid definition has its parts, and says its kind. -/
theorem split_key {d : DD} (h : rightD d = true) : splitD (keyD d) = (d.c, d.s, true) := by
  unfold keyD
  rw [if_pos h]
  rcases right_kind h with hk | hk
  · rw [if_neg (by rw [hk]; decide)]
    rw [rightD_one hk] at h
    simp only [rightC, Bool.and_eq_true, ownCl] at h
    obtain ⟨⟨⟨⟨h1, _⟩, _⟩, h4⟩, _⟩ := h
    have hs : d.s = [] := by simpa using h4
    unfold splitD splitC
    rw [cut_class h1.1, if_neg (by simp), if_pos (by simp only [ownCl, Bool.and_eq_true]; exact h1), hs]
  · rw [if_pos hk]
    rw [rightD_two hk] at h
    simp only [rightM, Bool.and_eq_true] at h
    obtain ⟨⟨⟨⟨h1, h2⟩, _⟩, _⟩, _⟩ := h
    unfold splitD splitC
    rw [cut_method h1, if_pos rfl, if_pos (by rw [h1, h2]; rfl)]

theorem key_kind {a b : DD} (ha : rightD a = true) (hb : rightD b = true) (h : keyD a = keyD b) : a.k = b.k := by
  have e : ∀ {d : DD}, rightD d = true → (d.k = 1 ∧ (Lib.cut (keyD d) [62, 62]).2.2 = false) ∨ (d.k = 2 ∧ (Lib.cut (keyD d) [62, 62]).2.2 = true) := by
    intro d h
    unfold keyD
    rw [if_pos h]
    rcases right_kind h with hk | hk
    · refine .inl ⟨hk, ?_⟩
      rw [if_neg (by rw [hk]; decide)]
      rw [rightD_one hk] at h
      simp only [rightC, Bool.and_eq_true, ownCl] at h
      rw [cut_class h.1.1.1.1.1]
    · refine .inr ⟨hk, ?_⟩
      rw [if_pos hk]
      rw [rightD_two hk] at h
      simp only [rightM, Bool.and_eq_true] at h
      rw [cut_method h.1.1.1.1]
  rcases e ha with ⟨h1, h2⟩ | ⟨h1, h2⟩ <;> rcases e hb with ⟨h3, h4⟩ | ⟨h3, h4⟩
  · rw [h1, h3]
  · rw [h, h4] at h2; cases h2
  · rw [h, h4] at h2; cases h2
  · rw [h1, h3]

theorem key_ne {d : DD} (h : rightD d = true) : keyD d ≠ [] := by
  intro e
  have := split_key h
  rw [e] at this
  have e2 : splitD [] = ([], [], false) := by decide +kernel
  rw [e2] at this
  have := congrArg (fun r => r.2.2) this
  cases this

end Go.Mk
