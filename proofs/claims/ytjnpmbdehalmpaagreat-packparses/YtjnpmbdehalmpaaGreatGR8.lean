/-
  Lemmas towards the claim of this folder: contracts of the functions that the law reaches; joined texts.
-/
import Derived.Test.YtjnpmbdehalmpaaGreatGSr
import Derived.Test.YtjnpmbdehalmpaaGreatGNg
import Derived.Deep.CutBlock
import Derived.Deep.DeepCutAuto
import Derived.Test.YtjnpmbdehalmpaaGreatGPm
import Derived.Lib.IndexLaws
/-
  The reference of layer 8: Find, Put, Drop, New over definitions in a row.
-/
namespace Go.Proofs.YtjnpmbdehalmpaaGreat
open Go.RowKit Go.Mk Go.Maps

def cellsE1 (e : Ent) : List Value := [.int .i64 e.1.k, .string (bs e.1.c), .string (bs e.1.p), .slice e.2.1 e.1.vs.length e.2.2, .string (bs e.1.s), .string (bs e.1.t)]
def cellsE (es : List Ent) : List Value := es.flatMap cellsE1

theorem cellsE_snoc (es : List Ent) (e : Ent) : cellsE (es ++ [e]) = cellsE es ++ cellsE1 e := by simp [cellsE]
theorem cellsE_one (es : List Ent) : ∀ u ∈ cellsE es, u.oneCell' = true := by
  intro u hu
  obtain ⟨e, _, he⟩ := List.mem_flatMap.1 hu
  simp [cellsE1] at he
  rcases he with rfl | rfl | rfl | rfl | rfl | rfl <;> rfl

theorem cellsE_get : ∀ (es : List Ent) (j : Nat) (h : j < es.length) (i : Nat) (u : Value), (cellsE1 es[j])[i]? = some u → (cellsE es)[j * 6 + i]? = some u
  | [], j, h, _, _, _ => by simp at h
  | e :: es, 0, _, i, u, hu => by
    have hi : i < 6 := by have := (List.getElem?_eq_some_iff.1 hu).1; simpa [cellsE1] using this
    rw [cellsE, List.flatMap_cons, List.getElem?_append_left (by simp [cellsE1]; omega)]
    simpa using hu
  | e :: es, j + 1, h, i, u, hu => by
    have := cellsE_get es j (by simpa using h) i u (by simpa using hu)
    rw [cellsE, List.flatMap_cons, List.getElem?_append_right (by simp [cellsE1]; omega)]
    rw [show (j + 1) * 6 + i - (cellsE1 e).length = j * 6 + i by simp [cellsE1]; omega]
    exact this

theorem Tryz.infoDef : (Tryz.prog.info? 46).map (fun i => (i.zero, i.size, i.bytes)) = some (some (.agg #[.int .i64 0, .string ⟨#[]⟩, .string ⟨#[]⟩, .slice none 0 0, .string ⟨#[]⟩, .string ⟨#[]⟩]), 6, 96) := by kernel_rfl

theorem src_def (w : World) (e : Ent) (t : TypeId) : Src Tryz.prog 6 23 (.slice (some ⟨w.heap.size, 0, none⟩) 1 1) 1 (cellsE1 e) (w.alloc (.cells #[.int .i64 e.1.k, .string (bs e.1.c), .string (bs e.1.p), .slice e.2.1 e.1.vs.length e.2.2, .string (bs e.1.s), .string (bs e.1.t)] t)) :=
  Src.ofSlice _ Tryz.underlying23 _ 1 1 (cellsE1 e) rfl (fun j u hu => by
    rw [Addr.add_lit, Nat.zero_add]
    have e1 : (w.alloc (.cells (cellsE1 e).toArray t)).cell? ⟨w.heap.size, j, none⟩ = _ := World.cell?_alloc_new w (cellsE1 e).toArray t j
    exact e1.trans (by simpa using hu)) (fun u hu => by
    simp [cellsE1] at hu
    rcases hu with rfl | rfl | rfl | rfl | rfl | rfl <;> rfl)

/-- What is owned lies there in a row. -/
theorem owns_ds {w : World} {base : Nat} {ao : Option Addr} {cap : Nat} {es : List Ent} (h : w.ownsRow base 46 6 (.slice ao es.length cap) es.length (cellsE es)) (hl : ∀ e ∈ es, Lies w w.heap.size e.2.1 (strs e.1.vs) ∧ e.1.vs.length ≤ e.2.2) : Ds w w.heap.size ao es := by
  refine ⟨fun hn => ?_, hl⟩
  rcases h.2 with ⟨_, h2⟩ | ⟨g, c, cur, hv, _, hg, _⟩
  · exact (hn (List.eq_nil_of_length_eq_zero h2)).elim
  · cases hv
    refine ⟨g, 0, rfl, (Array.getElem?_eq_some_iff.1 hg).1, fun j hj => ?_⟩
    have hc : ∀ i u, (cellsE1 es[j])[i]? = some u → w.cell? ⟨g, 0 + j * 6 + i, none⟩ = some u := fun i u hu => by
      have := h.cells (g := g) rfl (j * 6 + i) u (cellsE_get es j hj i u hu)
      rw [Addr.add_lit] at this
      rw [Nat.zero_add] at this ⊢
      exact this
    exact ⟨hc 0 _ rfl, hc 1 _ rfl, hc 2 _ rfl, hc 3 _ rfl, hc 4 _ rfl, hc 5 _ rfl⟩

/-- A new row of definitions. -/
def RlPost (w : World) (es : List Ent) (e : Ending) (w' : World) : Prop := ∃ ao cap, e = .returned (.slice ao es.length cap) ∧ w'.ownsRow w.heap.size 46 6 (.slice ao es.length cap) es.length (cellsE es) ∧ Kept (fun _ => False) w w'

theorem dropK_take (es : List Ent) (key : List UInt8) (j : Nat) (h : j < es.length) : dropK keyE key (es.take (j + 1)) = if keyE es[j] = key then dropK keyE key (es.take j) else dropK keyE key (es.take j) ++ [es[j]] := by
  unfold dropK
  rw [List.take_add_one, List.getElem?_eq_getElem h, Option.toList_some, List.filter_append]
  by_cases hk : keyE es[j] = key
  · simp [hk]
  · simp [hk]

theorem putS_mem1 {x : Ent} (st : List Ent × Bool) (z y : Ent) (hy : y ∈ (putS keyE x st z).1) : y ∈ st.1 ∨ y = x ∨ y = z := by
  unfold putS at hy
  dsimp only at hy
  by_cases h1 : st.2 = false ∧ ¬ keyE z < keyE x
  · rw [if_pos h1] at hy
    by_cases h2 : keyE z = keyE x
    · rw [if_pos h2] at hy
      simp only [List.mem_append, List.mem_singleton] at hy
      rcases hy with hy | hy
      · exact .inl hy
      · exact .inr (.inl hy)
    · rw [if_neg h2] at hy
      simp only [List.mem_append, List.mem_singleton] at hy
      rcases hy with (hy | hy) | hy
      · exact .inl hy
      · exact .inr (.inl hy)
      · exact .inr (.inr hy)
  · rw [if_neg h1] at hy
    by_cases h2 : keyE z = keyE x
    · rw [if_pos h2] at hy
      exact .inl hy
    · rw [if_neg h2] at hy
      simp only [List.mem_append, List.mem_singleton] at hy
      rcases hy with hy | hy
      · exact .inl hy
      · exact .inr (.inr hy)

theorem putS_mem {x : Ent} : ∀ (l : List Ent) (st : List Ent × Bool), ∀ y ∈ (l.foldl (putS keyE x) st).1, y ∈ st.1 ∨ y = x ∨ y ∈ l
  | [], st, y, hy => .inl hy
  | z :: l, st, y, hy => by
    rw [List.foldl_cons] at hy
    rcases putS_mem l _ y hy with h | h | h
    · rcases putS_mem1 st z y h with h | h | h
      · exact .inl h
      · exact .inr (.inl h)
      · exact .inr (.inr (by simp [h]))
    · exact .inr (.inl h)
    · exact .inr (.inr (by simp [h]))

theorem putS_len {x : Ent} (st : List Ent × Bool) (z : Ent) : (putS keyE x st z).1.length ≤ st.1.length + 2 := by
  unfold putS
  dsimp only
  by_cases h1 : st.2 = false ∧ ¬ keyE z < keyE x
  · rw [if_pos h1]
    by_cases h2 : keyE z = keyE x
    · rw [if_pos h2]; simp
    · rw [if_neg h2]; simp
  · rw [if_neg h1]
    by_cases h2 : keyE z = keyE x
    · rw [if_pos h2]; omega
    · rw [if_neg h2]; simp

theorem putS_t1 (x z : Ent) (acc : List Ent) (h : keyE z = keyE x) : putS keyE x (acc, true) z = (acc, true) := by simp [putS, h]
theorem putS_t2 (x z : Ent) (acc : List Ent) (h : keyE z ≠ keyE x) : putS keyE x (acc, true) z = (acc ++ [z], true) := by simp [putS, h]
theorem putS_f1 (x z : Ent) (acc : List Ent) (h : keyE z < keyE x) : putS keyE x (acc, false) z = (acc ++ [z], false) := by simp [putS, h, lt_ne h]
theorem putS_f2 (x z : Ent) (acc : List Ent) (h : keyE z = keyE x) : putS keyE x (acc, false) z = (acc ++ [x], true) := by simp [putS, h, lt_irr]
theorem putS_f3 (x z : Ent) (acc : List Ent) (h : keyE x < keyE z) : putS keyE x (acc, false) z = (acc ++ [x] ++ [z], true) := by have h2 : keyE z ≠ keyE x := fun e => lt_ne h e.symm; simp [putS, lt_asy h, h2]

theorem putS_take (es : List Ent) (x : Ent) (j : Nat) (h : j < es.length) : (es.take (j + 1)).foldl (putS keyE x) ([], false) = putS keyE x ((es.take j).foldl (putS keyE x) ([], false)) es[j] := by
  rw [List.take_add_one, List.getElem?_eq_getElem h, Option.toList_some, List.foldl_append]
  rfl

/-- The reference's Put under way: what was laid out, and whether the new one is among it. -/
structure Rp (w : World) (x : Ent) (v : Value) (acc : List Ent) (wx : World) : Prop where
  own : wx.ownsRow (w.heap.size + 1) 46 6 v acc.length (cellsE acc)
  bx : Bx wx w.heap.size x.2.1 x.2.2 x.1
  k : Kept (fun _ => False) w wx
  sz : w.heap.size + 1 ≤ wx.heap.size

theorem Rp.keep {w : World} {x : Ent} {v : Value} {acc : List Ent} {wx wy : World} (h : Rp w x v acc wx) (hk : Kept (fun _ => False) wx wy) : Rp w x v acc wy :=
  ⟨owns_kept h.own hk (fun _ _ h => h), h.bx.kept hk (fun h => h), h.k.trans hk (fun _ _ h => h), Nat.le_trans h.sz hk.size⟩

/-- Behind an append of one definition. -/
theorem Rp.app {w : World} {x : Ent} {v v' : Value} {acc : List Ent} {wx wy : World} {o : Obj} (h : Rp w x v acc wx) (y : Ent) (ho : wy.ownsRow 0 46 6 v' (acc.length + 1) (cellsE acc ++ cellsE1 y)) (hg : (wx.alloc o).grownBy wy v.ownBlock) (hb : v'.ownBlock = v.ownBlock ∨ v'.ownBlock = some (wx.heap.size + 1)) : Rp w x v' (acc ++ [y]) wy := by
  have hlo := owns_lt h.own
  have hsz := h.sz
  have hrow : ∀ k, v'.ownBlock = some k → w.heap.size + 1 ≤ k := fun k hk => by
    rcases hb with hb | hb
    · rw [hb] at hk; exact (hlo k hk).1
    · rw [hb] at hk; cases hk; omega
  have k4 : Kept (fun k => w.heap.size + 1 ≤ k) wx wy := Kept.grown ((Kept.refl _ wx).alloc _) hg (fun k hk _ => (hlo k hk).1)
  refine ⟨?_, h.bx.kept k4 (by omega), h.k.trans k4 (fun i hi h => absurd h (by omega)), Nat.le_trans h.sz k4.size⟩
  have := owns_base (base' := w.heap.size + 1) ho hrow
  rw [← cellsE_snoc] at this
  simpa using this

end Go.Proofs.YtjnpmbdehalmpaaGreat

/-
  KEYS over lists (plain, over no program): where a key is cut, which parts are those of a valid definition.
-/
namespace Go.Mk

theorem occ2 {l : List UInt8} {i : Nat} (h : i + 1 < l.length) : Lib.occAt l [62, 62] i = (l[i]'(by omega) == 62 && l[i + 1] == 62) := by
  unfold Lib.occAt
  rw [List.drop_eq_getElem_cons (by omega), List.drop_eq_getElem_cons h]
  simp only [List.isPrefixOf, Bool.and_true]
  rw [Bool.beq_comm, Bool.beq_comm (a := 62) (b := l[i + 1])]

theorem cut_at {l : List UInt8} {i : Nat} (h : i + 1 < l.length) (hn : Lib.NoOcc l [62, 62] i) (ho : Lib.occAt l [62, 62] i = true) : Lib.cut l [62, 62] = (l.take i, l.drop (i + 2), true) := by
  have hi := Lib.index_hit hn (by omega) ho
  unfold Lib.cut
  rw [hi, if_pos (by omega)]
  simp

theorem cut_none {l : List UInt8} {i : Nat} (hn : Lib.NoOcc l [62, 62] i) (h : l.length ≤ i + 1) : Lib.cut l [62, 62] = (l, [], false) := by
  have hi := Lib.index_past (by simp) hn (by simp; omega)
  unfold Lib.cut
  rw [hi, if_neg (by omega)]

theorem right_parts (c s : List UInt8) : rightD ⟨2, c, [], [], s, []⟩ = (isCl c && isSel s) := by
  rw [rightD_two rfl]
  simp [rightM]

theorem cl_object : isCl [79, 98, 106, 101, 99, 116] = true := by decide +kernel

theorem right_own (c : List UInt8) : rightD ⟨1, c, [79, 98, 106, 101, 99, 116], [], [], []⟩ = ownCl c := by
  rw [rightD_one rfl]
  unfold rightC
  rw [show areVars [] = true from rfl]
  dsimp only
  rw [cl_object]
  simp

theorem split_m {l c s : List UInt8} (h : Lib.cut l [62, 62] = (c, s, true)) (hr : rightD ⟨2, c, [], [], s, []⟩ = true) : splitD l = (c, s, true) := by
  rw [right_parts] at hr
  unfold splitD splitC
  rw [h, if_pos rfl, if_pos hr]
theorem split_mno {l c s : List UInt8} (h : Lib.cut l [62, 62] = (c, s, true)) (hr : rightD ⟨2, c, [], [], s, []⟩ = false) : splitD l = ([], [], false) := by
  rw [right_parts] at hr
  unfold splitD splitC
  rw [h, if_pos rfl, if_neg (by rw [hr]; simp)]
theorem split_c {l : List UInt8} (h : Lib.cut l [62, 62] = (l, [], false)) (hr : rightD ⟨1, l, [79, 98, 106, 101, 99, 116], [], [], []⟩ = true) : splitD l = (l, [], true) := by
  rw [right_own] at hr
  unfold splitD splitC
  rw [h, if_neg (by simp), if_pos hr]
theorem split_cno {l : List UInt8} (h : Lib.cut l [62, 62] = (l, [], false)) (hr : rightD ⟨1, l, [79, 98, 106, 101, 99, 116], [], [], []⟩ = false) : splitD l = ([], [], false) := by
  rw [right_own] at hr
  unfold splitD splitC
  rw [h, if_neg (by simp), if_neg (by rw [hr]; simp)]

/-- A class name has no '>'. -/
theorem cl_no {l : List UInt8} (h : isCl l = true) : ∀ b ∈ l, b ≠ 62 := by
  intro b hb e
  subst e
  simp only [isCl, isNm, Bool.and_eq_true, List.all_eq_true] at h
  have := h.1.2 62 hb
  revert this
  decide

theorem cut_class {c : List UInt8} (h : isCl c = true) : Lib.cut c [62, 62] = (c, [], false) := by
  refine cut_none (i := c.length) (fun j hj => ?_) (by omega)
  unfold Lib.occAt
  rw [List.drop_eq_getElem_cons hj]
  have hne : c[j] ≠ 62 := cl_no h _ (List.getElem_mem hj)
  simp only [List.isPrefixOf]
  rw [beq_eq_false_iff_ne.2 (Ne.symm hne)]
  rfl

theorem cut_method {c s : List UInt8} (h : isCl c = true) : Lib.cut (c ++ [62, 62] ++ s) [62, 62] = (c, s, true) := by
  have e : Lib.cut (c ++ [62, 62] ++ s) [62, 62] = ((c ++ [62, 62] ++ s).take c.length, (c ++ [62, 62] ++ s).drop (c.length + 2), true) := by
    refine cut_at (by simp) (fun j hj => ?_) ?_
    · unfold Lib.occAt
      rw [List.append_assoc, List.drop_append_of_le_length (by omega), List.drop_eq_getElem_cons hj]
      have hne : c[j] ≠ 62 := cl_no h _ (List.getElem_mem hj)
      simp only [List.isPrefixOf, List.cons_append]
      rw [beq_eq_false_iff_ne.2 (Ne.symm hne)]
      rfl
    · unfold Lib.occAt
      rw [List.append_assoc, List.drop_left]
      simp
  rw [e]
  congr 1
  · rw [List.append_assoc, List.take_left]
  · congr 1
    rw [show c.length + 2 = (c ++ [62, 62]).length by simp, List.drop_left]

/-- The key of a valid definition has its parts, and says its kind. -/
theorem split_key {d : DD} (h : rightD d = true) : splitD (keyD d) = (d.c, d.s, true) := by
  unfold keyD
  rw [if_pos h]
  rcases right_kind h with hk | hk
  · rw [if_neg (by rw [hk]; decide)]
    rw [rightD_one hk] at h
    simp only [rightC, Bool.and_eq_true, ownCl] at h
    obtain ⟨⟨⟨⟨h1, _⟩, _⟩, h4⟩, _⟩ := h
    have hs : d.s = [] := by simpa using h4
    unfold splitD splitC
    rw [cut_class h1.1, if_neg (by simp), if_pos (by simp only [ownCl, Bool.and_eq_true]; exact h1), hs]
  · rw [if_pos hk]
    rw [rightD_two hk] at h
    simp only [rightM, Bool.and_eq_true] at h
    obtain ⟨⟨⟨⟨h1, h2⟩, _⟩, _⟩, _⟩ := h
    unfold splitD splitC
    rw [cut_method h1, if_pos rfl, if_pos (by rw [h1, h2]; rfl)]

theorem key_kind {a b : DD} (ha : rightD a = true) (hb : rightD b = true) (h : keyD a = keyD b) : a.k = b.k := by
  have e : ∀ {d : DD}, rightD d = true → (d.k = 1 ∧ (Lib.cut (keyD d) [62, 62]).2.2 = false) ∨ (d.k = 2 ∧ (Lib.cut (keyD d) [62, 62]).2.2 = true) := by
    intro d h
    unfold keyD
    rw [if_pos h]
    rcases right_kind h with hk | hk
    · refine .inl ⟨hk, ?_⟩
      rw [if_neg (by rw [hk]; decide)]
      rw [rightD_one hk] at h
      simp only [rightC, Bool.and_eq_true, ownCl] at h
      rw [cut_class h.1.1.1.1.1]
    · refine .inr ⟨hk, ?_⟩
      rw [if_pos hk]
      rw [rightD_two hk] at h
      simp only [rightM, Bool.and_eq_true] at h
      rw [cut_method h.1.1.1.1]
  rcases e ha with ⟨h1, h2⟩ | ⟨h1, h2⟩ <;> rcases e hb with ⟨h3, h4⟩ | ⟨h3, h4⟩
  · rw [h1, h3]
  · rw [h, h4] at h2; cases h2
  · rw [h, h4] at h2; cases h2
  · rw [h1, h3]

theorem key_ne {d : DD} (h : rightD d = true) : keyD d ≠ [] := by
  intro e
  have := split_key h
  rw [e] at this
  have e2 : splitD [] = ([], [], false) := by decide +kernel
  rw [e2] at this
  have := congrArg (fun r => r.2.2) this
  cases this

end Go.Mk
