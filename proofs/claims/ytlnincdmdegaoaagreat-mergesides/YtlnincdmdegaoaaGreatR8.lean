/-
  The reference of layer 8: Find, Put, Drop, New over definitions in a row.
-/
import Derived.Test.YtlnincdmdegaoaaGreatGDh
import Derived.Test.YtlnincdmdegaoaaGreatR7b
import Derived.Deep.CutBlock
import Derived.Deep.DeepCutAuto
namespace Go.Proofs.YtlnincdmdegaoaaGreat
open Go.RowKit Go.Mk Go.Maps

def cellsE1 (e : Ent) : List Value := [.int .i64 e.1.k, .string (bs e.1.c), .string (bs e.1.p), .slice e.2.1 e.1.vs.length e.2.2, .string (bs e.1.s), .string (bs e.1.t)]
def cellsE (es : List Ent) : List Value := es.flatMap cellsE1

theorem cellsE_snoc (es : List Ent) (e : Ent) : cellsE (es ++ [e]) = cellsE es ++ cellsE1 e := by simp [cellsE]
theorem cellsE_one (es : List Ent) : ∀ u ∈ cellsE es, u.oneCell' = true := by
  intro u hu
  obtain ⟨e, _, he⟩ := List.mem_flatMap.1 hu
  simp [cellsE1] at he
  rcases he with rfl | rfl | rfl | rfl | rfl | rfl <;> rfl

theorem cellsE_get : ∀ (es : List Ent) (j : Nat) (h : j < es.length) (i : Nat) (u : Value), (cellsE1 es[j])[i]? = some u → (cellsE es)[j * 6 + i]? = some u
  | [], j, h, _, _, _ => by simp at h
  | e :: es, 0, _, i, u, hu => by
    have hi : i < 6 := by have := (List.getElem?_eq_some_iff.1 hu).1; simpa [cellsE1] using this
    rw [cellsE, List.flatMap_cons, List.getElem?_append_left (by simp [cellsE1]; omega)]
    simpa using hu
  | e :: es, j + 1, h, i, u, hu => by
    have := cellsE_get es j (by simpa using h) i u (by simpa using hu)
    rw [cellsE, List.flatMap_cons, List.getElem?_append_right (by simp [cellsE1]; omega)]
    rw [show (j + 1) * 6 + i - (cellsE1 e).length = j * 6 + i by simp [cellsE1]; omega]
    exact this

theorem Tryz.infoDef : (Tryz.prog.info? 43).map (fun i => (i.zero, i.size, i.bytes)) = some (some (.agg #[.int .i64 0, .string ⟨#[]⟩, .string ⟨#[]⟩, .slice none 0 0, .string ⟨#[]⟩, .string ⟨#[]⟩]), 6, 96) := by kernel_rfl

theorem src_def (w : World) (e : Ent) (t : TypeId) : Src Tryz.prog 6 22 (.slice (some ⟨w.heap.size, 0, none⟩) 1 1) 1 (cellsE1 e) (w.alloc (.cells #[.int .i64 e.1.k, .string (bs e.1.c), .string (bs e.1.p), .slice e.2.1 e.1.vs.length e.2.2, .string (bs e.1.s), .string (bs e.1.t)] t)) :=
  Src.ofSlice _ Tryz.underlying22 _ 1 1 (cellsE1 e) rfl (fun j u hu => by
    rw [Addr.add_lit, Nat.zero_add]
    have e1 : (w.alloc (.cells (cellsE1 e).toArray t)).cell? ⟨w.heap.size, j, none⟩ = _ := World.cell?_alloc_new w (cellsE1 e).toArray t j
    exact e1.trans (by simpa using hu)) (fun u hu => by
    simp [cellsE1] at hu
    rcases hu with rfl | rfl | rfl | rfl | rfl | rfl <;> rfl)

/-- What is owned lies there in a row. -/
theorem owns_ds {w : World} {base : Nat} {ao : Option Addr} {cap : Nat} {es : List Ent} (h : w.ownsRow base 43 6 (.slice ao es.length cap) es.length (cellsE es)) (hl : ∀ e ∈ es, Lies w w.heap.size e.2.1 (strs e.1.vs) ∧ e.1.vs.length ≤ e.2.2) : Ds w w.heap.size ao es := by
  refine ⟨fun hn => ?_, hl⟩
  rcases h.2 with ⟨_, h2⟩ | ⟨g, c, cur, hv, _, hg, _⟩
  · exact (hn (List.eq_nil_of_length_eq_zero h2)).elim
  · cases hv
    refine ⟨g, 0, rfl, (Array.getElem?_eq_some_iff.1 hg).1, fun j hj => ?_⟩
    have hc : ∀ i u, (cellsE1 es[j])[i]? = some u → w.cell? ⟨g, 0 + j * 6 + i, none⟩ = some u := fun i u hu => by
      have := h.cells (g := g) rfl (j * 6 + i) u (cellsE_get es j hj i u hu)
      rw [Addr.add_lit] at this
      rw [Nat.zero_add] at this ⊢
      exact this
    exact ⟨hc 0 _ rfl, hc 1 _ rfl, hc 2 _ rfl, hc 3 _ rfl, hc 4 _ rfl, hc 5 _ rfl⟩

set_option maxHeartbeats 1000000 in
set_option maxRecDepth 100000 in
theorem rfind_any (la : Option Addr) (lc : Nat) (es : List Ent) (key : List UInt8) (B : Nat) (w : World) (hD : Ds w B la es) (hl : ∀ e ∈ es, Len8 e.1) (hn : es.length ≤ 1000000) :
    Calls Tryz.prog 39 #[.slice la es.length lc, .string (bs key)] w fun e w' => e = .returned (.int .i64 (findI keyE key es)) ∧ Kept (fun _ => False) w w' := by
  have HD := Lib.hid hD; have HL := Lib.hid hl
  clear hD hl
  have z2 := bs_list key
  go_enter Tryz.func39, Tryz.ntmps39
  go_wp2
  go_loopg [5] es.length (fun k c wr => ∃ j, k = es.length - j ∧ j ≤ es.length ∧ c = .int .i64 (j : Int) ∧ (∀ x ∈ es.take j, keyE x ≠ key) ∧ Kept (fun _ => False) w wr)
  case atStart => exact ⟨0, rfl, Nat.zero_le _, rfl, by simp, Kept.refl _ _⟩
  case round =>
    obtain ⟨j, hk, hj, rfl, hno, hw⟩ := hrel
    have HK := Lib.hid hk; have HNO := Lib.hid hno; have HW := Lib.hid hw
    clear hk hno hw
    by_cases hlt : j < es.length
    · obtain ⟨xb, xo, rfl, hxb, hc⟩ := HD.out.row (by intro h; rw [h] at hlt; simp at hlt)
      obtain ⟨c0, c1, c2, c3, c4, c5⟩ := (hc j hlt).kept HW.out (fun h => h)
      have hmem := List.getElem_mem hlt
      have HLE := Lib.hid (HL.out es[j] hmem)
      have HLI := Lib.hid (HD.out.lies es[j] hmem)
      have HAT := Lib.hid (fun (h : keyE es[j] = key) => findI_at j hlt h HNO.out)
      have HTK := Lib.hid (show ∀ (_ : keyE es[j] ≠ key), ∀ x ∈ es.take (j + 1), keyE x ≠ key from fun h x hx => by
        rw [List.take_add_one, List.getElem?_eq_getElem hlt, Option.toList_some] at hx
        rcases List.mem_append.1 hx with hx | hx
        · exact HNO.out x hx
        · rw [List.mem_singleton] at hx; rw [hx]; exact h)
      have i1 : (j : Int) < (es.length : Int) := by omega
      clear hc hmem
      generalize es[j] = x at *
      obtain ⟨d, ao, cap⟩ := x
      dsimp only at c0 c1 c2 c3 c4 c5 HLE HLI
      have HKEY := Lib.hid (rkey_any d ao cap B wr (HLI.out.1.kept HW.out (fun _ _ _ h => h)) HLI.out.2 HLE.out.n HLE.out.s HLE.out.c)
      have hke : keyE (d, ao, cap) = keyD d := rfl
      rw [hke] at HAT HTK
      generalize keyD d = kd at *
      have z1 := bs_list kd
      go_wp2_with fail
      refine HKEY.out.mono ?_
      rintro e w1 ⟨rfl, k1⟩
      have K1 := Lib.hid (HW.out.trans k1 (fun _ _ h => h)); clear k1
      cases hq : kd == key with
      | true =>
        have HE := Lib.hid (HAT.out (by simpa using hq))
        go_wp2
        go_ret
        exact ⟨by rw [HE.out]; rfl, K1.out⟩
      | false =>
        have HT := Lib.hid (HTK.out (by simpa using hq))
        go_wp2
        go_roundg (es.length - (j + 1))
        case measure => have := HK.out; omega
        case rel => exact ⟨j + 1, rfl, by omega, by go_num, HT.out, K1.out⟩
    · obtain rfl : j = es.length := by omega
      have h := HNO.out
      rw [List.take_length] at h
      have HE := Lib.hid (findI_no h)
      clear h hlt
      go_wp2
      go_ret
      exact ⟨by rw [HE.out]; rfl, HW.out⟩

/-- A new row of definitions. -/
def RlPost (w : World) (es : List Ent) (e : Ending) (w' : World) : Prop := ∃ ao cap, e = .returned (.slice ao es.length cap) ∧ w'.ownsRow w.heap.size 43 6 (.slice ao es.length cap) es.length (cellsE es) ∧ Kept (fun _ => False) w w'

theorem dropK_take (es : List Ent) (key : List UInt8) (j : Nat) (h : j < es.length) : dropK keyE key (es.take (j + 1)) = if keyE es[j] = key then dropK keyE key (es.take j) else dropK keyE key (es.take j) ++ [es[j]] := by
  unfold dropK
  rw [List.take_add_one, List.getElem?_eq_getElem h, Option.toList_some, List.filter_append]
  by_cases hk : keyE es[j] = key
  · simp [hk]
  · simp [hk]

theorem putS_mem1 {x : Ent} (st : List Ent × Bool) (z y : Ent) (hy : y ∈ (putS keyE x st z).1) : y ∈ st.1 ∨ y = x ∨ y = z := by
  unfold putS at hy
  dsimp only at hy
  by_cases h1 : st.2 = false ∧ ¬ keyE z < keyE x
  · rw [if_pos h1] at hy
    by_cases h2 : keyE z = keyE x
    · rw [if_pos h2] at hy
      simp only [List.mem_append, List.mem_singleton] at hy
      rcases hy with hy | hy
      · exact .inl hy
      · exact .inr (.inl hy)
    · rw [if_neg h2] at hy
      simp only [List.mem_append, List.mem_singleton] at hy
      rcases hy with (hy | hy) | hy
      · exact .inl hy
      · exact .inr (.inl hy)
      · exact .inr (.inr hy)
  · rw [if_neg h1] at hy
    by_cases h2 : keyE z = keyE x
    · rw [if_pos h2] at hy
      exact .inl hy
    · rw [if_neg h2] at hy
      simp only [List.mem_append, List.mem_singleton] at hy
      rcases hy with hy | hy
      · exact .inl hy
      · exact .inr (.inr hy)

theorem putS_mem {x : Ent} : ∀ (l : List Ent) (st : List Ent × Bool), ∀ y ∈ (l.foldl (putS keyE x) st).1, y ∈ st.1 ∨ y = x ∨ y ∈ l
  | [], st, y, hy => .inl hy
  | z :: l, st, y, hy => by
    rw [List.foldl_cons] at hy
    rcases putS_mem l _ y hy with h | h | h
    · rcases putS_mem1 st z y h with h | h | h
      · exact .inl h
      · exact .inr (.inl h)
      · exact .inr (.inr (by simp [h]))
    · exact .inr (.inl h)
    · exact .inr (.inr (by simp [h]))

theorem putS_len {x : Ent} (st : List Ent × Bool) (z : Ent) : (putS keyE x st z).1.length ≤ st.1.length + 2 := by
  unfold putS
  dsimp only
  by_cases h1 : st.2 = false ∧ ¬ keyE z < keyE x
  · rw [if_pos h1]
    by_cases h2 : keyE z = keyE x
    · rw [if_pos h2]; simp
    · rw [if_neg h2]; simp
  · rw [if_neg h1]
    by_cases h2 : keyE z = keyE x
    · rw [if_pos h2]; omega
    · rw [if_neg h2]; simp

theorem putS_t1 (x z : Ent) (acc : List Ent) (h : keyE z = keyE x) : putS keyE x (acc, true) z = (acc, true) := by simp [putS, h]
theorem putS_t2 (x z : Ent) (acc : List Ent) (h : keyE z ≠ keyE x) : putS keyE x (acc, true) z = (acc ++ [z], true) := by simp [putS, h]
theorem putS_f1 (x z : Ent) (acc : List Ent) (h : keyE z < keyE x) : putS keyE x (acc, false) z = (acc ++ [z], false) := by simp [putS, h, lt_ne h]
theorem putS_f2 (x z : Ent) (acc : List Ent) (h : keyE z = keyE x) : putS keyE x (acc, false) z = (acc ++ [x], true) := by simp [putS, h, lt_irr]
theorem putS_f3 (x z : Ent) (acc : List Ent) (h : keyE x < keyE z) : putS keyE x (acc, false) z = (acc ++ [x] ++ [z], true) := by have h2 : keyE z ≠ keyE x := fun e => lt_ne h e.symm; simp [putS, lt_asy h, h2]

theorem putS_take (es : List Ent) (x : Ent) (j : Nat) (h : j < es.length) : (es.take (j + 1)).foldl (putS keyE x) ([], false) = putS keyE x ((es.take j).foldl (putS keyE x) ([], false)) es[j] := by
  rw [List.take_add_one, List.getElem?_eq_getElem h, Option.toList_some, List.foldl_append]
  rfl

/-- The reference's Put under way: what was laid out, and whether the new one is among it. -/
structure Rp (w : World) (x : Ent) (v : Value) (acc : List Ent) (wx : World) : Prop where
  own : wx.ownsRow (w.heap.size + 1) 43 6 v acc.length (cellsE acc)
  bx : Bx wx w.heap.size x.2.1 x.2.2 x.1
  k : Kept (fun _ => False) w wx
  sz : w.heap.size + 1 ≤ wx.heap.size

theorem Rp.keep {w : World} {x : Ent} {v : Value} {acc : List Ent} {wx wy : World} (h : Rp w x v acc wx) (hk : Kept (fun _ => False) wx wy) : Rp w x v acc wy :=
  ⟨owns_kept h.own hk (fun _ _ h => h), h.bx.kept hk (fun h => h), h.k.trans hk (fun _ _ h => h), Nat.le_trans h.sz hk.size⟩

/-- Behind an append of one definition. -/
theorem Rp.app {w : World} {x : Ent} {v v' : Value} {acc : List Ent} {wx wy : World} {o : Obj} (h : Rp w x v acc wx) (y : Ent) (ho : wy.ownsRow 0 43 6 v' (acc.length + 1) (cellsE acc ++ cellsE1 y)) (hg : (wx.alloc o).grownBy wy v.ownBlock) (hb : v'.ownBlock = v.ownBlock ∨ v'.ownBlock = some (wx.heap.size + 1)) : Rp w x v' (acc ++ [y]) wy := by
  have hlo := owns_lt h.own
  have hsz := h.sz
  have hrow : ∀ k, v'.ownBlock = some k → w.heap.size + 1 ≤ k := fun k hk => by
    rcases hb with hb | hb
    · rw [hb] at hk; exact (hlo k hk).1
    · rw [hb] at hk; cases hk; omega
  have k4 : Kept (fun k => w.heap.size + 1 ≤ k) wx wy := Kept.grown ((Kept.refl _ wx).alloc _) hg (fun k hk _ => (hlo k hk).1)
  refine ⟨?_, h.bx.kept k4 (by omega), h.k.trans k4 (fun i hi h => absurd h (by omega)), Nat.le_trans h.sz k4.size⟩
  have := owns_base (base' := w.heap.size + 1) ho hrow
  rw [← cellsE_snoc] at this
  simpa using this

set_option maxHeartbeats 2000000 in
set_option maxRecDepth 100000 in
theorem rput_any (la : Option Addr) (lc : Nat) (es : List Ent) (d : DD) (ao : Option Addr) (cap : Nat) (B : Nat) (w : World) (hD : Ds w B la es) (hl : ∀ e ∈ es, Len8 e.1) (hn : es.length ≤ 100000) (hA : Lies w B ao (strs d.vs)) (hc : d.vs.length ≤ cap) (hL : Len8 d) :
    Calls Tryz.prog 22 #[.slice la es.length lc, .agg #[.int .i64 d.k, .string (bs d.c), .string (bs d.p), .slice ao d.vs.length cap, .string (bs d.s), .string (bs d.t)]] w (RlPost w (putE (d, ao, cap) (es.foldl (putS keyE (d, ao, cap)) ([], false)))) := by
  obtain ⟨i0, hi, hz0, hz1, hz2⟩ := info_parts Tryz.infoDef
  have HD := Lib.hid hD; have HL := Lib.hid hl
  have KA := Lib.hid ((Kept.refl (fun _ => False) w).alloc (.cells #[.int .i64 d.k, .string (bs d.c), .string (bs d.p), .slice ao d.vs.length cap, .string (bs d.s), .string (bs d.t)] 43))
  have BX := Lib.hid (bx_new w ao cap d 43)
  have HKEY := Lib.hid (fun (wx : World) (h : Kept (fun _ => False) w wx) => rkey_any d ao cap B wx (hA.kept h (fun _ _ _ h => h)) hc hL.n hL.s hL.c)
  clear hD hl hA hc hL
  obtain ⟨x, hx⟩ : ∃ x : Ent, x = (d, ao, cap) := ⟨_, rfl⟩
  have HX := Lib.hid hx
  have HKX := Lib.hid (show keyE x = keyD d by rw [hx]; rfl)
  rw [← hx]
  generalize hkd : keyD d = kd at *
  clear hx hkd
  have z1 := bs_list kd
  obtain ⟨c0, c1, c2, c3, c4, c5⟩ := BX.out
  go_enter Tryz.func22, Tryz.ntmps22
  go_wp2_with fail
  refine (HKEY.out _ KA.out).mono ?_
  rintro e w1 ⟨rfl, k1⟩
  have hsz := k1.size
  rw [World.size_alloc] at hsz
  have RP := Lib.hid (show Rp w x (.slice none 0 0) [] w1 from ⟨World.ownsRow_nil _ _ _ _, by rw [HX.out]; exact BX.out.kept k1 (fun h => h), KA.out.trans k1 (fun _ _ h => h), hsz⟩)
  clear k1 c0 c1 c2 c3 c4 c5 hsz
  go_wp2
  go_loopg [6, 7, 8] es.length (fun k v b c wr => ∃ j st, k = es.length - j ∧ j ≤ es.length ∧ c = .int .i64 (j : Int) ∧ b = .bool st.2 ∧ st = (es.take j).foldl (putS keyE x) ([], false) ∧ st.1.length ≤ 2 * j ∧ Rp w x v st.1 wr)
  case atStart => exact ⟨0, ([], false), rfl, Nat.zero_le _, rfl, rfl, rfl, Nat.le_refl _, RP.out⟩
  case round =>
    obtain ⟨j, st, hk, hj, rfl, rfl, hst, hsl, hw⟩ := hrel
    obtain ⟨acc, dn⟩ := st
    dsimp only at *
    have HK := Lib.hid hk; have HST := Lib.hid hst; have HSL := Lib.hid hsl; have HW := Lib.hid hw
    clear hk hst hsl hw
    by_cases hlt : j < es.length
    · obtain ⟨xb, xo, rfl, hxb, hc⟩ := HD.out.row (by intro h; rw [h] at hlt; simp at hlt)
      have HB := Lib.hid (hc j hlt)
      obtain ⟨c0, c1, c2, c3, c4, c5⟩ := (hc j hlt).kept HW.out.k (fun h => h)
      have hmem := List.getElem_mem hlt
      have HLE := Lib.hid (HL.out es[j] hmem)
      have HLI := Lib.hid (HD.out.lies es[j] hmem)
      have HTK := Lib.hid (putS_take es x j hlt)
      have i1 : (j : Int) < (es.length : Int) := by omega
      clear hc hmem
      generalize es[j] = y at *
      obtain ⟨d', ao', cap'⟩ := y
      dsimp only at c0 c1 c2 c3 c4 c5 HLE HLI HB
      have HKEY' := Lib.hid (rkey_any d' ao' cap' B wr (HLI.out.1.kept HW.out.k (fun _ _ _ h => h)) HLI.out.2 HLE.out.n HLE.out.s HLE.out.c)
      have hke : keyE (d', ao', cap') = keyD d' := rfl
      rw [← HST.out] at HTK
      have HKE := Lib.hid hke
      clear hke
      generalize keyD d' = k' at *
      have z3 := bs_list k'
      have hx := HX.out
      subst hx
      go_wp2_with fail
      refine HKEY'.out.mono ?_
      rintro e w1 ⟨rfl, k1⟩
      have RW := Lib.hid (HW.out.keep k1)
      clear k1 c0 c1 c2 c3 c4 c5
      have hleq : ∀ t (a b : ByteArray), binOp .leq t (.string a) (.string b) = pure (.bool (Op.bytesLess a.toList b.toList || a.toList == b.toList)) := fun t a b => by simp [binOp, Op.stringOp]
      cases dn with
      | true =>
        by_cases hq : k' = kd
        · have q2 : (k' == kd) = true := by simpa using hq
          clear hleq
          have HT := Lib.hid (HTK.out.trans (putS_t1 _ _ _ (HKE.out.trans (hq.trans HKX.out.symm))))
          clear hq
          go_wp2
          go_roundg (es.length - (j + 1))
          case measure => have := HK.out; omega
          case rel => exact ⟨j + 1, (acc, true), rfl, by omega, by go_num, rfl, HT.out.symm, by have := HSL.out; simp; omega, RW.out⟩
        · have q2 : (k' == kd) = false := by simpa using hq
          clear hleq
          have HT := Lib.hid (HTK.out.trans (putS_t2 _ _ _ (fun h => hq (HKE.out.symm.trans (h.trans HKX.out)))))
          clear hq
          obtain ⟨b0, b1, b2, b3, b4, b5⟩ := HB.out.kept RW.out.k (fun h => h)
          have hlaR4 := RW.out
          go_wp2_with (at_builtin; refine wpList_app _ rfl (.tmp 37) (.tmp 42) 22 22 rfl 43 i0 (.agg #[.int .i64 0, .string ⟨#[]⟩, .string ⟨#[]⟩, .slice none 0 0, .string ⟨#[]⟩, .string ⟨#[]⟩]) 6 96 Tryz.underlying22 hi hz0 hz1 hz2 rfl _ _ _ rfl ((owns_base (base' := 0) RW.out.own (fun _ _ => Nat.zero_le _)).alloc _) (.slice (some ⟨w1.heap.size, 0, none⟩) 1 1) 1 (cellsE1 (d', ao', cap')) rfl (src_def w1 (d', ao', cap') _) ?b1 ?b2 ?next)
          case b1 => unfold maxLen; have := HSL.out;  omega
          case b2 => have := HSL.out;  omega
          case next =>
            intro v4 w4 ho4 hg4 hb4 _
            have R4 := Lib.hid (RW.out.app (d', ao', cap') ho4 hg4 hb4)
            clear ho4 hg4 hb4 hlaR4
            go_wp2
            go_roundg (es.length - (j + 1))
            case measure => have := HK.out; omega
            case rel => exact ⟨j + 1, (acc ++ [(d', ao', cap')], true), rfl, by omega, by go_num, rfl, HT.out.symm, by have := HSL.out; simp; omega, R4.out⟩
      | false =>
        rcases lt_tri k' kd with hq | hq | hq
        · have q2 : (k' == kd) = false := by simpa using lt_ne hq
          have q1 : (Op.bytesLess kd k' || kd == k') = false := by rw [bytesLess_lt, decide_eq_false (lt_asy hq)]; simpa using fun h => lt_ne hq h.symm
          have HT := Lib.hid (HTK.out.trans (putS_f1 _ _ _ (by rw [HKE.out, HKX.out]; exact hq)))
          clear hq
          obtain ⟨b0, b1, b2, b3, b4, b5⟩ := HB.out.kept RW.out.k (fun h => h)
          have hlaR4 := RW.out
          go_wp2_with (at_builtin; refine wpList_app _ rfl (.tmp 37) (.tmp 42) 22 22 rfl 43 i0 (.agg #[.int .i64 0, .string ⟨#[]⟩, .string ⟨#[]⟩, .slice none 0 0, .string ⟨#[]⟩, .string ⟨#[]⟩]) 6 96 Tryz.underlying22 hi hz0 hz1 hz2 rfl _ _ _ rfl ((owns_base (base' := 0) RW.out.own (fun _ _ => Nat.zero_le _)).alloc _) (.slice (some ⟨w1.heap.size, 0, none⟩) 1 1) 1 (cellsE1 (d', ao', cap')) rfl (src_def w1 (d', ao', cap') _) ?b1 ?b2 ?next)
          case b1 => unfold maxLen; have := HSL.out;  omega
          case b2 => have := HSL.out;  omega
          case next =>
            intro v4 w4 ho4 hg4 hb4 _
            have R4 := Lib.hid (RW.out.app (d', ao', cap') ho4 hg4 hb4)
            clear ho4 hg4 hb4 hlaR4
            go_wp2
            go_roundg (es.length - (j + 1))
            case measure => have := HK.out; omega
            case rel => exact ⟨j + 1, (acc ++ [(d', ao', cap')], false), rfl, by omega, by go_num, rfl, HT.out.symm, by have := HSL.out; simp; omega, R4.out⟩
        · have q2 : (k' == kd) = true := by simpa using hq
          have q1 : (Op.bytesLess kd k' || kd == k') = true := by rw [hq]; simp
          
          have HT := Lib.hid (HTK.out.trans (putS_f2 _ _ _ (HKE.out.trans (hq.trans HKX.out.symm))))
          clear hq
          obtain ⟨c0, c1, c2, c3, c4, c5⟩ := RW.out.bx
          have hlaR4 := RW.out
          go_wp2_with (at_builtin; refine wpList_app _ rfl (.tmp 30) (.tmp 32) 22 22 rfl 43 i0 (.agg #[.int .i64 0, .string ⟨#[]⟩, .string ⟨#[]⟩, .slice none 0 0, .string ⟨#[]⟩, .string ⟨#[]⟩]) 6 96 Tryz.underlying22 hi hz0 hz1 hz2 rfl _ _ _ rfl ((owns_base (base' := 0) RW.out.own (fun _ _ => Nat.zero_le _)).alloc _) (.slice (some ⟨w1.heap.size, 0, none⟩) 1 1) 1 (cellsE1 (d, ao, cap)) rfl (src_def w1 (d, ao, cap) _) ?b1 ?b2 ?next)
          case b1 => unfold maxLen; have := HSL.out;  omega
          case b2 => have := HSL.out;  omega
          case next =>
            intro v4 w4 ho4 hg4 hb4 _
            have R4 := Lib.hid (RW.out.app (d, ao, cap) ho4 hg4 hb4)
            clear ho4 hg4 hb4 hlaR4
            go_wp2
            go_roundg (es.length - (j + 1))
            case measure => have := HK.out; omega
            case rel => exact ⟨j + 1, (acc ++ [(d, ao, cap)], true), rfl, by omega, by go_num, rfl, HT.out.symm, by have := HSL.out; simp; omega, R4.out⟩
        · have q2 : (k' == kd) = false := by simpa using fun h => lt_ne hq h.symm
          have q1 : (Op.bytesLess kd k' || kd == k') = true := by rw [bytesLess_lt, decide_eq_true hq]; rfl
          
          have HT := Lib.hid (HTK.out.trans (putS_f3 _ _ _ (by rw [HKE.out, HKX.out]; exact hq)))
          clear hq
          obtain ⟨c0, c1, c2, c3, c4, c5⟩ := RW.out.bx
          have hlaR4 := RW.out
          go_wp2_with (at_builtin; refine wpList_app _ rfl (.tmp 30) (.tmp 32) 22 22 rfl 43 i0 (.agg #[.int .i64 0, .string ⟨#[]⟩, .string ⟨#[]⟩, .slice none 0 0, .string ⟨#[]⟩, .string ⟨#[]⟩]) 6 96 Tryz.underlying22 hi hz0 hz1 hz2 rfl _ _ _ rfl ((owns_base (base' := 0) RW.out.own (fun _ _ => Nat.zero_le _)).alloc _) (.slice (some ⟨w1.heap.size, 0, none⟩) 1 1) 1 (cellsE1 (d, ao, cap)) rfl (src_def w1 (d, ao, cap) _) ?b1 ?b2 ?next)
          case b1 => unfold maxLen; have := HSL.out;  omega
          case b2 => have := HSL.out;  omega
          case next =>
            intro v4 w4 ho4 hg4 hb4 _
            have R4 := Lib.hid (RW.out.app (d, ao, cap) ho4 hg4 hb4)
            clear ho4 hg4 hb4 hlaR4
            clear c0 c1 c2 c3 c4 c5
            obtain ⟨b0, b1, b2, b3, b4, b5⟩ := HB.out.kept R4.out.k (fun h => h)
            have hlaR5 := R4.out
            go_wp2_with (at_builtin; refine wpList_app _ rfl (.tmp 37) (.tmp 42) 22 22 rfl 43 i0 (.agg #[.int .i64 0, .string ⟨#[]⟩, .string ⟨#[]⟩, .slice none 0 0, .string ⟨#[]⟩, .string ⟨#[]⟩]) 6 96 Tryz.underlying22 hi hz0 hz1 hz2 rfl _ _ _ rfl ((owns_base (base' := 0) R4.out.own (fun _ _ => Nat.zero_le _)).alloc _) (.slice (some ⟨w4.heap.size, 0, none⟩) 1 1) 1 (cellsE1 (d', ao', cap')) rfl (src_def w4 (d', ao', cap') _) ?b1 ?b2 ?next)
            case b1 => unfold maxLen; have := HSL.out; simp; omega
            case b2 => have := HSL.out; simp; omega
            case next =>
              intro v5 w5 ho4 hg4 hb4 _
              have R5 := Lib.hid (R4.out.app (d', ao', cap') (by simpa using ho4) hg4 hb4)
              clear ho4 hg4 hb4 hlaR5
              go_wp2
              go_roundg (es.length - (j + 1))
              case measure => have := HK.out; omega
              case rel => exact ⟨j + 1, (acc ++ [(d, ao, cap)] ++ [(d', ao', cap')], true), rfl, by omega, by go_num, rfl, HT.out.symm, by have := HSL.out; simp; omega, R5.out⟩
    · obtain rfl : j = es.length := by omega
      have h := HST.out
      rw [List.take_length] at h
      have HE := Lib.hid h
      clear h hlt
      obtain ⟨c0, c1, c2, c3, c4, c5⟩ := HW.out.bx
      have hla := HSL.out
      have hx := HX.out
      subst hx
      dsimp only at c0 c1 c2 c3 c4 c5
      cases dn with
      | true =>
        obtain ⟨ao', cap', rfl⟩ := owns_slice HW.out.own
        go_wp2
        go_ret
        rw [← HE.out]
        exact ⟨ao', cap', rfl, owns_base HW.out.own (fun k hk => by have := (owns_lt HW.out.own k hk).1; omega), HW.out.k⟩
      | false =>
        go_wp2_with (at_builtin; refine wpList_app _ rfl (.tmp 46) (.tmp 48) 22 22 rfl 43 i0 (.agg #[.int .i64 0, .string ⟨#[]⟩, .string ⟨#[]⟩, .slice none 0 0, .string ⟨#[]⟩, .string ⟨#[]⟩]) 6 96 Tryz.underlying22 hi hz0 hz1 hz2 rfl _ _ _ rfl ((owns_base (base' := 0) HW.out.own (fun _ _ => Nat.zero_le _)).alloc _) (.slice (some ⟨wr.heap.size, 0, none⟩) 1 1) 1 (cellsE1 (d, ao, cap)) rfl (src_def wr (d, ao, cap) _) ?b1 ?b2 ?next)
        case b1 => unfold maxLen; omega
        case b2 => omega
        case next =>
          intro v' w4 ho4 hg4 hb4 _
          have R4 := Lib.hid (HW.out.app (d, ao, cap) ho4 hg4 hb4)
          clear ho4 hg4 hb4
          obtain ⟨ao', cap', rfl⟩ := owns_slice R4.out.own
          go_wp2
          go_ret
          rw [← HE.out]
          exact ⟨ao', cap', by simp [putE], owns_base R4.out.own (fun k hk => by have := (owns_lt R4.out.own k hk).1; omega), R4.out.k⟩

end Go.Proofs.YtlnincdmdegaoaaGreat
