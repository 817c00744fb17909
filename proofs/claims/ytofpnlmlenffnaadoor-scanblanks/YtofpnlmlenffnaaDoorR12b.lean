/-
  The reference of layer 12: Token, where a name or a keyword begins, or a number.
-/
import Derived.Test.YtofpnlmlenffnaaDoorGR12a
namespace Go.Proofs.YtofpnlmlenffnaaDoor
open Go.RowKit Go.Mk

theorem oct_is {l : List UInt8} {j : Nat} (h : j < l.length) (c : UInt8) : l[j]? = some c ↔ ((l[j].toNat : Int) = (c.toNat : Int)) := by
  rw [List.getElem?_eq_getElem h]
  constructor
  · intro h; rw [Option.some.inj h]
  · intro h; rw [UInt8.toNat_inj.1 (show l[j].toNat = c.toNat by omega)]

/-- What Token answers. -/
def TkP (w : World) (a : Nat) (r : Option (Int × List UInt8 × Int × Nat)) (e : Ending) (w' : World) : Prop :=
  match r with
  | some (k, x, n, m) => e = .returned (.tuple #[valT ⟨k, x, n, (a : Int)⟩, .int .i64 ((a + m : Nat) : Int)]) ∧ Kept (fun _ => False) w w'
  | none => ∃ t, e = .returned (.tuple #[valT t, .int .i64 (-1)]) ∧ Kept (fun _ => False) w w'

theorem tkp_no {w : World} {a : Nat} {t : TK} {w' : World} (h : Kept (fun _ => False) w w') : TkP w a none (.returned (.tuple #[valT t, .int .i64 (-1)])) w' := ⟨t, rfl, h⟩
theorem tkp_some {w : World} {a m E : Nat} {k n : Int} {x : List UInt8} {w' : World} (h : Kept (fun _ => False) w w') (hE : a + m = E) : TkP w a (some (k, x, n, m)) (.returned (.tuple #[valT ⟨k, x, n, (a : Int)⟩, .int .i64 (E : Int)])) w' := ⟨by rw [hE], h⟩

/-- Token's two boxes: the result's, its own. -/
structure Tq (w : World) (t : TK) (W : World) : Prop where
  res : Bt W w.heap.size zeroT
  box : Bt W (w.heap.size + 1) t
  k : Kept (fun _ => False) w W
  sz : w.heap.size + 2 ≤ W.heap.size

theorem Tq.kept {S : Nat → Prop} {w : World} {t : TK} {A B : World} (h : Tq w t A) (hk : Kept S A B) (h0 : ∀ k, S k → w.heap.size + 2 ≤ k) : Tq w t B :=
  ⟨h.res.kept hk (fun e => by have := h0 _ e; omega), h.box.kept hk (fun e => by have := h0 _ e; omega), h.k.trans hk (fun i hi e => by have := h0 _ e; omega), Nat.le_trans h.sz hk.size⟩

theorem Tq.keep {w : World} {t : TK} {A B : World} (h : Tq w t A) (hk : Kept (fun _ => False) A B) : Tq w t B := h.kept hk (fun _ h => h.elim)

theorem tq_new (w : World) (a : Nat) : Tq w ⟨0, [], 0, (a : Int)⟩ ((w.alloc (.cells #[.int .i64 0, .string ⟨#[]⟩, .int .i64 0, .int .i64 0] 35)).alloc (.cells #[.int .i64 0, .string ⟨#[]⟩, .int .i64 0, .int .i64 (a : Int)] 35)) := by
  have h1 : Bt (w.alloc (.cells #[.int .i64 0, .string ⟨#[]⟩, .int .i64 0, .int .i64 0] 35)) w.heap.size zeroT := bt_new w zeroT 35
  have h2 : Bt ((w.alloc (.cells #[.int .i64 0, .string ⟨#[]⟩, .int .i64 0, .int .i64 0] 35)).alloc (.cells #[.int .i64 0, .string ⟨#[]⟩, .int .i64 0, .int .i64 (a : Int)] 35)) (w.alloc (.cells #[.int .i64 0, .string ⟨#[]⟩, .int .i64 0, .int .i64 0] 35)).heap.size ⟨0, [], 0, (a : Int)⟩ := bt_new _ ⟨0, [], 0, (a : Int)⟩ 35
  rw [World.size_alloc] at h2
  exact ⟨h1.kept (S := fun _ => False) ((Kept.refl _ _).alloc _) (fun h => h), h2, ((Kept.refl _ w).alloc _).alloc _, by simp⟩

/-- The own box, stored into. -/
theorem Tq.put {w : World} {t t' : TK} {W : World} (h : Tq w t W) (i : Nat) (v : Value) (hb : Bt (W.setCell ⟨w.heap.size + 1, i, none⟩ v) (w.heap.size + 1) t') : Tq w t' (W.setCell ⟨w.heap.size + 1, i, none⟩ v) := by
  have hk : Kept (fun k => k = w.heap.size + 1) W (W.setCell ⟨w.heap.size + 1, i, none⟩ v) := Kept.setCell (S := fun k => k = w.heap.size + 1) (p := ⟨w.heap.size + 1, i, none⟩) (Kept.refl _ W) (fun _ => rfl) v
  exact ⟨h.res.kept hk (by omega), hb, h.k.trans hk (fun i hi e => by omega), Nat.le_trans h.sz hk.size⟩

/-- The result's box, stored into. -/
theorem Tq.done {w : World} {t : TK} {W : World} (h : Tq w t W) : Bt (setT W w.heap.size t) w.heap.size t ∧ Kept (fun _ => False) w (setT W w.heap.size t) :=
  ⟨h.res.set t, h.k.trans (kept_setT W w.heap.size t) (fun i hi e => by omega)⟩

/-- Its kind and text are set, and it is the result. -/
theorem Tq.fin {w : World} {t : TK} {W : World} (h : Tq w t W) (k : Int) (x : List UInt8) :
    Bt (setT ((W.setCell ⟨w.heap.size + 1, 0, none⟩ (.int .i64 k)).setCell ⟨w.heap.size + 1, 1, none⟩ (.string (bs x))) w.heap.size { t with k := k, x := x }) w.heap.size { t with k := k, x := x } ∧
    Kept (fun _ => False) w (setT ((W.setCell ⟨w.heap.size + 1, 0, none⟩ (.int .i64 k)).setCell ⟨w.heap.size + 1, 1, none⟩ (.string (bs x))) w.heap.size { t with k := k, x := x }) := by
  have h1 := h.put 0 _ (h.box.put0 k)
  exact (h1.put 1 _ (h1.box.put1 x)).done

set_option maxHeartbeats 4000000 in
set_option maxRecDepth 100000 in
theorem r12tok_let (l : List UInt8) (a : Nat) (w : World) (ha : a < l.length) (hc : lett (l[a]'ha) = true) (hl : l.length ≤ 1000000) :
    Calls Tryd.prog 15 #[.string (bs l), .int .i64 (a : Int)] w (TkP w a (tokL (l.drop a))) := by
  have hs : (bs l).size = l.length := bs_size l
  have i0 : (a : Int) < ((bs l).size : Int) := by omega
  have hgj : ∀ h : a < (bs l).size, (((bs l)[a]'h).toNat : Int) = ((l[a]'ha).toNat : Int) := fun h => by rw [bs_get l a ha]
  have HL := Lib.hid (r12let_any ((l[a]'ha).toNat : Int))
  rw [show ltrI ((l[a]'ha).toNat : Int) = true from hc] at HL
  have HW := Lib.hid (fun wx => r12word_any l a wx ha hc hl)
  have hn := word_le (l.drop a)
  rw [drop_len'] at hn
  rw [tok_let ha hc]
  obtain ⟨wA, hwA⟩ : ∃ wA, (w.alloc (.cells #[.int .i64 0, .string ⟨#[]⟩, .int .i64 0, .int .i64 0] 35)).alloc (.cells #[.int .i64 0, .string ⟨#[]⟩, .int .i64 0, .int .i64 (a : Int)] 35) = wA := ⟨_, rfl⟩
  have Q0 := Lib.hid (tq_new w a)
  rw [hwA] at Q0
  clear hc
  generalize ((l[a]'ha).toNat : Int) = x at *
  generalize wordLen (l.drop a) = n at *
  obtain ⟨E, hE⟩ : ∃ E, a + n = E := ⟨_, rfl⟩
  rw [hE] at HW ⊢
  have hEl : E ≤ l.length := by omega
  have hsub : (E : Int) - (a : Int) = (n : Int) := by omega
  have HE := Lib.hid hE
  obtain ⟨⟨r0, r1, r2, r3, g0, g1, g2, g3⟩, ⟨c0, c1, c2, c3, f0, f1, f2, f3⟩, _, _⟩ := Q0.out
  have hne : ¬ w.heap.size = w.heap.size + 1 := by omega
  clear hE hn
  by_cases h40 : 40 < n
  · rw [if_pos h40]
    have h41 : (40 : Int) < (n : Int) := by omega
    clear h40
    go_enter Tryd.func15, Tryd.ntmps15
    go_wp2_with fail
    refine (HL.out _).mono ?_
    rintro e w1 ⟨rfl, rfl⟩
    go_wp2_with fail
    refine (HW.out _).mono ?_
    rintro e w1 ⟨rfl, rfl⟩
    go_wp2
    have hd := Q0.out.done
    refine bodyPost_ret (results_box2 rfl rfl (load_tk hd.1)) rfl ?_
    exact tkp_no hd.2
  · rw [if_neg h40]
    have h41 : ¬ (40 : Int) < (n : Int) := by omega
    have hx1 : (bs l).extract a E = bs ((l.take E).drop a) := bs_extract l a E
    have j1 : (a : Int) ≤ (E : Int) := by omega
    have j2 : (E : Int) ≤ ((bs l).size : Int) := by omega
    clear h40
    by_cases hEl2 : E < l.length
    · have hlt : (E : Int) < ((bs l).size : Int) := by omega
      have hgE : ∀ h : E < (bs l).size, (((bs l)[E]'h).toNat : Int) = ((l[E]'hEl2).toNat : Int) := fun h => by rw [bs_get l E hEl2]
      have Q58 := Lib.hid (oct_is hEl2 58)
      generalize ((l[E]'hEl2).toNat : Int) = y at *
      by_cases hy : y = ((58 : UInt8).toNat : Int)
      · have q := Q58.out.2 hy
        have hy2 : y = 58 := hy
        clear hy
        subst hy2
        have k2 : (a : Int) ≤ (E : Int) + 1 := by omega
        have k3 : (E : Int) + 1 ≤ ((bs l).size : Int) := by omega
        by_cases hE1 : E + 1 = l.length
        · rw [if_pos ⟨q, by rw [List.getElem?_eq_none (by omega)]; simp⟩]
          have hx2 : (bs l).extract a l.length = bs ((l.take (E + 1)).drop a) := by rw [← hE1]; exact bs_extract l a (E + 1)
          have he1 : (E : Int) + 1 = ((bs l).size : Int) := by omega
          have HE1 := Lib.hid hE1
          clear hx1 q hE1
          go_enter Tryd.func15, Tryd.ntmps15
          go_wp2_with fail
          refine (HL.out _).mono ?_
          rintro e w1 ⟨rfl, rfl⟩
          go_wp2_with fail
          refine (HW.out _).mono ?_
          rintro e w1 ⟨rfl, rfl⟩
          go_wp2
          have hd := (Q0.out.put 0 _ (Q0.out.box.put0 1)).fin 2 ((l.take (E + 1)).drop a)
          refine bodyPost_ret (results_box2 rfl rfl (load_tk hd.1)) rfl ?_
          exact tkp_some hd.2 (by have := HE.out; have := HE1.out; omega)
        · have hE2 : E + 1 < l.length := by omega
          have hx2 : (bs l).extract a (E + 1) = bs ((l.take (E + 1)).drop a) := bs_extract l a (E + 1)
          have he1 : ¬ (E : Int) + 1 = ((bs l).size : Int) := by omega
          have he2 : (E : Int) + 1 < ((bs l).size : Int) := by omega
          have hgF : ∀ h : E + 1 < (bs l).size, (((bs l)[E + 1]'h).toNat : Int) = ((l[E + 1]'hE2).toNat : Int) := fun h => by rw [bs_get l (E + 1) hE2]
          have Q61 := Lib.hid (oct_is hE2 61)
          generalize ((l[E + 1]'hE2).toNat : Int) = z at *
          by_cases hz : z = ((61 : UInt8).toNat : Int)
          · rw [if_neg (fun h => h.2 (Q61.out.2 hz))]
            have hz2 : z = 61 := hz
            clear hz hx2 q
            subst hz2
            go_enter Tryd.func15, Tryd.ntmps15
            go_wp2_with fail
            refine (HL.out _).mono ?_
            rintro e w1 ⟨rfl, rfl⟩
            go_wp2_with fail
            refine (HW.out _).mono ?_
            rintro e w1 ⟨rfl, rfl⟩
            go_wp2
            have hd := Q0.out.fin 1 ((l.take E).drop a)
            refine bodyPost_ret (results_box2 rfl rfl (load_tk hd.1)) rfl ?_
            exact tkp_some hd.2 HE.out
          · rw [if_pos ⟨q, fun h => hz (Q61.out.1 h)⟩]
            have hz2 : (z == 61) = false := by simpa using hz
            have hz3 : (z != 61) = true := by simpa using hz
            clear hx1 q
            go_enter Tryd.func15, Tryd.ntmps15
            go_wp2_with fail
            refine (HL.out _).mono ?_
            rintro e w1 ⟨rfl, rfl⟩
            go_wp2_with fail
            refine (HW.out _).mono ?_
            rintro e w1 ⟨rfl, rfl⟩
            go_wp2
            have hd := (Q0.out.put 0 _ (Q0.out.box.put0 1)).fin 2 ((l.take (E + 1)).drop a)
            refine bodyPost_ret (results_box2 rfl rfl (load_tk hd.1)) rfl ?_
            exact tkp_some (E := E + 1) hd.2 (by have := HE.out; omega)
      · rw [if_neg (fun h => hy (Q58.out.1 h.1))]
        have hy2 : (y == 58) = false := by simpa using hy
        go_enter Tryd.func15, Tryd.ntmps15
        go_wp2_with fail
        refine (HL.out _).mono ?_
        rintro e w1 ⟨rfl, rfl⟩
        go_wp2_with fail
        refine (HW.out _).mono ?_
        rintro e w1 ⟨rfl, rfl⟩
        go_wp2
        have hd := Q0.out.fin 1 ((l.take E).drop a)
        refine bodyPost_ret (results_box2 rfl rfl (load_tk hd.1)) rfl ?_
        exact tkp_some hd.2 HE.out
    · have hlt : ¬ (E : Int) < ((bs l).size : Int) := by omega
      rw [if_neg (fun h => by rw [List.getElem?_eq_none (by omega)] at h; simp at h)]
      obtain rfl : E = l.length := by omega
      rw [List.take_length] at hx1 ⊢
      clear hlt hEl2
      go_enter Tryd.func15, Tryd.ntmps15
      go_wp2_with fail
      refine (HL.out _).mono ?_
      rintro e w1 ⟨rfl, rfl⟩
      go_wp2_with fail
      refine (HW.out _).mono ?_
      rintro e w1 ⟨rfl, rfl⟩
      go_wp2
      have hd := Q0.out.fin 1 (l.drop a)
      refine bodyPost_ret (results_box2 rfl rfl (load_tk hd.1)) rfl ?_
      exact tkp_some hd.2 HE.out

end Go.Proofs.YtofpnlmlenffnaaDoor
