/-
  Lemmas towards the claim of this folder: contracts of the functions that the law reaches; joined texts.
-/
import Derived.Test.YtofpnlmlenffnaaDoorR12z
import Derived.Deep.CutBlock
import Derived.Deep.DeepCutAuto
/-
  The reference of layer 12: Token: binary selectors, no token; all of it.
-/
namespace Go.Proofs.YtofpnlmlenffnaaDoor
open Go.RowKit Go.Mk

set_option maxHeartbeats 6000000 in
set_option maxRecDepth 100000 in
theorem r12tok_rest (l : List UInt8) (a : Nat) (w : World) (ha : a < l.length) (hc : lett (l[a]'ha) = false) (hd0 : digB (l[a]'ha) = false) (h39 : (l[a]'ha) ≠ 39) (h35 : (l[a]'ha) ≠ 35) (ho : ones.contains (l[a]'ha) = false) (hl : l.length ≤ 1000000) :
    Calls Tryd.prog 15 #[.string (bs l), .int .i64 (a : Int)] w (TkP w a (tokL (l.drop a))) := by
  have hs : (bs l).size = l.length := bs_size l
  have j0 : (a : Int) < ((bs l).size : Int) := by omega
  have j1 : (a : Int) + 1 ≤ ((bs l).size : Int) := by omega
  have hgj : ∀ h : a < (bs l).size, (((bs l)[a]'h).toNat : Int) = ((l[a]'ha).toNat : Int) := fun h => by rw [bs_get l a ha]
  have HL := Lib.hid (r12let_any ((l[a]'ha).toNat : Int))
  rw [show ltrI ((l[a]'ha).toNat : Int) = false from hc] at HL
  have HD := Lib.hid (r12dig_any ((l[a]'ha).toNat : Int))
  rw [show digI ((l[a]'ha).toNat : Int) = false from hd0] at HD
  have n39 : ¬ ((l[a]'ha).toNat : Int) = 39 := fun h => h39 (UInt8.toNat_inj.1 (by have : (39 : UInt8).toNat = 39 := rfl; omega))
  have n35 : ¬ ((l[a]'ha).toNat : Int) = 35 := fun h => h35 (UInt8.toNat_inj.1 (by have : (35 : UInt8).toNat = 35 := rfl; omega))
  obtain ⟨wA, hwA⟩ : ∃ wA, (w.alloc (.cells #[.int .i64 0, .string ⟨#[]⟩, .int .i64 0, .int .i64 0] 35)).alloc (.cells #[.int .i64 0, .string ⟨#[]⟩, .int .i64 0, .int .i64 (a : Int)] 35) = wA := ⟨_, rfl⟩
  have Q0 := Lib.hid (tq_new w a)
  rw [hwA] at Q0
  have hne : ¬ w.heap.size = w.heap.size + 1 := by omega
  have hx1 : (bs l).extract a (a + 1) = bs [l[a]'ha] := by rw [bs_extract, ← take_cut, drop_cons l a ha]; rfl
  obtain ⟨wB, hwB⟩ : ∃ wB, wA.alloc (.cells #[.string ⟨#[40]⟩, .string ⟨#[41]⟩, .string ⟨#[91]⟩, .string ⟨#[93]⟩, .string ⟨#[123]⟩, .string ⟨#[125]⟩, .string ⟨#[46]⟩, .string ⟨#[94]⟩, .string ⟨#[124]⟩, .string ⟨#[58]⟩] 9) = wB := ⟨_, rfl⟩
  have QB := Lib.hid (show Tq w ⟨0, [], 0, (a : Int)⟩ wB by rw [← hwB]; exact Q0.out.keep ((Kept.refl (fun _ => False) wA).alloc _))
  have HI := Lib.hid (show Calls Tryd.prog 26 #[.slice (some ⟨wA.heap.size, 0, none⟩) 10 10, .string (bs [l[a]'ha])] wB fun e w' => e = .returned (.bool (ones.contains (l[a]'ha))) ∧ wB = w' by
    rw [← onesS_contains, ← hwB]
    exact rin_any _ 10 onesS _ _ _ (lies_new wA (strs onesS) 9) (by decide))
  rw [ho] at HI
  have h58 : (l[a]'ha) ≠ 58 := fun h => by rw [h] at ho; revert ho; decide
  have n58 : ¬ ((l[a]'ha).toNat : Int) = 58 := fun h => h58 (UInt8.toNat_inj.1 (by have : (58 : UInt8).toNat = 58 := rfl; omega))
  have HK1 := Lib.hid (fun wx => rkind_any [l[a]'ha] wx (by simp))
  have hb1 := bi_kind (l := [l[a]'ha]) hc
  obtain ⟨⟨r0, r1, r2, r3, g0, g1, g2, g3⟩, ⟨c0, c1, c2, c3, f0, f1, f2, f3⟩, _, _⟩ := QB.out
  dsimp only at c0 c1 c2 c3
  by_cases hk : kindL [l[a]'ha] = 2
  · rw [hk] at HK1
    have hbi := hb1.1 hk
    by_cases ha1 : a + 1 < l.length
    · have j2 : (a : Int) + 1 < ((bs l).size : Int) := by omega
      have j3 : (a : Int) + 2 ≤ ((bs l).size : Int) := by omega
      have hx2 : (bs l).extract a (a + 2) = bs [l[a]'ha, l[a + 1]'ha1] := by rw [bs_extract, ← take_cut, drop_cons l a ha, drop_cons l (a + 1) ha1]; rfl
      have HK2 := Lib.hid (fun wx => rkind_any [l[a]'ha, l[a + 1]'ha1] wx (by simp))
      have hb2 := bi_kind (l := [l[a]'ha, l[a + 1]'ha1]) hc
      by_cases hk2 : kindL [l[a]'ha, l[a + 1]'ha1] = 2
      · rw [tok_bi2 ha hc hd0 h39 h35 ho hbi ha1 (hb2.1 hk2)]
        rw [hk2] at HK2
        generalize ((l[a]'ha).toNat : Int) = x at *
        generalize l[a]'ha = c at *
        generalize l[a + 1]'ha1 = d at *
        clear hc hd0 h39 h35 h58 ho hb1 hb2 hk hk2 hbi ha1
        go_enter Tryd.func15, Tryd.ntmps15
        go_wp2_with fail
        refine (HL.out _).mono ?_
        rintro e w1 ⟨rfl, rfl⟩
        go_wp2_with fail
        refine (HD.out _).mono ?_
        rintro e w1 ⟨rfl, rfl⟩
        go_wp2_with fail
        refine (HI.out).mono ?_
        rintro e w1 ⟨rfl, rfl⟩
        go_wp2_with fail
        refine (HK1.out _).mono ?_
        rintro e w3 ⟨rfl, k3⟩
        have Q3 := Lib.hid (QB.out.keep k3)
        clear k3 r0 r1 r2 r3 g0 g1 g2 g3 c0 c1 c2 c3 f0 f1 f2 f3
        obtain ⟨⟨r0, r1, r2, r3, g0, g1, g2, g3⟩, ⟨c0, c1, c2, c3, f0, f1, f2, f3⟩, _, _⟩ := Q3.out
        dsimp only at c0 c1 c2 c3
        go_wp2_with fail
        refine (HK2.out _).mono ?_
        rintro e w4 ⟨rfl, k4⟩
        have Q4 := Lib.hid (Q3.out.keep k4)
        clear k4 r0 r1 r2 r3 g0 g1 g2 g3 c0 c1 c2 c3 f0 f1 f2 f3
        obtain ⟨⟨r0, r1, r2, r3, g0, g1, g2, g3⟩, ⟨c0, c1, c2, c3, f0, f1, f2, f3⟩, _, _⟩ := Q4.out
        dsimp only at c0 c1 c2 c3
        go_wp2
        have hd := Q4.out.fin 3 [c, d]
        refine bodyPost_ret (results_box2 rfl rfl (load_tk hd.1)) rfl ?_
        exact tkp_some (E := a + 2) hd.2 rfl
      · have hn : isBi [l[a]'ha, l[a + 1]'ha1] = false := by
          cases h : isBi [l[a]'ha, l[a + 1]'ha1]
          · rfl
          · exact (hk2 (hb2.2 h)).elim
        rw [tok_bi ha hc hd0 h39 h35 ho hbi (fun _ => hn)]
        have hk3 : ¬ ((kindL [l[a]'ha, l[a + 1]'ha1] : Nat) : Int) = 2 := by omega
        generalize ((kindL [l[a]'ha, l[a + 1]'ha1] : Nat) : Int) = K2 at *
        have hk4 : (K2 == 2) = false := by simpa using hk3
        generalize ((l[a]'ha).toNat : Int) = x at *
        generalize l[a]'ha = c at *
        generalize l[a + 1]'ha1 = d at *
        clear hc hd0 h39 h35 h58 ho hb1 hb2 hk hk2 hbi ha1 hn
        go_enter Tryd.func15, Tryd.ntmps15
        go_wp2_with fail
        refine (HL.out _).mono ?_
        rintro e w1 ⟨rfl, rfl⟩
        go_wp2_with fail
        refine (HD.out _).mono ?_
        rintro e w1 ⟨rfl, rfl⟩
        go_wp2_with fail
        refine (HI.out).mono ?_
        rintro e w1 ⟨rfl, rfl⟩
        go_wp2_with fail
        refine (HK1.out _).mono ?_
        rintro e w3 ⟨rfl, k3⟩
        have Q3 := Lib.hid (QB.out.keep k3)
        clear k3 r0 r1 r2 r3 g0 g1 g2 g3 c0 c1 c2 c3 f0 f1 f2 f3
        obtain ⟨⟨r0, r1, r2, r3, g0, g1, g2, g3⟩, ⟨c0, c1, c2, c3, f0, f1, f2, f3⟩, _, _⟩ := Q3.out
        dsimp only at c0 c1 c2 c3
        go_wp2_with fail
        refine (HK2.out _).mono ?_
        rintro e w4 ⟨rfl, k4⟩
        have Q4 := Lib.hid (Q3.out.keep k4)
        clear k4 r0 r1 r2 r3 g0 g1 g2 g3 c0 c1 c2 c3 f0 f1 f2 f3
        obtain ⟨⟨r0, r1, r2, r3, g0, g1, g2, g3⟩, ⟨c0, c1, c2, c3, f0, f1, f2, f3⟩, _, _⟩ := Q4.out
        dsimp only at c0 c1 c2 c3
        go_wp2
        have hd := Q4.out.fin 3 [c]
        refine bodyPost_ret (results_box2 rfl rfl (load_tk hd.1)) rfl ?_
        exact tkp_some (E := a + 1) hd.2 rfl
    · have j2 : ¬ (a : Int) + 1 < ((bs l).size : Int) := by omega
      rw [tok_bi ha hc hd0 h39 h35 ho hbi (fun h => (ha1 h).elim)]
      generalize ((l[a]'ha).toNat : Int) = x at *
      generalize l[a]'ha = c at *
      clear hc hd0 h39 h35 h58 ho hb1 hk hbi ha1
      go_enter Tryd.func15, Tryd.ntmps15
      go_wp2_with fail
      refine (HL.out _).mono ?_
      rintro e w1 ⟨rfl, rfl⟩
      go_wp2_with fail
      refine (HD.out _).mono ?_
      rintro e w1 ⟨rfl, rfl⟩
      go_wp2_with fail
      refine (HI.out).mono ?_
      rintro e w1 ⟨rfl, rfl⟩
      go_wp2_with fail
      refine (HK1.out _).mono ?_
      rintro e w3 ⟨rfl, k3⟩
      have Q3 := Lib.hid (QB.out.keep k3)
      clear k3 r0 r1 r2 r3 g0 g1 g2 g3 c0 c1 c2 c3 f0 f1 f2 f3
      obtain ⟨⟨r0, r1, r2, r3, g0, g1, g2, g3⟩, ⟨c0, c1, c2, c3, f0, f1, f2, f3⟩, _, _⟩ := Q3.out
      dsimp only at c0 c1 c2 c3
      go_wp2
      have hd := Q3.out.fin 3 [c]
      refine bodyPost_ret (results_box2 rfl rfl (load_tk hd.1)) rfl ?_
      exact tkp_some (E := a + 1) hd.2 rfl
  · have hn : isBi [l[a]'ha] = false := by
      cases h : isBi [l[a]'ha]
      · rfl
      · exact (hk (hb1.2 h)).elim
    rw [tok_no ha hc hd0 h39 h35 ho hn]
    have hk3 : ¬ ((kindL [l[a]'ha] : Nat) : Int) = 2 := by omega
    generalize ((kindL [l[a]'ha] : Nat) : Int) = K1 at *
    have hk4 : (K1 == 2) = false := by simpa using hk3
    have hk5 : (K1 != 2) = true := by simpa using hk3
    generalize ((l[a]'ha).toNat : Int) = x at *
    generalize l[a]'ha = c at *
    clear hc hd0 h39 h35 h58 ho hb1 hk hn
    go_enter Tryd.func15, Tryd.ntmps15
    go_wp2_with fail
    refine (HL.out _).mono ?_
    rintro e w1 ⟨rfl, rfl⟩
    go_wp2_with fail
    refine (HD.out _).mono ?_
    rintro e w1 ⟨rfl, rfl⟩
    go_wp2_with fail
    refine (HI.out).mono ?_
    rintro e w1 ⟨rfl, rfl⟩
    go_wp2_with fail
    refine (HK1.out _).mono ?_
    rintro e w3 ⟨rfl, k3⟩
    have Q3 := Lib.hid (QB.out.keep k3)
    clear k3 r0 r1 r2 r3 g0 g1 g2 g3 c0 c1 c2 c3 f0 f1 f2 f3
    obtain ⟨⟨r0, r1, r2, r3, g0, g1, g2, g3⟩, ⟨c0, c1, c2, c3, f0, f1, f2, f3⟩, _, _⟩ := Q3.out
    dsimp only at c0 c1 c2 c3
    go_wp2
    have hd := Q3.out.done
    refine bodyPost_ret (results_box2 rfl rfl (load_tk hd.1)) rfl ?_
    exact tkp_no hd.2

/-- Token. -/
theorem r12tok_any (l : List UInt8) (a : Nat) (w : World) (ha : a < l.length) (hl : l.length ≤ 1000000) :
    Calls Tryd.prog 15 #[.string (bs l), .int .i64 (a : Int)] w (TkP w a (tokL (l.drop a))) := by
  cases hc : lett (l[a]'ha) with
  | true => exact r12tok_let l a w ha hc hl
  | false =>
    cases hd : digB (l[a]'ha) with
    | true => exact r12tok_dig l a w ha hc hd hl
    | false =>
      by_cases h39 : (l[a]'ha) = 39
      · exact r12tok_str l a w ha h39 hl
      · by_cases h35 : (l[a]'ha) = 35
        · exact r12tok_sym l a w ha h35 hl
        · cases ho : ones.contains (l[a]'ha) with
          | true =>
            by_cases hna : (l[a]'ha) = 58 ∧ l[a + 1]? = some 61
            · obtain ⟨h1, h2⟩ := hna
              obtain ⟨ha1, h2⟩ := List.getElem?_eq_some_iff.1 h2
              exact r12tok_asg l a w ha hc hd h39 h35 h1 ha1 h2 hl
            · exact r12tok_one l a w ha hc hd h39 h35 ho hna hl
          | false => exact r12tok_rest l a w ha hc hd h39 h35 ho hl

end Go.Proofs.YtofpnlmlenffnaaDoor

/-
  The reference of layer 12: All.
-/
namespace Go.Proofs.YtofpnlmlenffnaaDoor
open Go.RowKit Go.Mk

theorem Tryd.infoTok : (Tryd.prog.info? 35).map (fun i => (i.zero, i.size, i.bytes)) = some (some (.agg #[.int .i64 0, .string ⟨#[]⟩, .int .i64 0, .int .i64 0]), 4, 40) := by kernel_rfl

theorem src_tk (w : World) (t : TK) (ty : TypeId) : Src Tryd.prog 4 23 (.slice (some ⟨w.heap.size, 0, none⟩) 1 1) 1 (cellsT1 t) (w.alloc (.cells #[.int .i64 t.k, .string (bs t.x), .int .i64 t.n, .int .i64 t.at_] ty)) :=
  Src.ofSlice _ Tryd.underlying23 _ 1 1 (cellsT1 t) rfl (fun j u hu => by
    rw [Addr.add_lit, Nat.zero_add]
    have e1 : (w.alloc (.cells (cellsT1 t).toArray ty)).cell? ⟨w.heap.size, j, none⟩ = _ := World.cell?_alloc_new w (cellsT1 t).toArray ty j
    exact e1.trans (by simpa using hu)) (fun u hu => by
    simp [cellsT1] at hu
    rcases hu with rfl | rfl | rfl | rfl <;> rfl)

/-- What a call answers that hands out tokens: the error, its place, the tokens in new memory. -/
def TkQ (w : World) (r : Int × Int × List TK) (e : Ending) (w' : World) : Prop :=
  ∃ ao cap, e = .returned (.tuple #[.slice ao r.2.2.length cap, .int .i64 r.1, .int .i64 r.2.1]) ∧ Ts w' w'.heap.size ao r.2.2 ∧ Kept (fun _ => False) w w' ∧ r.2.2.length ≤ cap

theorem tkq_err {w w' : World} (h : Kept (fun _ => False) w w') (e p : Int) : TkQ w (e, p, []) (.returned (.tuple #[.slice none 0 0, .int .i64 e, .int .i64 p])) w' := ⟨none, 0, rfl, Lies.nil _ _ _, h, Nat.zero_le _⟩

/-- Tokens under way. -/
structure Oq (w : World) (v : Value) (ts : List TK) (wx : World) : Prop where
  own : wx.ownsRow w.heap.size 35 4 v ts.length (cellsT ts)
  k : Kept (fun _ => False) w wx

theorem Oq.keep {w : World} {v : Value} {ts : List TK} {A B : World} (h : Oq w v ts A) (hk : Kept (fun _ => False) A B) : Oq w v ts B := ⟨owns_kept h.own hk (fun _ _ h => h), h.k.trans hk (fun _ _ h => h)⟩

theorem Oq.app {w : World} {v v' : Value} {ts : List TK} {wx wz wy : World} (h : Oq w v ts wx) (t : TK) (hz : Kept (fun _ => False) wx wz)
    (ho : wy.ownsRow 0 35 4 v' (ts.length + 1) (cellsT ts ++ cellsT1 t)) (hg : wz.grownBy wy v.ownBlock) (hb : v'.ownBlock = v.ownBlock ∨ v'.ownBlock = some wz.heap.size) : Oq w v' (ts ++ [t]) wy := by
  have hlt := owns_lt h.own
  have hrow : ∀ k, v'.ownBlock = some k → w.heap.size ≤ k := fun k hk => by
    rcases hb with hb | hb
    · rw [hb] at hk; exact (hlt k hk).1
    · rw [hb] at hk; cases hk; exact Nat.le_trans h.k.size hz.size
  have k4 : Kept (fun k => v.ownBlock = some k) wx wy := Kept.grown (hz.mono (fun _ _ h => h.elim)) hg (fun k hk _ => hk)
  refine ⟨?_, h.k.trans k4 (fun i hi h1 => by have := (hlt i h1).1; omega)⟩
  have ho5 := owns_base (base' := w.heap.size) ho hrow
  rw [← cellsT_snoc, show ts.length + 1 = (ts ++ [t]).length by simp] at ho5
  exact ho5

theorem owns_cap' {w : World} {base : Nat} {e : TypeId} {size n cap : Nat} {ao : Option Addr} {xs : List Value} (h : w.ownsRow base e size (.slice ao n cap) n xs) : n ≤ cap := by
  rcases h.2 with ⟨h1, h2⟩ | ⟨g, c, cur, hv, _, _, hle, _⟩
  · omega
  · cases hv; exact hle

/-- What is owned lies there. -/
theorem owns_ts {w : World} {base : Nat} {ao : Option Addr} {cap : Nat} {ts : List TK} (h : w.ownsRow base 35 4 (.slice ao ts.length cap) ts.length (cellsT ts)) : Ts w w.heap.size ao ts := by
  intro hn
  have h0 : ts.length ≠ 0 := fun e => hn (by rw [List.eq_nil_of_length_eq_zero e]; rfl)
  obtain ⟨g, rfl, _⟩ := owns_off' h h0
  refine ⟨g, 0, rfl, (owns_lt h g rfl).2, fun j u hu => ?_⟩
  have := h.cells (g := g) rfl j u hu
  rw [Addr.add_lit] at this
  exact this

end Go.Proofs.YtofpnlmlenffnaaDoor
