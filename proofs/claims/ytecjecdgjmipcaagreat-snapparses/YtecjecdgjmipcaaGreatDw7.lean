/-
  def.Write.
-/
import Derived.Test.YtecjecdgjmipcaaGreatPo
import Derived.Test.YtecjecdgjmipcaaGreatGL7
namespace Go.Proofs.YtecjecdgjmipcaaGreat
open Go.RowKit Go.Mk

/-- The Writer and the box, behind w. -/
structure W7 (w : World) (F : Nat → Prop) (b : Nat) (ao : Option Addr) (cap : Nat) (d : DD) (s : WS) (wx : World) : Prop where
  wr : WrF wx (fun k => F k ∧ k ≠ w.heap.size) b s
  bx : Bx wx w.heap.size ao cap d
  k : Kept F w wx
  sz : w.heap.size < wx.heap.size
  hF : ∀ k, w.heap.size ≤ k → F k

theorem W7.fr {w : World} {F : Nat → Prop} {b : Nat} {ao : Option Addr} {cap : Nat} {d : DD} {s : WS} {wx : World} (h : W7 w F b ao cap d s wx) : ∀ k, wx.heap.size ≤ k → F k ∧ k ≠ w.heap.size :=
  fun k hk => ⟨h.hF k (by have := h.sz; omega), by have := h.sz; omega⟩

theorem W7.step {w : World} {F : Nat → Prop} {b : Nat} {ao : Option Addr} {cap : Nat} {d : DD} {s s' : WS} {wx wy : World} (h : W7 w F b ao cap d s wx) (hw : WrF wy (fun k => F k ∧ k ≠ w.heap.size) b s') (hk : Kept (fun k => F k ∧ k ≠ w.heap.size) wx wy) : W7 w F b ao cap d s' wy :=
  ⟨hw, h.bx.kept hk (fun h => h.2 rfl), h.k.trans hk (fun _ _ h => h.1), Nat.lt_of_lt_of_le h.sz hk.size, h.hF⟩

theorem W7.fin {w : World} {F : Nat → Prop} {b : Nat} {ao : Option Addr} {cap : Nat} {d : DD} {s : WS} {wx : World} (h : W7 w F b ao cap d s wx) : WrFPost w F b s (.returned (.tuple #[])) wx := ⟨rfl, h.wr.in (fun _ _ h => h.1), h.k⟩

set_option maxHeartbeats 400000 in
set_option maxRecDepth 100000 in
theorem dwrite7_any {w : World} {F : Nat → Prop} {b : Nat} {s : WS} (h : WrF w F b s) (hF : ∀ k, w.heap.size ≤ k → F k) (d : DD) (ao : Option Addr) (cap : Nat) (hA : Lies w w.heap.size ao (strs d.vs)) (hna : d.vs ≠ [] → ∀ a, ao = some a → ¬ F a.block) (hc : d.vs.length ≤ cap) (hs : SmallD d) (hl : s.out.length ≤ 10000000) :
    Calls Tryz.prog 61 #[.pointer (some ⟨b, 0, none⟩), .agg #[.int .i64 d.k, .string (bs d.c), .string (bs d.p), .slice ao d.vs.length cap, .string (bs d.s), .string (bs d.t)]] w (WrFPost w F b (writeD s d)) := by
  have h1 := hs.c; have h2 := hs.p; have h3 := hs.n; have h4 := hs.s; have h5 := hs.t
  have hsu := sumL_le d.vs hs.v
  have hv : ∀ t ∈ d.vs, t.length ≤ 274877906944 := fun t ht => by have := hs.v t ht; omega
  have hlt : b < w.heap.size := by obtain ⟨_, _, _, hw, _⟩ := h; exact hw.lt
  have hka := (Kept.refl (fun _ => False) w).alloc (.cells #[.int .i64 d.k, .string (bs d.c), .string (bs d.p), .slice ao d.vs.length cap, .string (bs d.s), .string (bs d.t)] 49)
  have HR := Lib.hid (dright_any d ao cap _ _ (hA.kept hka (fun _ _ _ h => h)) hc (by omega))
  have HW0 := Lib.hid (fun (wx : World) (k : Kept (fun _ => False) (w.alloc (.cells #[.int .i64 d.k, .string (bs d.c), .string (bs d.p), .slice ao d.vs.length cap, .string (bs d.s), .string (bs d.t)] 49)) wx) => (show W7 w F b ao cap d s wx from
    ⟨(h.in (fun k hk hf => ⟨hf, by omega⟩)).kept (keeps_below7 (hka.trans k (fun _ _ h => h))), (bx_new w ao cap d _).kept k (fun h => h), (hka.trans k (fun _ _ h => h)).mono (fun _ _ h => h.elim), by have := k.size; rw [World.size_alloc] at this; omega, hF⟩))
  have hD : writeD s d = if rightD d = true then (if d.k = 2 then (((s.num d.k).text d.c).text d.s).text d.t else (((s.num d.k).text d.c).text d.p).texts d.vs) else s.num (-1) := rfl
  have HD := Lib.hid hD; have HA := Lib.hid hA; have HNA := Lib.hid hna; have HV := Lib.hid hv
  have l1 := WS.num_len s d.k
  have l2 := WS.text_len (s.num d.k) d.c
  have l3 := WS.text_len ((s.num d.k).text d.c) d.s
  have l4 := WS.text_len ((s.num d.k).text d.c) d.p
  have L := Lib.hid (show s.out.length ≤ 20000000 ∧ (s.num d.k).out.length ≤ 20000000 ∧ ((s.num d.k).text d.c).out.length ≤ 20000000 ∧ (((s.num d.k).text d.c).text d.s).out.length ≤ 20000000 ∧ (((s.num d.k).text d.c).text d.p).out.length ≤ 20000000 ∧ sumL d.vs ≤ 10000 ∧ d.vs.length ≤ 30 ∧ d.c.length ≤ 10000 ∧ d.p.length ≤ 10000 ∧ d.s.length ≤ 10000 ∧ d.t.length ≤ 10000 by omega)
  clear hD hA hna hv l1 l2 l3 l4 h hF hs hka hlt h1 h2 h3 h4 h5 hsu hl hc
  generalize writeD s d = o at *
  go_enter Tryz.func61, Tryz.ntmps61
  go_wp2_with fail
  refine HR.out.mono ?_
  rintro e w1 ⟨rfl, k1⟩
  have W1 := Lib.hid (HW0.out w1 k1); clear k1 HW0 HR
  cases hr : rightD d with
  | false =>
    have HO := Lib.hid (HD.out.trans (if_neg (by simp [hr]))); clear hr
    go_wp2_with fail
    refine (W1.out.wr.num W1.out.fr (-1) (by have := L.out; omega)).mono ?_
    rintro e w2 ⟨rfl, h2, k2⟩
    have W2 := Lib.hid (W1.out.step h2 k2); clear h2 k2
    go_wp2
    refine bodyPost_ret (results_none rfl _ _ _) rfl ?_
    rw [HO.out]
    exact W2.out.fin
  | true =>
    have HO := Lib.hid (HD.out.trans (if_pos hr)); clear hr
    obtain ⟨c0, c1, c2, c3, c4, c5⟩ := W1.out.bx
    go_wp2_with fail
    refine (W1.out.wr.num W1.out.fr d.k (by have := L.out; omega)).mono ?_
    rintro e w2 ⟨rfl, h2, k2⟩
    have W2 := Lib.hid (W1.out.step h2 k2); clear h2 k2 c0 c1 c2 c3 c4 c5
    obtain ⟨c0, c1, c2, c3, c4, c5⟩ := W2.out.bx
    go_wp2_with fail
    refine (W2.out.wr.text W2.out.fr (bs d.c) (by have := L.out; omega) (by have := L.out; rw [bs_size]; omega)).mono ?_
    rintro e w3 ⟨rfl, h2, k2⟩
    have W3 := Lib.hid (W2.out.step (s' := (s.num d.k).text d.c) h2 k2); clear h2 k2 c0 c1 c2 c3 c4 c5
    obtain ⟨c0, c1, c2, c3, c4, c5⟩ := W3.out.bx
    by_cases hk : d.k = 2
    · have HO2 := Lib.hid (HO.out.trans (if_pos hk))
      have hk1 : (d.k == 2) = true := by simp [hk]
      clear hk
      go_wp2_with fail
      refine (W3.out.wr.text W3.out.fr (bs d.s) (by have := L.out; omega) (by have := L.out; rw [bs_size]; omega)).mono ?_
      rintro e w4 ⟨rfl, h2, k2⟩
      have W4 := Lib.hid (W3.out.step (s' := ((s.num d.k).text d.c).text d.s) h2 k2); clear h2 k2 c0 c1 c2 c3 c4 c5
      obtain ⟨c0, c1, c2, c3, c4, c5⟩ := W4.out.bx
      go_wp2_with fail
      refine (W4.out.wr.text W4.out.fr (bs d.t) (by have := L.out; omega) (by have := L.out; rw [bs_size]; omega)).mono ?_
      rintro e w5 ⟨rfl, h2, k2⟩
      have W5 := Lib.hid (W4.out.step (s' := (((s.num d.k).text d.c).text d.s).text d.t) h2 k2); clear h2 k2
      go_wp2
      refine bodyPost_ret (results_none rfl _ _ _) rfl ?_
      rw [HO2.out]
      exact W5.out.fin
    · have HO2 := Lib.hid (HO.out.trans (if_neg hk))
      have hk1 : (d.k == 2) = false := by simp [hk]
      clear hk
      go_wp2_with fail
      refine (W3.out.wr.text W3.out.fr (bs d.p) (by have := L.out; omega) (by have := L.out; rw [bs_size]; omega)).mono ?_
      rintro e w4 ⟨rfl, h2, k2⟩
      have W4 := Lib.hid (W3.out.step (s' := ((s.num d.k).text d.c).text d.p) h2 k2); clear h2 k2 c0 c1 c2 c3 c4 c5
      obtain ⟨c0, c1, c2, c3, c4, c5⟩ := W4.out.bx
      go_wp2_with fail
      refine (W4.out.wr.textsL W4.out.fr ao cap d.vs (HA.out.kept W4.out.k (fun hn => HNA.out (fun e => hn (by rw [e]; rfl)))) (fun hn a ha hf => HNA.out (by intro e; exact hn e) a ha hf.1) (by have := L.out; omega) (by have := L.out; omega) HV.out).mono ?_
      rintro e w5 ⟨rfl, h2, k2⟩
      have W5 := Lib.hid (W4.out.step h2 k2); clear h2 k2
      go_wp2
      go_end0
      rw [HO2.out]
      exact W5.out.fin

end Go.Proofs.YtecjecdgjmipcaaGreat
