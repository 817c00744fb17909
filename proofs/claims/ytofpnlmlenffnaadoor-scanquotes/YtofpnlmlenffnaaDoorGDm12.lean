/-
  Lemmas towards the claim of this folder: contracts of the functions that the law reaches; joined texts.
-/
import Derived.Test.YtofpnlmlenffnaaDoorDi12
import Derived.Test.YtofpnlmlenffnaaDoorR12m
import Derived.Test.YtofpnlmlenffnaaDoorGR12q
/-
  CONTRACTS of package scan: All.
-/
namespace Go.Mk

theorem gap_all {l : List UInt8} {a n : Nat} (h : GapR (l.drop a) n) (out : List TK) : allAt out a (l.drop a) = allAt out (a + n) (l.drop (a + n)) := by
  have := h.all out a
  rw [List.drop_drop] at this
  exact this

theorem gap_stop {l : List UInt8} {a n : Nat} (h : GapR (l.drop a) n) : ∀ c r, l.drop (a + n) = c :: r → blankB c = false ∧ (c = 34 → (r.takeWhile (· != 34)).length = r.length) := by
  have := h.stops
  rw [List.drop_drop] at this
  exact this

end Go.Mk
namespace Go.Proofs.YtofpnlmlenffnaaDoor
open Go.RowKit Go.Mk

/-- The tokens under way, in the box that the closure has caught. -/
structure Aw (w : World) (ts : List TK) (wx : World) : Prop where
  row : ∃ v, wx.cell? ⟨w.heap.size, 0, none⟩ = some v ∧ wx.ownsRow (w.heap.size + 1) 35 4 v ts.length (cellsT ts)
  fr : wx.frozen? ⟨w.heap.size, 0, none⟩ = false
  k : Kept (fun _ => False) w wx

theorem Aw.keep {w : World} {ts : List TK} {A B : World} (h : Aw w ts A) (hk : Kept (fun _ => False) A B) : Aw w ts B := by
  obtain ⟨v, h1, h2⟩ := h.row
  have hlt := World.block_lt_of_cell? _ _ h1
  exact ⟨⟨v, (hk.cell (p := ⟨w.heap.size, 0, none⟩) hlt (fun h => h)).trans h1, owns_kept h2 hk (fun _ _ h => h)⟩, (hk.frozen (p := ⟨w.heap.size, 0, none⟩) hlt (fun h => h)).trans h.fr, h.k.trans hk (fun _ _ h => h)⟩

theorem aw_new (w : World) : Aw w [] (w.alloc (.cells #[.slice none 0 0] 23)) :=
  ⟨⟨_, World.cell?_alloc_new w #[.slice none 0 0] 23 0, World.ownsRow_nil _ _ _ _⟩, by simp, (Kept.refl (fun _ => False) w).alloc _⟩

set_option maxRecDepth 100000 in
set_option maxHeartbeats 2000000 in
theorem dall1_any (w : World) (ts : List TK) (t : TK) (W : World) (h : Aw w ts W) (hl : ts.length ≤ 100000) :
    Calls Tryd.prog 17 #[valT t, .pointer (some ⟨w.heap.size, 0, none⟩)] W fun e w' => e = .returned (.bool true) ∧ Aw w (ts ++ [t]) w' := by
  obtain ⟨i0, hi, hz0, hz1, hz2⟩ := info_parts Tryd.infoTok
  have kB : Kept (fun _ => False) W (W.alloc (.cells #[.int .i64 t.k, .string (bs t.x), .int .i64 t.n, .int .i64 t.at_] 35)) := (Kept.refl _ W).alloc _
  have hbt := bt_new W t 35
  have hA := h.keep kB
  obtain ⟨wB, hwB⟩ : ∃ wB, W.alloc (.cells #[.int .i64 t.k, .string (bs t.x), .int .i64 t.n, .int .i64 t.at_] 35) = wB := ⟨_, rfl⟩
  rw [hwB] at kB hbt hA
  obtain ⟨c0, c1, c2, c3, _, _, _, _⟩ := hbt
  obtain ⟨v, hv, ho⟩ := hA.row
  have HA := Lib.hid hA; have HO := Lib.hid ho; have HV := Lib.hid hv
  have hf := hA.fr
  clear hA ho kB h
  unfold valT
  go_enter Tryd.func17, Tryd.ntmps17
  go_wp2_with (at_builtin; refine wpList_app _ rfl (.tmp 4) (.tmp 6) 23 23 rfl 35 i0 (.agg #[.int .i64 0, .string ⟨#[]⟩, .int .i64 0, .int .i64 0]) 4 40 Tryd.underlying23 hi hz0 hz1 hz2 rfl _ _ _ rfl ((owns_base (base' := 0) HO.out (fun _ _ => Nat.zero_le _)).alloc _) (.slice (some ⟨wB.heap.size, 0, none⟩) 1 1) 1 (cellsT1 t) rfl (src_tk wB t _) ?b1 ?b2 ?next)
  case b1 => unfold maxLen; omega
  case b2 => omega
  case next =>
    intro v' w2 ho2 hg2 hb2 _
    have hlt1 := owns_lt HO.out
    have hltB := World.block_lt_of_cell? _ _ HV.out
    have ka : Kept (fun _ => False) wB (wB.alloc (.cells #[.int .i64 t.k, .string (bs t.x), .int .i64 t.n, .int .i64 t.at_] 35)) := (Kept.refl _ wB).alloc _
    have H1 := Lib.hid (owns_base (base' := w.heap.size + 1) ho2 (fun k hk => by
      rcases hb2 with hb | hb
      · rw [hb] at hk; exact (hlt1 k hk).1
      · rw [hb] at hk
        simp at hk
        dsimp only at hltB
        omega))
    have H3 := Lib.hid (Kept.grown (S := fun k => w.heap.size + 1 ≤ k) (ka.mono (fun _ _ h => h.elim)) hg2 (fun k hk _ => (hlt1 k hk).1))
    have d1 : w2.cell? ⟨w.heap.size, 0, none⟩ = some v := (H3.out.cell (p := ⟨w.heap.size, 0, none⟩) hltB (by show ¬ w.heap.size + 1 ≤ w.heap.size; omega)).trans HV.out
    have g1 : w2.frozen? ⟨w.heap.size, 0, none⟩ = false := (H3.out.frozen (p := ⟨w.heap.size, 0, none⟩) hltB (by show ¬ w.heap.size + 1 ≤ w.heap.size; omega)).trans HA.out.fr
    have D1 := Lib.hid d1; have G1 := Lib.hid g1
    clear ho2 hg2 hb2 hlt1 ka hltB
    obtain ⟨ao2, cap2, rfl⟩ := owns_slice H1.out
    go_wp2
    go_ret
    have ks := Kept.setCell (S := fun k => k = w.heap.size) (p := ⟨w.heap.size, 0, none⟩) (Kept.refl _ w2) (fun _ => rfl) (.slice ao2 (ts.length + 1) cap2)
    refine ⟨rfl, ⟨⟨_, World.cell?_setCell_same _ _ _ D1.out, ?_⟩, by rw [World.frozen?_setCell]; exact G1.out, (HA.out.k.trans H3.out (fun i hi e => by omega)).trans ks (fun i hi e => by omega)⟩⟩
    have ho := owns_kept H1.out ks (fun k hk e => by have := (owns_lt H1.out k hk).1; omega)
    rw [cellsT_snoc, List.length_append]
    exact ho

/-- The tokens, where there is no error. -/
def Dn12 (w : World) (A : Int × Int × List TK) (w' : World) : Prop := ∃ ts, Aw w ts w' ∧ (A.1 = 0 → A = (0, 0, ts))

set_option maxRecDepth 100000 in
set_option maxHeartbeats 4000000 in
theorem walk_all (l : List UInt8) (hl : l.length ≤ 1000000) (w W : World) (hA : Aw w [] W) :
    Calls Tryd.prog 16 #[.string (bs l), .func (.func 17) #[] #[.pointer (some ⟨w.heap.size, 0, none⟩)]] W fun e w' => e = .returned (.tuple #[.int .i64 (allL l).1, .int .i64 (allL l).2.1]) ∧ Dn12 w (allL l) w' := by
  have hs : (bs l).size = l.length := bs_size l
  have HA := Lib.hid hA; clear hA
  unfold allL
  by_cases h4 : 4000 < l.length
  · rw [if_pos h4]
    have h5 : (4000 : Int) < ((bs l).size : Int) := by omega
    go_enter Tryd.func16, Tryd.ntmps16
    go_wp2
    go_ret2
    exact ⟨rfl, [], HA.out, fun h => by cases h⟩
  · rw [if_neg h4]
    have h5 : ¬ (4000 : Int) < ((bs l).size : Int) := by omega
    have HG0 := Lib.hid (fun wx => sgap_any l wx (by omega))
    obtain ⟨R, hR⟩ : ∃ R, goAll (l.length + 1) 0 l = R := ⟨_, rfl⟩
    rw [hR]
    have HR := Lib.hid hR
    clear hR
    go_enter Tryd.func16, Tryd.ntmps16
    go_wp2_with fail
    refine (HG0.out _).mono ?_
    rintro e w1 ⟨⟨g0, rfl, hg0⟩, rfl⟩
    have HG := Lib.hid hg0
    have hgl := hg0.le
    clear hg0
    go_wp2
    go_loopg [6] (l.length - g0) (fun k v wr => ∃ (p : Nat) (out : List TK), k = l.length - p ∧ p ≤ l.length ∧ out.length ≤ p ∧ v = .int .i64 (p : Int) ∧ Hid (allAt out p (l.drop p) = R) ∧ Hid (∀ c r, l.drop p = c :: r → blankB c = false ∧ (c = 34 → (r.takeWhile (· != 34)).length = r.length)) ∧ Hid (Aw w out wr))
    case atStart =>
      refine ⟨g0, [], rfl, hgl, by simp, rfl, Lib.hid ?_, Lib.hid HG.out.stops, HA⟩
      have h1 := HG.out.all [] 0
      rw [Nat.zero_add] at h1
      rw [← h1, allAt_zero]
      exact HR.out
    case round =>
      obtain ⟨p, out, hk, hp, hol, rfl, hall, hstop, hq⟩ := hrel
      have HK := Lib.hid hk; have HOL := Lib.hid hol; clear hk hol
      by_cases hlt : p < l.length
      · have hlt1 : (p : Int) < ((bs l).size : Int) := by omega
        have HF := Lib.hid (fun wx => sfirst_any (l.drop p) wx (by rw [List.length_drop]; omega) (by rw [List.length_drop]; omega))
        have hx1 : (bs l).extract p l.length = bs (l.drop p) := by rw [bs_extract, List.take_length]
        have HDC := Lib.hid (drop_cons l p hlt)
        have HNO := Lib.hid (show tokL (l.drop p) = none → R = (40, (p : Int), []) from fun h => by
          rw [HDC.out] at h
          have hs := hstop.out _ _ HDC.out
          have h1 := (preAt_no out p hs.1 hs.2 h).2
          rw [← HDC.out, hall.out] at h1
          exact h1)
        have HTK := Lib.hid (show ∀ k x m j, tokL (l.drop p) = some (k, x, m, j) → 1 ≤ j ∧ p + j ≤ l.length ∧ allAt (out ++ [⟨k, x, m, (p : Int)⟩]) (p + j) (l.drop (p + j)) = R from fun k x m j h => by
          have hj := tok_len h
          rw [List.length_drop] at hj
          have h9 := h
          rw [HDC.out] at h9
          have hs := hstop.out _ _ HDC.out
          have h34 : l[p]'hlt ≠ 34 := fun e => by
            rw [e, tok_34] at h9
            cases h9
          have h1 := allAt_tok out p _ hs.1 h34 h9
          rw [← HDC.out, List.drop_drop, hall.out] at h1
          exact ⟨hj.1, by omega, h1.symm⟩)
        obtain ⟨s0, hs0⟩ : ∃ s0, l.drop p = s0 := ⟨_, rfl⟩
        rw [hs0] at HF hx1 HNO HTK
        clear hs0
        go_wp2_with fail
        refine (HF.out _).mono ?_
        rintro e w2 hFs
        obtain ⟨t, m, rfl, k2, hr⟩ := fsp_out hFs
        have A2 := Lib.hid (hq.out.keep k2)
        rcases hr with ⟨hr, rfl⟩ | ⟨k, x, n', j, hr, rfl, rfl⟩
        · obtain rfl : R = (40, (p : Int), []) := HNO.out hr
          have A3 := Lib.hid (A2.out.keep ((Kept.refl (fun _ => False) w2).alloc (.cells #[.int .i64 t.k, .string (bs t.x), .int .i64 t.n, .int .i64 t.at_] 35)))
          clear hFs hr k2
          unfold valT
          go_wp2
          go_ret2
          exact ⟨rfl, out, A3.out, fun h => by cases h⟩
        · obtain ⟨hj1, hj2, hpr⟩ := HTK.out k x n' j hr
          have HPR := Lib.hid hpr
          obtain ⟨w4, hw4⟩ : ∃ w4, w2.alloc (.cells #[.int .i64 k, .string (bs x), .int .i64 n', .int .i64 (p : Int)] 35) = w4 := ⟨_, rfl⟩
          have k4 : Kept (fun _ => False) w2 w4 := by rw [← hw4]; exact (Kept.refl _ w2).alloc _
          have A4 := Lib.hid (A2.out.keep k4)
          have hb := bt_new w2 ⟨k, x, n', (p : Int)⟩ 35
          dsimp only at hb
          rw [hw4] at hb
          obtain ⟨q0, q1, q2, q3, f0, f1, f2, f3⟩ := hb
          dsimp only at q0 q1 q2 q3
          have HY := Lib.hid (dall1_any w out ⟨k, x, n', (p : Int)⟩ w4 A4.out (by have := HOL.out; omega))
          unfold valT at HY
          dsimp only at HY
          have hj0 : (((j : Nat) : Int) == 0) = false := by
            rw [beq_eq_false_iff_ne]
            omega
          obtain ⟨E, hE⟩ : ∃ E, p + j = E := ⟨_, rfl⟩
          have hEi : (p : Int) + (j : Int) = (E : Int) := by omega
          rw [hE] at hj2 HPR
          have HG1 := Lib.hid (fun wx => sgap_any (l.drop E) wx (by rw [List.length_drop]; omega))
          have hx2 : (bs l).extract E l.length = bs (l.drop E) := by rw [bs_extract, List.take_length]
          have HEp := Lib.hid (show p < E by omega)
          obtain ⟨s1, hs1⟩ : ∃ s1, l.drop E = s1 := ⟨_, rfl⟩
          have HS1 := Lib.hid hs1
          rw [hs1] at HG1 hx2
          clear hFs hr k2 k4 hpr hE hs1
          unfold valT
          go_wp2_with fail
          clear hw4
          refine HY.out.mono ?_
          rintro e W3 ⟨rfl, hA3⟩
          have A5 := Lib.hid hA3; clear hA3
          go_wp2_with fail
          refine (HG1.out _).mono ?_
          rintro e w5 ⟨⟨g1, rfl, hg1⟩, rfl⟩
          have HGG := Lib.hid hg1
          have hgl1 := hg1.le
          rw [← HS1.out, List.length_drop] at hgl1
          have hsum : E + g1 ≤ l.length := by omega
          clear hg1
          go_wp2
          go_roundg (l.length - (E + g1))
          case measure => have := HK.out; have := HEp.out; omega
          case rel =>
            refine ⟨E + g1, out ++ [⟨k, x, n', (p : Int)⟩], rfl, hsum, by have := HOL.out; have := HEp.out; simp; omega, by go_num, Lib.hid ?_, Lib.hid ?_, A5⟩
            · have h1 := HGG.out
              rw [← HS1.out] at h1
              rw [← gap_all h1]
              exact HPR.out
            · have h1 := HGG.out
              rw [← HS1.out] at h1
              exact gap_stop h1
      · obtain rfl : p = l.length := by omega
        have hlt1 : ¬ (l.length : Int) < ((bs l).size : Int) := by omega
        obtain rfl : R = (0, 0, out ++ [⟨0, [], 0, (l.length : Int)⟩]) := by
          rw [← hall.out, List.drop_length, allAt_nil]
        have HY := Lib.hid (dall1_any w out ⟨0, [], 0, (l.length : Int)⟩ wr hq.out (by have := HOL.out; omega))
        unfold valT at HY
        dsimp only at HY
        have hb0 : bs [] = ⟨#[]⟩ := rfl
        rw [hb0] at HY
        clear hb0
        go_wp2_with fail
        refine HY.out.mono ?_
        rintro e W3 ⟨rfl, hA3⟩
        have A5 := Lib.hid hA3; clear hA3
        go_wp2
        go_ret2
        exact ⟨rfl, _, A5.out, fun _ => rfl⟩

set_option maxRecDepth 100000 in
set_option maxHeartbeats 2000000 in
theorem dall12_any (l : List UInt8) (w : World) (hl : l.length ≤ 1000000) :
    Calls Tryd.prog 9 #[.string (bs l)] w (TkQ w (allL l)) := by
  have HW := Lib.hid (walk_all l hl w _ (aw_new w))
  have hcase : (allL l).1 = 0 ∨ ((allL l).1 ≠ 0 ∧ (allL l).2.2 = []) := by
    unfold allL
    by_cases h4 : 4000 < l.length
    · rw [if_pos h4]; exact .inr ⟨by decide, rfl⟩
    · rw [if_neg h4]
      rcases go_err l.length (l.length + 1) l 0 (Nat.le_refl _) with h | ⟨h, _, h3⟩
      · exact .inl h
      · exact .inr ⟨by rw [h]; decide, h3⟩
  generalize allL l = A at *
  obtain ⟨e0, p0, ts0⟩ := A
  dsimp only at hcase HW
  go_enter Tryd.func9, Tryd.ntmps9
  go_wp2_with fail
  refine HW.out.mono ?_
  rintro e w1 ⟨rfl, ts, hA, h0⟩
  obtain ⟨v, hv, ho⟩ := hA.row
  have HA := Lib.hid hA; have HO := Lib.hid ho; have H0 := Lib.hid h0
  clear hA ho h0
  rcases hcase with hc | ⟨hc, hts⟩
  · have HE := Lib.hid (H0.out hc)
    have e1 : (e0 != 0) = false := by simp [hc]
    obtain ⟨ao, cap, rfl⟩ := owns_slice HO.out
    clear hc
    go_wp2
    go_ret3
    obtain ⟨rfl, rfl, rfl⟩ : e0 = 0 ∧ p0 = 0 ∧ ts0 = ts := by
      have := HE.out
      simp only [Prod.mk.injEq] at this
      exact this
    exact ⟨ao, cap, rfl, owns_ts HO.out, HA.out.k, owns_cap' HO.out⟩
  · have e1 : (e0 != 0) = true := by simpa using hc
    subst hts
    clear hc
    go_wp2
    go_ret3
    exact tkq_err HA.out.k e0 p0

end Go.Proofs.YtofpnlmlenffnaaDoor

/-
  What the laws of layer 12 lean on: the landed scan's All (no stand-in any more; Quote is De12's, Stream's function Dj12's).
-/
