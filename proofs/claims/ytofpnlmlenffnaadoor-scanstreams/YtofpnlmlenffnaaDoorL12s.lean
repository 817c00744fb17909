/-
  ScanStreams: the walk.
-/
import Derived.Test.YtofpnlmlenffnaaDoorL12j
import Derived.Test.YtofpnlmlenffnaaDoorPz8
import Derived.Test.YtofpnlmlenffnaaDoorTgx
import Derived.Test.YtofpnlmlenffnaaDoorDj12
import Derived.Deep.CutRange
namespace Go.Proofs.YtofpnlmlenffnaaDoor
open Go.RowKit Go.Mk

theorem load_cell12 {P : Program} {ty : TypeId} {a : Addr} {v : Value} {w : World} (hagg : ∀ w, (isAgg ty).run P w = .ok false w) (hc : w.cell? a = some v) : (loadVar ty a).run P w = .ok v w := by
  simp [loadVar, hagg, hc, go_sem]

theorem streams_awake (l : List UInt8) (m : Int) (w : World) (h : 500 < l.length) : Calls Tryd.prog 4 #[.string (bs l), .int .u8 m] w fun e w' => e = .returned (.bool true) ∧ Below w.heap.size w w' := by
  have HW := Lib.hid (fun w => awake12_any w)
  have hs := bs_size l
  have h1 : (500 : Int) < ((bs l).size : Int) := by omega
  clear hs h
  generalize bs l = s at *
  have KA := Lib.hid (((Kept.refl (fun _ => False) w).alloc (.cells #[.int .u8 m] 5)).alloc (.cells #[.bool false] 4))
  have RA := Lib.hid (show ((w.alloc (.cells #[.int .u8 m] 5)).alloc (.cells #[.bool false] 4)).cell? ⟨w.heap.size + 1, 0, none⟩ = some (.bool false) by
    have := World.cell?_alloc_new (w.alloc (.cells #[.int .u8 m] 5)) #[.bool false] 4 0; rwa [World.size_alloc] at this)
  have FA := Lib.hid (show ((w.alloc (.cells #[.int .u8 m] 5)).alloc (.cells #[.bool false] 4)).frozen? ⟨w.heap.size + 1, 0, none⟩ = false by simp)
  go_enter Tryd.func4, Tryd.ntmps4
  go_wp2_with fail
  refine (HW.out _).mono ?_
  rintro e w1 ⟨rfl, k1⟩
  have K1 := Lib.hid (KA.out.trans k1 (fun _ _ h => h))
  have R1 := Lib.hid ((k1.cell (p := ⟨w.heap.size + 1, 0, none⟩) (World.block_lt_of_cell? _ _ RA.out) (fun h => h)).trans RA.out)
  have F1 := Lib.hid ((k1.frozen (p := ⟨w.heap.size + 1, 0, none⟩) (World.block_lt_of_cell? _ _ RA.out) (fun h => h)).trans FA.out)
  clear k1
  go_wp2_with fail
  refine (HW.out _).mono ?_
  rintro e w2 ⟨rfl, k2⟩
  have K2 := Lib.hid (K1.out.trans k2 (fun _ _ h => h))
  have R2 := Lib.hid ((k2.cell (p := ⟨w.heap.size + 1, 0, none⟩) (World.block_lt_of_cell? _ _ R1.out) (fun h => h)).trans R1.out)
  have F2 := Lib.hid ((k2.frozen (p := ⟨w.heap.size + 1, 0, none⟩) (World.block_lt_of_cell? _ _ R1.out) (fun h => h)).trans F1.out)
  have r2 := R2.out; have f2 := F2.out
  clear k2
  go_wp2
  have e1 : (w2.setCell ⟨w.heap.size + 1, 0, none⟩ (.bool true)).cell? ⟨w.heap.size + 1, 0, none⟩ = some (.bool true) := World.cell?_setCell_same _ _ _ R2.out
  refine bodyPost_ret (results_box rfl rfl (load_cell12 Tryd.isAgg4 e1)) rfl ?_
  exact ⟨rfl, keeps_below12 (K2.out.trans (Kept.setCell (S := fun k => k = w.heap.size + 1) (p := ⟨w.heap.size + 1, 0, none⟩) (Kept.refl _ w2) (fun _ => rfl) _) (fun i hi e => by omega))⟩

theorem neqif12 {α : Type} (x y : TK) (A B : α) : (if x.k = y.k then if (bs x.x).toList = (bs y.x).toList then if x.n = y.n then if x.at_ = y.at_ then A else B else B else B else B) = if decide (x ≠ y) = true then B else A := by
  rw [bs_list, bs_list]
  by_cases h : x = y
  · subst h
    simp
  · rw [decide_eq_true h, if_pos rfl]
    by_cases h3 : x.k = y.k
    · by_cases h4 : x.x = y.x
      · by_cases h5 : x.n = y.n
        · have h6 : ¬ x.at_ = y.at_ := fun e => h (by cases x; cases y; simp at h3 h4 h5 e; simp [h3, h4, h5, e])
          rw [if_pos h3, if_pos h4, if_pos h5, if_neg h6]
        · rw [if_pos h3, if_pos h4, if_neg h5]
      · rw [if_pos h3, if_neg h4]
    · rw [if_neg h3]

theorem bs_cut12 (l : List UInt8) (k : Nat) : (bs l).extract 0 k = bs (l.take k) := by
  apply ByteArray.ext
  simp [bs, ByteArray.data_extract]

theorem lies_slot12 {w : World} {B b i : Nat} {ao : Option Addr} {vs : List Value} {u0 : Value} (h : Lies w B ao vs) (hc : w.cell? ⟨b, i, none⟩ = some u0) (hu : ∀ x ∈ vs, x ≠ u0) (u : Value) : Lies (w.setCell ⟨b, i, none⟩ u) B ao vs := by
  intro hn
  obtain ⟨g, off, e, hb, hcs⟩ := h hn
  refine ⟨g, off, e, hb, fun j x hx => ?_⟩
  have h1 := hcs j x hx
  rw [World.cell?_setCell_other _ _ _ _ (fun e => by
    rw [e] at hc
    rw [hc] at h1
    cases h1
    exact hu _ (List.mem_of_getElem? hx) rfl)]
  exact h1

theorem tok_noslice {ts : List TK} {x : Value} (hx : x ∈ cellsT ts) {a : Option Addr} {n c : Nat} : x ≠ .slice a n c := by
  obtain ⟨t, _, ht⟩ := List.mem_flatMap.1 hx
  unfold cellsT1 at ht
  simp only [List.mem_cons, List.not_mem_nil, or_false] at ht
  rcases ht with rfl | rfl | rfl | rfl <;> intro e <;> cases e

/-- The law's boxes: most, the answer. -/
structure S12 (w : World) (m : Int) (wx : World) : Prop where
  m : wx.cell? ⟨w.heap.size, 0, none⟩ = some (.int .u8 m)
  r : wx.cell? ⟨w.heap.size + 1, 0, none⟩ = some (.bool false)
  rf : wx.frozen? ⟨w.heap.size + 1, 0, none⟩ = false
  k : Kept (fun _ => False) w wx

theorem S12.kept {S : Nat → Prop} {w : World} {m : Int} {A B : World} (h : S12 w m A) (hk : Kept S A B) (h0 : ∀ k, S k → w.heap.size + 2 ≤ k) : S12 w m B :=
  ⟨(hk.cell (p := ⟨w.heap.size, 0, none⟩) (World.block_lt_of_cell? _ _ h.m) (fun e => by have := h0 _ e; simp at this; omega)).trans h.m,
    (hk.cell (p := ⟨w.heap.size + 1, 0, none⟩) (World.block_lt_of_cell? _ _ h.r) (fun e => by have := h0 _ e; simp at this)).trans h.r,
    (hk.frozen (p := ⟨w.heap.size + 1, 0, none⟩) (World.block_lt_of_cell? _ _ h.r) (fun e => by have := h0 _ e; simp at this)).trans h.rf,
    h.k.trans hk (fun i hi e => by have := h0 _ e; omega)⟩

theorem s12_new (w : World) (m : Int) : S12 w m ((w.alloc (.cells #[.int .u8 m] 5)).alloc (.cells #[.bool false] 4)) := by
  have h1 := World.cell?_alloc_new w #[.int .u8 m] 5 0
  have h2 := World.cell?_alloc_new (w.alloc (.cells #[.int .u8 m] 5)) #[.bool false] 4 0
  rw [World.size_alloc] at h2
  exact ⟨(World.cell?_alloc_lt _ _ _ (by simp)).trans h1, h2, by simp, ((Kept.refl (fun _ => False) w).alloc _).alloc _⟩

/-- What the text's tokens are, as the law's first half finds them. -/
structure V12 (w : World) (m : Int) (bw bn : Nat) (ao : Option Addr) (cap : Nat) (ts : List TK) (j : Nat) (wx : World) : Prop where
  s : S12 w m wx
  c : wx.cell? ⟨bw, 0, none⟩ = some (.slice ao ts.length cap)
  t : Ts wx bn ao ts
  i : wx.cell? ⟨bn, 0, none⟩ = some (.int .i64 (j : Int))
  jf : wx.frozen? ⟨bn, 0, none⟩ = false
  b1 : w.heap.size + 2 ≤ bw
  b2 : bw < bn

theorem V12.kept {S : Nat → Prop} {w : World} {m : Int} {bw bn : Nat} {ao : Option Addr} {cap : Nat} {ts : List TK} {j : Nat} {A B : World} (h : V12 w m bw bn ao cap ts j A) (hk : Kept S A B) (h0 : ∀ k, S k → bn < k) : V12 w m bw bn ao cap ts j B := by
  have h1 := h.b1; have h2 := h.b2
  refine ⟨h.s.kept hk (fun k hk => by have := h0 k hk; omega), (hk.cell (p := ⟨bw, 0, none⟩) (World.block_lt_of_cell? _ _ h.c) (fun e => by have := h0 _ e; simp at this; omega)).trans h.c, h.t.kept hk (fun hn a ha => ?_), (hk.cell (p := ⟨bn, 0, none⟩) (World.block_lt_of_cell? _ _ h.i) (fun e => by have := h0 _ e; simp at this)).trans h.i, (hk.frozen (p := ⟨bn, 0, none⟩) (World.block_lt_of_cell? _ _ h.i) (fun e => by have := h0 _ e; simp at this)).trans h.jf, h1, h2⟩
  obtain ⟨g, off, e, hb, _⟩ := h.t hn
  rw [e] at ha
  cases ha
  intro hs
  have := h0 _ hs
  dsimp only at this
  omega

theorem V12.next {w : World} {m : Int} {bw bn : Nat} {ao : Option Addr} {cap : Nat} {ts : List TK} {j : Nat} {A : World} (h : V12 w m bw bn ao cap ts j A) : V12 w m bw bn ao cap ts (j + 1) (A.setCell ⟨bn, 0, none⟩ (.int .i64 ((j : Int) + 1))) := by
  have h1 := h.b1; have h2 := h.b2
  have hk := Kept.setCell (S := fun k => k = bn) (p := ⟨bn, 0, none⟩) (Kept.refl _ A) (fun _ => rfl) (.int .i64 ((j : Int) + 1))
  refine ⟨h.s.kept hk (fun k hk => by omega), (hk.cell (p := ⟨bw, 0, none⟩) (World.block_lt_of_cell? _ _ h.c) (by show ¬ bw = bn; omega)).trans h.c, h.t.kept hk (fun hn a ha => ?_), ?_, ?_, h1, h2⟩
  · obtain ⟨g, off, e, hb, _⟩ := h.t hn
    rw [e] at ha
    cases ha
    show ¬ g = bn
    omega
  · rw [World.cell?_setCell_same _ _ _ h.i]; simp
  · rw [World.frozen?_setCell]; exact h.jf

set_option maxHeartbeats 6000000 in
set_option maxRecDepth 100000 in
theorem streams_walk (l : List UInt8) (m : Nat) (hm : m ≤ 255) (w : World) : Calls Tryd.prog 4 #[.string (bs l), .int .u8 (m : Int)] w fun e w' => e = .returned (.bool true) ∧ Below w.heap.size w w' := by
  by_cases h5 : 500 < l.length
  · exact streams_awake l m w h5
  · have HW := Lib.hid (fun w => awake12_any w)
    have hs := bs_size l
    have h1 : ¬ (500 : Int) < ((bs l).size : Int) := by omega
    have hl5 : l.length ≤ 500 := by omega
    have S0 := Lib.hid (s12_new w (m : Int))
    have HA := Lib.hid (fun w => r12all_any l w (by omega))
    have HOK := Lib.hid (fun (h : (allL l).1 = 0) => stream_ok (l := l) (ts := (allL l).2.2) (by omega) (by
      have h2 : (allL l).2.1 = 0 := by
        unfold allL at h ⊢
        rw [if_neg (by omega)] at h ⊢
        exact (go_ok l.length _ l 0 (Nat.le_refl _) h).1
      exact Prod.ext h (Prod.ext h2 rfl)))
    have HER := Lib.hid (show (allL l).1 ≠ 0 → ∃ d : Nat, d < l.length ∧ (allL l).2.1 = (d : Int) ∧ allL (l.take d) = (0, 0, streamL l ++ [⟨0, [], 0, (d : Int)⟩]) from fun h => by
      obtain ⟨d, h1, h2, h3⟩ := stream_err (l := l) (by omega) h
      refine ⟨d, ?_, h2, h3⟩
      rcases Nat.lt_or_ge d l.length with h4 | h4
      · exact h4
      · obtain rfl : d = l.length := by omega
        rw [List.take_length] at h3
        rw [h3] at h
        exact (h rfl).elim)
    have HST := Lib.hid (fun w => dstream12_any l w (by omega))
    have HSN := Lib.hid (show (streamL l).length ≤ 501 from by
      by_cases h : (allL l).1 = 0
      · rw [HOK.out h]
        have := all_cnt l
        omega
      · obtain ⟨d, h1, _, h3⟩ := HER.out h
        have := all_cnt (l.take d)
        rw [h3, List.length_append, List.length_take] at this
        simp only [List.length_cons, List.length_nil] at this
        omega)
    have HA2 := Lib.hid (fun (d : Nat) (w : World) => r12all_any (l.take d) w (by rw [List.length_take]; omega))
    clear h5
    refine (callsIn_wide (n := 5)).1 ?_
    refine callsIn_of_wp_marks Tryd.func4 rfl trivial ?_ rfl
    refine wpIn_wide.2 ?_
    simp only [Tryd.ntmps4, List.size_toArray, List.length_cons, List.length_nil, Nat.reduceAdd, Nat.reduceSub, Array.replicate_succ, Array.replicate_zero, List.push_toArray, List.append_toArray, List.nil_append, List.cons_append]
    go_wp2_with fail
    refine (HW.out _).mono ?_
    rintro e w1 ⟨rfl, k1⟩
    have S1 := Lib.hid (S0.out.kept k1 (fun _ h => h.elim))
    have KW := Lib.hid (show Kept (fun _ => False) w1 (w1.alloc (.cells #[.slice none 0 0] 23)) from (Kept.refl (fun _ => False) w1).alloc _)
    have CW := Lib.hid (show (w1.alloc (.cells #[.slice none 0 0] 23)).cell? ⟨w1.heap.size, 0, none⟩ = some (.slice none 0 0) from World.cell?_alloc_new w1 _ _ 0)
    have FW := Lib.hid (show (w1.alloc (.cells #[.slice none 0 0] 23)).frozen? ⟨w1.heap.size, 0, none⟩ = false by simp)
    have HZ1 := Lib.hid (show w.heap.size + 2 ≤ w1.heap.size by have := k1.size; simp only [World.size_alloc] at this; omega)
    clear k1
    go_upto_block 0 with fail
    have hex : (bs l).extract 0 l.length = bs l := by rw [bs_cut12, List.take_length]
    obtain ⟨wB, hwB⟩ : ∃ wB, w1.alloc (.cells #[.slice none 0 0] 23) = wB := ⟨_, rfl⟩
    rw [hwB] at KW CW FW ⊢
    clear hwB
    go_cut [6, 7, 8, 9] from 20 to 57 (fun y6 y7 y8 y9 wx => ∃ ao cap, wx.cell? ⟨w1.heap.size, 0, none⟩ = some (.slice ao (streamL l).length cap) ∧ Ts wx wx.heap.size ao (streamL l) ∧ Kept (fun _ => False) w1 wx)
    case first =>
      go_wp2_with fail
      go_loopg [6] 2 (fun k v wr => ((k = 2 ∧ v = .int .i64 (l.length : Int)) ∨ (k = 1 ∧ ∃ d : Nat, d < l.length ∧ v = .int .i64 (d : Int) ∧ allL (l.take d) = (0, 0, streamL l ++ [⟨0, [], 0, (d : Int)⟩]))) ∧ Kept (fun _ => False) wB wr)
      case atStart => exact ⟨.inl ⟨rfl, rfl⟩, Kept.refl _ _⟩
      case round =>
        obtain ⟨hcase, hw⟩ := hrel
        have HW1 := Lib.hid hw; clear hw
        rcases hcase with ⟨rfl, rfl⟩ | ⟨rfl, d, hd, rfl, hall⟩
        · generalize hra : allL l = ra at *
          obtain ⟨ea, pa, ts⟩ := ra
          clear hra
          go_wp2_with fail
          refine (HA.out _).mono ?_
          rintro e w2 ⟨ao, cap, rfl, ht, k2, hc⟩
          have K2 := Lib.hid (HW1.out.trans k2 (fun _ _ h => h))
          have C2 := Lib.hid ((K2.out.cell (p := ⟨w1.heap.size, 0, none⟩) (World.block_lt_of_cell? _ _ CW.out) (fun h => h)).trans CW.out)
          have F2 := Lib.hid ((K2.out.frozen (p := ⟨w1.heap.size, 0, none⟩) (World.block_lt_of_cell? _ _ CW.out) (fun h => h)).trans FW.out)
          have K12 := Lib.hid (KW.out.trans K2.out (fun _ _ h => h))
          have T2 := Lib.hid ht; have HCP := Lib.hid hc
          clear k2 ht hc
          by_cases h0 : ea = 0
          · have e0 : (ea != 0) = false := by simp [h0]
            have e1 : (ea == 0) = true := by simp [h0]
            have hST := HOK.out h0
            have HS2 := Lib.hid hST
            have c2 := C2.out; have f2 := F2.out
            clear h0 hST
            go_wp2
            go_meet
            have ks := Kept.setCell (S := fun k => k = w1.heap.size) (p := ⟨w1.heap.size, 0, none⟩) (Kept.refl _ w2) (fun _ => rfl) (.slice ao ts.length cap)
            exact ⟨ao, cap, by rw [World.cell?_setCell_same _ _ _ C2.out, HS2.out], by rw [HS2.out]; exact (lies_slot12 T2.out C2.out (fun x hx => tok_noslice hx) _).mono ks.size, K12.out.trans ks (fun i hi e => by omega)⟩
          · have e0 : (ea != 0) = true := by simpa using h0
            obtain ⟨d, hd1, hpa, hd3⟩ := HER.out h0
            subst hpa
            have HD1 := Lib.hid hd1; have HD3 := Lib.hid hd3
            have hd5 : d ≤ 500 := by omega
            clear h0 hd1 hd3
            by_cases hd0 : d = 0
            · have e3 : ((d : Int) == 0) = true := by simp [hd0]
              have HS2 := Lib.hid (show streamL l = [] by
                have h := HD3.out
                rw [hd0, List.take_zero] at h
                have h1 : allL [] = (0, 0, [⟨0, [], 0, 0⟩]) := rfl
                rw [h1] at h
                have h2 := congrArg (fun r : Int × Int × List TK => r.2.2.length) h
                simp at h2
                exact h2)
              clear hd0
              go_wp2
              go_meet
              exact ⟨none, 0, by rw [HS2.out]; exact C2.out, by rw [HS2.out]; exact Lies.nil _ _ _, K12.out⟩
            · have e3 : ((d : Int) == 0) = false := by simpa using hd0
              clear hd0
              go_wp2
              go_roundg 1
              case measure => omega
              case rel => exact ⟨.inr ⟨rfl, d, HD1.out, by go_num, HD3.out⟩, K2.out⟩
        · have HD3 := Lib.hid hall; have HD1 := Lib.hid hd
          have hex2 : (bs l).extract 0 d = bs (l.take d) := bs_cut12 l d
          have hA2 := HA2.out d
          rw [hall] at hA2
          have HA3 := Lib.hid hA2
          have e4 : ((d : Int) == (l.length : Int)) = false := by simp; omega
          have hlt : (d : Int) < (l.length : Int) := by omega
          have hle : (d : Int) ≤ (l.length : Int) := by omega
          clear hA2 hall hd
          go_wp2_with fail
          refine (HA3.out _).mono ?_
          rintro e w2 ⟨ao, cap, rfl, ht, k2, hc⟩
          dsimp only at ht hc ⊢
          obtain ⟨ts2, hts⟩ : ∃ ts2, ts2 = streamL l ++ [⟨0, [], 0, (d : Int)⟩] := ⟨_, rfl⟩
          rw [← hts] at ht hc ⊢
          obtain ⟨N, hN⟩ : ∃ N, (streamL l).length = N := ⟨_, rfl⟩
          have hlen : ts2.length = N + 1 := by rw [hts, List.length_append, hN]; rfl
          have HTK := Lib.hid (show streamL l = ts2.take N by rw [hts, ← hN, List.take_left])
          obtain ⟨g, off, rfl, _, _⟩ := ht.at (by intro h; rw [h] at hlen; simp at hlen)
          have K2 := Lib.hid (HW1.out.trans k2 (fun _ _ h => h))
          have C2 := Lib.hid ((K2.out.cell (p := ⟨w1.heap.size, 0, none⟩) (World.block_lt_of_cell? _ _ CW.out) (fun h => h)).trans CW.out)
          have F2 := Lib.hid ((K2.out.frozen (p := ⟨w1.heap.size, 0, none⟩) (World.block_lt_of_cell? _ _ CW.out) (fun h => h)).trans FW.out)
          have K12 := Lib.hid (KW.out.trans K2.out (fun _ _ h => h))
          have T2 := Lib.hid ht; have HN := Lib.hid hN
          rw [hlen] at hc ⊢
          have hcap : ¬ cap = 0 := by omega
          have hN5 : N ≤ 501 := by have := HSN.out; omega
          have hNc : (N : Int) ≤ (cap : Int) := by omega
          have c2 := C2.out; have f2 := F2.out
          clear ht hts hlen k2 hN
          go_wp2
          go_meet
          have ks := Kept.setCell (S := fun k => k = w1.heap.size) (p := ⟨w1.heap.size, 0, none⟩) (Kept.setCell (S := fun k => k = w1.heap.size) (p := ⟨w1.heap.size, 0, none⟩) (Kept.refl _ w2) (fun _ => rfl) (.slice (some ⟨g, off, none⟩) (N + 1) cap)) (fun _ => rfl) (.slice (some ⟨g, off, none⟩) N cap)
          have e1 := World.cell?_setCell_same w2 _ (.slice (some ⟨g, off, none⟩) (N + 1) cap) C2.out
          exact ⟨some ⟨g, off, none⟩, cap, by rw [World.cell?_setCell_same _ _ _ e1, HN.out], by rw [HTK.out]; exact (ts_take (lies_slot12 (lies_slot12 T2.out C2.out (fun x hx => tok_noslice hx) _) e1 (fun x hx => tok_noslice hx) _) N).mono ks.size, K12.out.trans ks (fun i hi e => by omega)⟩
    case rest =>
      obtain ⟨ao, cap, hcw, htw, hkw⟩ := hcut
      have CWc := Lib.hid hcw; have TWc := Lib.hid htw; have KWc := Lib.hid hkw
      clear hcw htw hkw
      have HSR := Lib.hid (HST.out (wc.alloc (.cells #[.int .i64 0] 3)))
      have HCF := Lib.hid CWc.out
      have V2 := Lib.hid (show V12 w (m : Int) w1.heap.size wc.heap.size ao cap (streamL l) 0 (wc.alloc (.cells #[.int .i64 0] 3)) from
        ⟨S1.out.kept (KWc.out.trans ((Kept.refl (fun _ => False) wc).alloc _) (fun _ _ h => h)) (fun _ h => h.elim), (World.cell?_alloc_lt _ _ _ (World.block_lt_of_cell? _ _ CWc.out)).trans CWc.out, TWc.out.kept ((Kept.refl (fun _ => False) wc).alloc _) (fun _ _ _ h => h), World.cell?_alloc_new wc _ _ 0, by simp, HZ1.out, World.block_lt_of_cell? _ _ CWc.out⟩)
      go_wp2_with fail
      refine HSR.out.mono ?_
      rintro e w3 ⟨lb, rfl, k3, hseq⟩
      have V3 := Lib.hid (V2.out.kept k3 (fun _ h => h.elim))
      have HSQ := Lib.hid (hseq 3 (fun k => (k = wc.heap.size ∨ k = w.heap.size + 1) ∨ k = w3.heap.size ∨ k = w3.heap.size + 1) w3 (by omega) (Kept.refl _ _) (fun k hk => by have h1 := k3.size; have h2 := V2.out.b1; have h3 := V2.out.b2; rw [World.size_alloc] at h1; omega) (fun k h1 h2 hk => by have h3 := V2.out.b1; have h4 := V2.out.b2; rw [World.size_alloc] at h1; omega))
      have HZ3 := Lib.hid (show wc.heap.size < w3.heap.size by have := k3.size; rw [World.size_alloc] at this; omega)
      clear k3 hseq
      go_wp2_with fail
      generalize streamL l = ts at *
      have HTM := Lib.hid (show ∀ pre : List TK, ∀ x, pre ++ [x] <+: ts → ∃ h : pre.length < ts.length, ts[pre.length] = x from fun pre x ⟨t, ht⟩ => by
        subst ht
        exact ⟨by simp, by simp⟩)
      refine (wpIn_wide (n := 4)).1 ?_
      refine wpIn_rangeX (P := Tryd.prog) (n := 4) (by omega) (gf := 19) (lb := lb) rfl (enters_of Tryd.func19 (by kernel_rfl) rfl) 2 (fun k => k = wc.heap.size ∨ k = w.heap.size + 1) (by have := HZ3.out; have := V3.out.b1; have := V3.out.b2; show ¬ (w3.heap.size = wc.heap.size ∨ w3.heap.size = w.heap.size + 1); omega) (by have := HZ3.out; have := V3.out.b1; have := V3.out.b2; show ¬ (w3.heap.size + 1 = wc.heap.size ∨ w3.heap.size + 1 = w.heap.size + 1); omega) HSQ.out (Below.refl _ _) (fun _ => rfl)
        (fun pre W => V12 w (m : Int) w1.heap.size wc.heap.size ao cap ts pre.length W ∧ pre = ts.take pre.length ∧ pre.length ≤ m) (fun pre W => ∃ j, V12 w (m : Int) w1.heap.size wc.heap.size ao cap ts j W ∧ j = m ∧ pre.length = j + 1) (fun pre _ => ¬ pre <+: ts) ?hI ?hIx (fun _ _ _ h _ => h) (fun _ _ _ _ _ _ _ => trivial) ⟨V3.out, rfl, Nat.zero_le _⟩
        (fun x a' W => ∃ bx, w3.heap.size + 1 < bx ∧ Bt W bx x ∧ a' = { tmps := #[.string (bs l), .int .u8 (m : Int), undef, .pointer (some ⟨w.heap.size, 0, none⟩), .pointer (some ⟨w.heap.size + 1, 0, none⟩), .pointer (some ⟨w1.heap.size, 0, none⟩), u6, u7, u8, u9, .pointer (some ⟨wc.heap.size, 0, none⟩), .pointer (some ⟨bx, 0, none⟩), .bool true, .bool false, .bool false, .string (bs l), .int .i64 (l.length : Int), .bool (decide ((500 : Int) < (l.length : Int))), .bool (decide ((500 : Int) < (l.length : Int))), undef, u20, u21, u22, u23, u24, u25, u26, u27, u28, u29, u30, u31, u32, u33, u34, u35, u36, u37, u38, u39, u40, u41, u42, u43, u44, u45, u46, u47, u48, u49, u50, u51, u52, u53, u54, u55, u56, u57, .string (bs l), .func (.func 19) #[] lb, .agg #[.int .i64 x.k, .string (bs x.x), .int .i64 x.n, .int .i64 x.at_], undef, undef, undef, undef, undef, undef, undef, undef, undef, undef, undef, undef, undef, undef, undef, undef, undef, undef, undef, undef, undef, undef, undef, undef, undef], defers := [] })
        ?hAx ?assign ?body ?done ?stop ?ret
      case hI =>
        rintro pre A B ⟨h1, h2⟩ hk
        exact ⟨h1.kept hk (fun k h => by have := HZ3.out; rcases h with rfl | rfl <;> omega), h2⟩
      case hIx =>
        rintro pre A B ⟨j, h1, h2⟩ hk
        exact ⟨j, h1.kept hk (fun k h => by have := HZ3.out; rcases h with rfl | rfl <;> omega), h2⟩
      case hAx =>
        rintro x a' A B ⟨bx, h1, h2, h3⟩ hk
        exact ⟨bx, h1, h2.kept hk (by omega), h3⟩
      case assign =>
        rintro lv pre x W K hi hg hlt hK
        unfold encT12 valT
        go_simp
        have HKK := Lib.hid hK; have HB := Lib.hid (bt_new W x 35)
        clear hK hi hg
        refine wpIn_region_plain lv _ (by rintro ⟨a, w, h⟩; exact h) (by kernel_rfl) ?_
        go_wp2
        exact HKK.out _ _ ((Kept.refl _ W).alloc _) ⟨W.heap.size, hlt, HB.out, rfl⟩
      case body =>
        rintro lv pre x a' W ⟨h1, h2, h3⟩ hg ⟨bx, hb1, hb2, rfl⟩ hd1 hd2 hlt hN
        have I0 := Lib.hid h1; have H2 := Lib.hid h2; have H3 := Lib.hid h3; have HB2 := Lib.hid hb2
        have c0 := h1.i; have c1 := h1.s.m
        have hwm : IntKind.i64.wrap (m : Int) = (m : Int) := by rw [IntKind.wrap_i64]; omega
        clear h1 h2 h3 hg hb2 hd1 hd2
        refine wpIn_block ?_
        refine wpIn_seq ?_
        refine wpIn_seq ?_
        refine wpIn_region_plain lv _ (by rintro ⟨a, w, h⟩; exact h) (by kernel_rfl) ?_
        by_cases hmp : m ≤ pre.length
        · have i1 : (m : Int) ≤ (pre.length : Int) := by omega
          have HMP := Lib.hid hmp; clear hmp
          go_wp2
          refine wpIn_cond_split (t := true) rfl (fun _ => ?_) (fun h => by cases h)
          refine wpIn_exit ?_
          simp only [Exit.then, Exit.inBlock]
          rw [if_neg (by decide)]
          exact ⟨rfl, Kept.refl _ _, pre.length, I0.out, by have := H3.out; have := HMP.out; omega, by simp⟩
        · have i1 : ¬ (m : Int) ≤ (pre.length : Int) := by omega
          have HMP := Lib.hid hmp; clear hmp
          go_wp2
          refine wpIn_cond_split (t := false) rfl (fun h => by cases h) (fun _ => ?_)
          refine wpIn_skip ?_
          have I1 := I0.out
          obtain ⟨xb, xo, rfl, hxb, hrow⟩ := I1.t.at (by intro h; rw [h] at hN; simp at hN)
          have HDR := Lib.hid (Kept.drew (Kept.refl (fun _ => False) W))
          have hlx : ∀ {a : Addr} {u : Value}, W.cell? a = some u → W.drew.cell? a = some u := fun h => (HDR.out.cell (World.block_lt_of_cell? _ _ h) (fun h => h)).trans h
          obtain ⟨q0, q1, q2, q3⟩ := hrow pre.length hN
          have hTM := HTM.out pre x
          generalize hy : ts[pre.length] = y at *
          have hS : (fun w' => w'.cell? ⟨wc.heap.size, 0, none⟩ = some (.int .i64 (pre.length : Int)) ∧ w'.cell? ⟨w1.heap.size, 0, none⟩ = some (.slice (some ⟨xb, xo, none⟩) ts.length cap) ∧ w'.cell? ⟨bx, 0, none⟩ = some (.int .i64 x.k) ∧ w'.cell? ⟨bx, 1, none⟩ = some (.string (bs x.x)) ∧ w'.cell? ⟨bx, 2, none⟩ = some (.int .i64 x.n) ∧ w'.cell? ⟨bx, 3, none⟩ = some (.int .i64 x.at_) ∧ w'.cell? ⟨xb, xo + pre.length * 4, none⟩ = some (.int .i64 y.k) ∧ w'.cell? ⟨xb, xo + pre.length * 4 + 1, none⟩ = some (.string (bs y.x)) ∧ w'.cell? ⟨xb, xo + pre.length * 4 + 2, none⟩ = some (.int .i64 y.n) ∧ w'.cell? ⟨xb, xo + pre.length * 4 + 3, none⟩ = some (.int .i64 y.at_)) W.drew := ⟨hlx I1.i, hlx I1.c, hlx HB2.out.c0, hlx HB2.out.c1, hlx HB2.out.c2, hlx HB2.out.c3, hlx q0, hlx q1, hlx q2, hlx q3⟩
          have HNEQ := Lib.hid (fun (A B : Result Next) => neqif12 x y A B)
          have i2 : (pre.length : Int) < (ts.length : Int) := by omega
          have hge : decide ((ts.length : Int) ≤ (pre.length : Int)) = false := decide_eq_false (by omega)
          have HRX := Lib.hid (show decide (x ≠ y) = decide (x ≠ y) from rfl)
          have HR1 := Lib.hid (show decide (x ≠ y) = true → x ≠ y from fun h => of_decide_eq_true h)
          have HR2 := Lib.hid (show decide (x ≠ y) = false → x = y from fun h => Classical.not_not.1 (of_decide_eq_false h))
          generalize decide (x ≠ y) = r at *
          have hlx2 : ∀ {a : Addr} {u : Value}, W.cell? a = some u → W.drew.cell? a = some u := hlx
          clear q0 q1 q2 q3 hrow hlx I1 c0 c1 HRX
          refine wpIn_seq ?_
          refine wpIn_seq ?_
          refine wpIn_region_round lv _ (by rintro ⟨a, w, h⟩; exact h) (by kernel_rfl) (by kernel_rfl) ?_
          change wpAny _ _ _ _ _ _ _ (World.drew _)
          refine wpAny_of_held (S := fun w' => w'.cell? ⟨wc.heap.size, 0, none⟩ = some (.int .i64 (pre.length : Int)) ∧ w'.cell? ⟨w1.heap.size, 0, none⟩ = some (.slice (some ⟨xb, xo, none⟩) ts.length cap) ∧ w'.cell? ⟨bx, 0, none⟩ = some (.int .i64 x.k) ∧ w'.cell? ⟨bx, 1, none⟩ = some (.string (bs x.x)) ∧ w'.cell? ⟨bx, 2, none⟩ = some (.int .i64 x.n) ∧ w'.cell? ⟨bx, 3, none⟩ = some (.int .i64 x.at_) ∧ w'.cell? ⟨xb, xo + pre.length * 4, none⟩ = some (.int .i64 y.k) ∧ w'.cell? ⟨xb, xo + pre.length * 4 + 1, none⟩ = some (.string (bs y.x)) ∧ w'.cell? ⟨xb, xo + pre.length * 4 + 2, none⟩ = some (.int .i64 y.n) ∧ w'.cell? ⟨xb, xo + pre.length * 4 + 3, none⟩ = some (.int .i64 y.at_)) _ _ _ _ ?_
          · skip
            refine wpAnyH_take (i := 0) (oi := { dst := some 65, op := _, type := _, pos := _, after := _, guard := none }) (v := .int .i64 (pre.length : Int)) rfl (by kernel_rfl) (by kernel_rfl) (by kernel_rfl) (fun _ _ _ h => h) (Or.inl ⟨by rfl, by intro w hSw; (try dsimp only at hSw); go_simp⟩) (by assumption) ?_; simp only [Act.put, List.setIfInBounds_toArray, List.set_cons_zero, List.set_cons_succ]
            refine wpAnyH_take (i := 1) (oi := { dst := some 66, op := _, type := _, pos := _, after := _, guard := none }) (v := .slice (some ⟨xb, xo, none⟩) ts.length cap) rfl (by kernel_rfl) (by kernel_rfl) (by kernel_rfl) (fun _ _ _ h => h) (Or.inl ⟨by rfl, by intro w hSw; (try dsimp only at hSw); go_simp⟩) (by assumption) ?_; simp only [Act.put, List.setIfInBounds_toArray, List.set_cons_zero, List.set_cons_succ]
            refine wpAnyH_take (i := 2) (oi := { dst := some 67, op := _, type := _, pos := _, after := _, guard := none }) (v := .int .i64 (ts.length : Int)) rfl (by kernel_rfl) (by kernel_rfl) (by kernel_rfl) (fun _ _ _ h => h) (Or.inl ⟨by rfl, by intro w hSw; (try dsimp only at hSw); go_simp⟩) (by assumption) ?_; simp only [Act.put, List.setIfInBounds_toArray, List.set_cons_zero, List.set_cons_succ]
            refine wpAnyH_take (i := 3) (oi := { dst := some 68, op := _, type := _, pos := _, after := _, guard := none }) (v := .bool false) rfl (by kernel_rfl) (by kernel_rfl) (by kernel_rfl) (fun _ _ _ h => h) (Or.inl ⟨by rfl, by intro w hSw; (try dsimp only at hSw); go_simp⟩) (by assumption) ?_; simp only [Act.put, List.setIfInBounds_toArray, List.set_cons_zero, List.set_cons_succ]
            refine wpAnyH_take (i := 4) (oi := { dst := some 69, op := _, type := _, pos := _, after := _, guard := none }) (v := .bool false) rfl (by kernel_rfl) (by kernel_rfl) (by kernel_rfl) (fun _ _ _ h => h) (Or.inl ⟨by rfl, by intro w hSw; (try dsimp only at hSw); go_simp⟩) (by assumption) ?_; simp only [Act.put, List.setIfInBounds_toArray, List.set_cons_zero, List.set_cons_succ]
            refine wpAnyH_take (i := 5) (oi := { dst := some 70, op := _, type := _, pos := _, after := _, guard := some (4, false) }) (v := .agg #[.int .i64 x.k, .string (bs x.x), .int .i64 x.n, .int .i64 x.at_]) rfl (by kernel_rfl) (by kernel_rfl) (by kernel_rfl) (fun _ _ _ h => h) (Or.inl ⟨by rfl, by intro w hSw; (try dsimp only at hSw); go_simp⟩) (by assumption) ?_; simp only [Act.put, List.setIfInBounds_toArray, List.set_cons_zero, List.set_cons_succ]
            refine wpAnyH_take (i := 6) (oi := { dst := some 71, op := _, type := _, pos := _, after := _, guard := some (4, false) }) (v := .slice (some ⟨xb, xo, none⟩) ts.length cap) rfl (by kernel_rfl) (by kernel_rfl) (by kernel_rfl) (fun _ _ _ h => h) (Or.inl ⟨by rfl, by intro w hSw; (try dsimp only at hSw); go_simp⟩) (by assumption) ?_; simp only [Act.put, List.setIfInBounds_toArray, List.set_cons_zero, List.set_cons_succ]
            refine wpAnyH_take (i := 7) (oi := { dst := some 72, op := _, type := _, pos := _, after := _, guard := some (4, false) }) (v := .int .i64 (pre.length : Int)) rfl (by kernel_rfl) (by kernel_rfl) (by kernel_rfl) (fun _ _ _ h => h) (Or.inl ⟨by rfl, by intro w hSw; (try dsimp only at hSw); go_simp⟩) (by assumption) ?_; simp only [Act.put, List.setIfInBounds_toArray, List.set_cons_zero, List.set_cons_succ]
            refine wpAnyH_take (i := 8) (oi := { dst := some 73, op := _, type := _, pos := _, after := _, guard := some (4, false) }) (v := .pointer (some ⟨xb, xo + pre.length * 4, none⟩)) rfl (by kernel_rfl) (by kernel_rfl) (by kernel_rfl) (fun _ _ _ h => h) (Or.inl ⟨by rfl, by intro w hSw; (try dsimp only at hSw); go_simp⟩) (by assumption) ?_; simp only [Act.put, List.setIfInBounds_toArray, List.set_cons_zero, List.set_cons_succ]
            refine wpAnyH_take (i := 9) (oi := { dst := some 74, op := _, type := _, pos := _, after := _, guard := some (4, false) }) (v := .agg #[.int .i64 y.k, .string (bs y.x), .int .i64 y.n, .int .i64 y.at_]) rfl (by kernel_rfl) (by kernel_rfl) (by kernel_rfl) (fun _ _ _ h => h) (Or.inl ⟨by rfl, by intro w hSw; (try dsimp only at hSw); go_simp⟩) (by assumption) ?_; simp only [Act.put, List.setIfInBounds_toArray, List.set_cons_zero, List.set_cons_succ]
            refine wpAnyH_take (i := 10) (oi := { dst := some 75, op := _, type := _, pos := _, after := _, guard := some (4, false) }) (v := .bool r) rfl (by kernel_rfl) (by kernel_rfl) (by kernel_rfl) (fun _ _ _ h => h) (Or.inl ⟨by rfl, by intro w hSw; (try dsimp only at hSw); go_simp; refine (HNEQ.out _ _).trans ?_; cases r <;> rfl⟩) (by assumption) ?_; simp only [Act.put, List.setIfInBounds_toArray, List.set_cons_zero, List.set_cons_succ]
            refine wpAnyH_take (i := 11) (oi := { dst := some 76, op := _, type := _, pos := _, after := _, guard := none }) (v := .bool r) rfl (by kernel_rfl) (by kernel_rfl) (by kernel_rfl) (fun _ _ _ h => h) (Or.inl ⟨by rfl, by intro w hSw; (try dsimp only at hSw); go_simp⟩) (by assumption) ?_; simp only [Act.put, List.setIfInBounds_toArray, List.set_cons_zero, List.set_cons_succ]
            refine wpAnyH_done (by kernel_rfl) ?_ _
            refine wpIn_cond_split (t := r) rfl (fun hr => ?_) (fun hr => ?_)
            · have r5 := hlx2 I0.out.s.r
              have f5 := I0.out.s.rf
              refine wpIn_seq ?_
              refine wpIn_region_plain lv _ (by rintro ⟨a, w, h⟩; exact h) (by kernel_rfl) ?_
              go_wp2
              refine wpIn_ret ?_
              simp only [Exit.then, Exit.inBlock]
              refine ⟨Kept.setCell (p := ⟨w.heap.size + 1, 0, none⟩) (HDR.out.mono (fun _ _ h => h.elim)) (fun _ => .inr rfl) _, fun h => ?_⟩
              obtain ⟨h1, h2⟩ := hTM h
              exact HR1.out hr (h2.symm.trans hy)
            · have i5 := hlx2 I0.out.i
              have j5 := I0.out.jf
              have hw8 : IntKind.i64.wrap ((pre.length : Int) + 1) = (pre.length : Int) + 1 := by rw [IntKind.wrap_i64]; have := HSN.out; omega
              refine wpIn_skip ?_
              change Code.wpIn _ _ _ (Code.region 21 _ false) _ _ _
              refine wpIn_region_plain lv _ (by rintro ⟨a, w, h⟩; exact h) (by kernel_rfl) ?_
              go_wp2
              refine ⟨Kept.setCell (p := ⟨wc.heap.size, 0, none⟩) (HDR.out.mono (fun _ _ h => h.elim)) (fun _ => .inl rfl) _, ?_, ?_, ?_⟩
              · rw [List.length_append, List.length_singleton]
                exact (I0.out.kept HDR.out (fun _ h => h.elim)).next
              · rw [List.length_append, List.length_singleton, List.take_add_one, List.getElem?_eq_getElem hN, hy, ← HR2.out hr, Option.toList_some, ← H2.out]
              · rw [List.length_append, List.length_singleton]
                have := HMP.out
                omega
      case done =>
        rintro xs W hS ⟨h1, h2, h3⟩ hd
        subst hS
        have c0 := h1.i; have c1 := h1.s.m; have c2 := h1.c; have c3 := h1.s.r; have c4 := h1.s.rf
        have hwm : IntKind.i64.wrap (m : Int) = (m : Int) := by rw [IntKind.wrap_i64]; omega
        have hle : (xs.length : Int) ≤ (m : Int) := by omega
        have hmin : min (m : Int) (xs.length : Int) = (xs.length : Int) := by omega
        have H1 := Lib.hid h1
        have HD2 := Lib.hid (show (W.setCell ⟨w.heap.size + 1, 0, none⟩ (.bool true)).heap[w3.heap.size]? = some (.deferred (some [])) from by
          rw [Below.heap_setCell _ _ _ _ (by have := HZ3.out; have := h1.b1; have := h1.b2; show w3.heap.size ≠ w.heap.size + 1; omega)]
          exact hd)
        clear h1 h2 h3 hd
        go_wp2
        refine ⟨by simp, .inl ⟨_, _, rfl, run_takeDeferred HD2.out, ?_⟩⟩
        have kd := kept_putObj (W.setCell ⟨w.heap.size + 1, 0, none⟩ (.bool true)) w3.heap.size (.deferred none)
        have e1 : (W.setCell ⟨w.heap.size + 1, 0, none⟩ (.bool true)).cell? ⟨w.heap.size + 1, 0, none⟩ = some (.bool true) := World.cell?_setCell_same _ _ _ H1.out.s.r
        have hzz : w.heap.size + 1 < w3.heap.size := by have := HZ3.out; have := H1.out.b1; have := H1.out.b2; omega
        have e2 := (kd.cell (p := ⟨w.heap.size + 1, 0, none⟩) (World.block_lt_of_cell? _ _ e1) (by show ¬ w.heap.size + 1 = w3.heap.size; omega)).trans e1
        refine ⟨_, results_box rfl rfl (load_cell12 Tryd.isAgg4 e2), rfl, ?_⟩
        have k5 := Kept.setCell (S := fun k => k = w.heap.size + 1) (p := ⟨w.heap.size + 1, 0, none⟩) (Kept.refl _ W) (fun _ => rfl) (.bool true)
        exact keeps_below12 ((H1.out.s.k.trans k5 (fun i hi e => by omega)).trans kd (fun i hi e => by omega))
      case stop =>
        rintro pre W hS ⟨j, h1, hjm, h3⟩ hd
        rw [hjm] at h1 h3
        have hpl := hS.length_le
        have c0 := h1.i; have c1 := h1.s.m; have c2 := h1.c; have c3 := h1.s.r; have c4 := h1.s.rf
        have hwm : IntKind.i64.wrap (m : Int) = (m : Int) := by rw [IntKind.wrap_i64]; omega
        have hle : ¬ (ts.length : Int) ≤ (m : Int) := by omega
        have hle2 : (m : Int) ≤ (ts.length : Int) := by omega
        have hmin : min (m : Int) (ts.length : Int) = (m : Int) := by omega
        have H1 := Lib.hid h1
        have HD2 := Lib.hid (show (W.setCell ⟨w.heap.size + 1, 0, none⟩ (.bool true)).heap[w3.heap.size]? = some (.deferred (some [])) from by
          rw [Below.heap_setCell _ _ _ _ (by have := HZ3.out; have := h1.b1; have := h1.b2; show w3.heap.size ≠ w.heap.size + 1; omega)]
          exact hd)
        clear h1 h3 hd hS hjm hpl
        refine wpIn_exit ?_
        go_wp2
        refine ⟨by simp, .inl ⟨_, _, rfl, run_takeDeferred HD2.out, ?_⟩⟩
        have kd := kept_putObj (W.setCell ⟨w.heap.size + 1, 0, none⟩ (.bool true)) w3.heap.size (.deferred none)
        have e1 : (W.setCell ⟨w.heap.size + 1, 0, none⟩ (.bool true)).cell? ⟨w.heap.size + 1, 0, none⟩ = some (.bool true) := World.cell?_setCell_same _ _ _ H1.out.s.r
        have hzz : w.heap.size + 1 < w3.heap.size := by have := HZ3.out; have := H1.out.b1; have := H1.out.b2; omega
        have e2 := (kd.cell (p := ⟨w.heap.size + 1, 0, none⟩) (World.block_lt_of_cell? _ _ e1) (by show ¬ w.heap.size + 1 = w3.heap.size; omega)).trans e1
        refine ⟨_, results_box rfl rfl (load_cell12 Tryd.isAgg4 e2), rfl, ?_⟩
        have k5 := Kept.setCell (S := fun k => k = w.heap.size + 1) (p := ⟨w.heap.size + 1, 0, none⟩) (Kept.refl _ W) (fun _ => rfl) (.bool true)
        exact keeps_below12 ((H1.out.s.k.trans k5 (fun i hi e => by omega)).trans kd (fun i hi e => by omega))
      case ret =>
        rintro pre W hS hI _
        exact (hI hS).elim

theorem streams_int (l : List UInt8) (a : Int) (ha : (Lit.int IntKind.u8 a).wf = true) (w : World) : Calls Tryd.prog 4 #[.string (bs l), .int .u8 a] w fun e w' => e = .returned (.bool true) ∧ Below w.heap.size w w' := by
  have h1 : 0 ≤ a ∧ a ≤ 255 := by simpa [Lit.wf, IntKind.min, IntKind.max, IntKind.bits, IntKind.signed] using ha
  have e : a = (a.toNat : Int) := by omega
  rw [e]
  exact streams_walk l a.toNat (by omega) w

end Go.Proofs.YtofpnlmlenffnaaDoor
