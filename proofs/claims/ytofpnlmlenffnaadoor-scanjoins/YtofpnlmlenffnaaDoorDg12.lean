/-
  CONTRACTS: (*strings.Builder).WriteByte; scan.quoted: the string at a text's head.
-/
import Derived.Test.YtofpnlmlenffnaaDoorGDd12
import Derived.Test.YtofpnlmlenffnaaDoorNf
import Derived.Test.YtofpnlmlenffnaaDoorGR12q
namespace Go.Proofs.YtofpnlmlenffnaaDoor
open Go.RowKit Go.Mk

set_option maxHeartbeats 1000000 in
set_option maxRecDepth 100000 in
theorem bbyte_any (b : Nat) (l : List UInt8) (c : UInt8) (w : World) (h : Bd w b l) (hl : l.length + 1 ≤ 1099511627776) :
    Calls Tryd.prog 55 #[.pointer (some ⟨b, 0, none⟩), .int .u8 (c.toNat : Int)] w fun e w' => e = .returned .nilIface ∧ Bd w' b (l ++ [c]) ∧ Kept (fun k => b ≤ k) w w' := by
  obtain ⟨i0, hi, hz0, hz1, hz2⟩ := info_parts Tryd.infoByte
  obtain ⟨p, v, hb, hp, ho, hn⟩ := h
  have HC := Lib.hid (bcheck_any b p v w hb hp)
  have hlt : b < w.heap.size := (Array.getElem?_eq_some_iff.1 hb).1
  have HO := Lib.hid ho; clear hb hp ho hn
  have hbv : bv c = .int .u8 (c.toNat : Int) := rfl
  have HBV := Lib.hid hbv; clear hbv
  generalize (c.toNat : Int) = y at *
  go_enter Tryd.func55, Tryd.ntmps55
  go_wp2_with fail
  refine HC.out.mono ?_
  rintro e w1 ⟨rfl, hb1, k1⟩
  have HK1 := Lib.hid k1; have HB1 := Lib.hid hb1
  have ho1 := owns_kept HO.out k1 (fun k hk e => by have := (owns_lt HO.out k hk).1; omega)
  have HO1 := Lib.hid ho1; clear ho1
  have c1 : w1.cell? ⟨b, 1, none⟩ = some v := by rw [Lib.cell_of_heap hb1]; rfl
  have f1 : w1.frozen? ⟨b, 1, none⟩ = false := Lib.frozen_of_heap hb1 1
  clear k1 hb1
  go_wp2_with (at_builtin; refine wpList_app _ rfl (.tmp 11) (.tmp 13) 45 45 rfl 5 i0 (.int .u8 0) 1 1 Tryd.underlying45 hi hz0 hz1 hz2 rfl _ _ _ rfl ((owns_base (base' := 0) HO1.out (fun _ _ => Nat.zero_le _)).alloc _) (.slice (some ⟨w1.heap.size, 0, none⟩) 1 1) 1 [.int .u8 y] rfl (src_one Tryd.underlying45 w1 _ _ rfl) ?b1 ?b2 ?next)
  case b1 => unfold maxLen; omega
  case b2 => omega
  case next =>
    intro v' w2 ho2 hg2 hb2 _
    have hlt1 := owns_lt HO1.out
    have hsz1 : b < w1.heap.size := Nat.lt_of_lt_of_le hlt HK1.out.size
    have ka : Kept (fun _ => False) w1 (w1.alloc (.cells #[.int .u8 y] 5)) := (Kept.refl _ w1).alloc _
    have hba : (w1.alloc (.cells #[.int .u8 y] 5)).heap[b]? = some (.cells #[.pointer (some ⟨b, 0, none⟩), v] 61 (0, 0)) := (ka.block b hsz1 (fun h => h)).trans HB1.out
    have H1 := Lib.hid (owns_base (base' := b + 1) ho2 (fun k hk => by
      rcases hb2 with hb | hb
      · rw [hb] at hk; exact (hlt1 k hk).1
      · rw [hb] at hk
        simp at hk
        omega))
    have H2 : Hid (w2.heap[b]? = some (.cells #[.pointer (some ⟨b, 0, none⟩), v] 61 (0, 0))) := (hg2.block b (Nat.lt_of_lt_of_le hsz1 ka.size) (fun e => by have := (hlt1 b e.symm).1; omega)).trans hba
    have d1 : w2.cell? ⟨b, 1, none⟩ = some v := by rw [Lib.cell_of_heap H2.out]; rfl
    have g1 : w2.frozen? ⟨b, 1, none⟩ = false := Lib.frozen_of_heap H2.out 1
    have H3 := Lib.hid (Kept.grown (S := fun k => b ≤ k) ((HK1.out.mono (fun k _ h => by omega)).trans ka (fun _ _ h => h.elim)) hg2 (fun k hk _ => by have := (hlt1 k hk).1; omega))
    clear ho2 hg2 hb2 hlt1 ka hba
    obtain ⟨ao2, cap2, rfl⟩ := owns_slice H1.out
    go_wp2
    go_ret
    refine ⟨rfl, ⟨.pointer (some ⟨b, 0, none⟩), .slice ao2 (l.length + 1) cap2, ?_, .inr rfl, ?_, fun h => by simp at h⟩, Kept.setCell (S := fun k => b ≤ k) (p := ⟨b, 1, none⟩) H3.out (fun _ => Nat.le_refl _) _⟩
    · have := H2.out
      simp [World.setCell, Array.getElem?_modify, this]
    · have ho := owns_kept (w' := w2.setCell ⟨b, 1, none⟩ (.slice ao2 (l.length + 1) cap2)) H1.out (Kept.setCell (S := fun k => k = b) (p := ⟨b, 1, none⟩) (Kept.refl _ w2) (fun _ => rfl) _) (fun k hk e => by have := (owns_lt H1.out k hk).1; omega)
      rw [← HBV.out] at ho
      rw [List.length_append, List.map_append]
      exact ho

/-- The result's box and the builder behind it. -/
structure Qd12 (w : World) (acc : List UInt8) (wx : World) : Prop where
  rb : Rb12 w zeroT wx
  bd : Bd wx (w.heap.size + 1) acc

theorem Qd12.put {w : World} {acc acc' : List UInt8} {A B : World} (h : Qd12 w acc A) (hk : Kept (fun k => w.heap.size + 1 ≤ k) A B) (hb : Bd B (w.heap.size + 1) acc') : Qd12 w acc' B :=
  ⟨⟨h.rb.box.kept hk (by omega), h.rb.k.trans hk (fun i hi e => by omega)⟩, hb⟩

theorem qd12_new (w : World) : Qd12 w [] ((w.alloc (.cells #[.int .i64 0, .string ⟨#[]⟩, .int .i64 0, .int .i64 0] 35)).alloc (.cells #[.pointer none, .slice none 0 0] 61)) := by
  have h0 := rb12_new w
  have h1 := bd_new (w.alloc (.cells #[.int .i64 0, .string ⟨#[]⟩, .int .i64 0, .int .i64 0] 35))
  rw [World.size_alloc] at h1
  exact ⟨h0.keep ((Kept.refl _ _).alloc _), h1⟩

set_option maxHeartbeats 4000000 in
set_option maxRecDepth 100000 in
theorem squoted_any (l : List UInt8) (w : World) (hl : l.length ≤ 1000000) (h1 : 1 ≤ l.length) :
    Calls Tryd.prog 39 #[.string (bs l)] w (FsP w ((Go.Mk.strL (l.drop 1)).map (fun p => (5, p.1, 0, p.2 + 1)))) := by
  have hs : (bs l).size = l.length := bs_size l
  have Q0 := Lib.hid (qd12_new w)
  obtain ⟨wA, hwA⟩ : ∃ wA, (w.alloc (.cells #[.int .i64 0, .string ⟨#[]⟩, .int .i64 0, .int .i64 0] 35)).alloc (.cells #[.pointer none, .slice none 0 0] 61) = wA := ⟨_, rfl⟩
  rw [hwA] at Q0
  obtain ⟨R, hR⟩ : ∃ R, Go.Mk.strL (l.drop 1) = R := ⟨_, rfl⟩
  rw [hR]
  have HR := Lib.hid hR; clear hR
  go_enter Tryd.func39, Tryd.ntmps39
  go_wp2
  clear hwA
  go_loopg [5] (l.length - 1) (fun k v wr => ∃ (i m : Nat) (acc : List UInt8), i = 1 + m ∧ k = l.length - i ∧ v = .int .i64 (i : Int) ∧ i ≤ l.length ∧ acc.length ≤ i ∧ strAt acc m (l.drop i) = R ∧ Qd12 w acc wr)
  case atStart => exact ⟨1, 0, [], rfl, rfl, rfl, h1, by simp, by rw [strAt_zero]; exact HR.out, Q0.out⟩
  case round =>
    obtain ⟨i, m, acc, him, hk, rfl, hi, hal, hst, hq⟩ := hrel
    have HIM := Lib.hid him; have HK := Lib.hid hk; have HST := Lib.hid hst; have HQ := Lib.hid hq; have HAL := Lib.hid hal
    clear him hk hst hq hal
    have fin : ∀ (m' : Nat), m' = i + 1 → R = some (acc, m + 1) → R.map (fun p => ((5 : Int), p.1, (0 : Int), p.2 + 1)) = some (5, acc, 0, m') := fun m' hm hr => by
      rw [hr, hm, HIM.out]
      simp
      omega
    have FIN := Lib.hid fin; clear fin
    by_cases hlt : i < l.length
    · have hlt1 : (i : Int) < ((bs l).size : Int) := by omega
      have hgi : ∀ h : i < (bs l).size, (((bs l)[i]'h).toNat : Int) = ((l[i]'hlt).toNat : Int) := fun h => by rw [bs_get l i hlt]
      have HDC := Lib.hid (drop_cons l i hlt)
      by_cases hc : l[i]'hlt = 39
      · rw [hc] at hgi HDC
        have hgi2 : ∀ h : i < (bs l).size, (((bs l)[i]'h).toNat : Int) = 39 := hgi
        clear hgi hc
        obtain ⟨E, hE⟩ : ∃ E, E = i + 1 := ⟨_, rfl⟩
        rw [← hE] at HDC
        have HE := Lib.hid hE
        have hEi : (i : Int) + 1 = (E : Int) := by omega
        have hEl : E ≤ l.length := by omega
        clear hE
        by_cases he : E = l.length
        · have HF := Lib.hid (FIN.out l.length (by have := HE.out; omega) (by
            rw [← HST.out, HDC.out, List.drop_of_length_le (by omega)]
            exact strAt_end acc m (by simp)))
          have HB := Lib.hid (bstring_any (w.heap.size + 1) acc wr HQ.out.bd (by have := HAL.out; omega))
          subst he
          clear HDC
          go_wp2_with fail
          refine HB.out.mono ?_
          rintro e w2 ⟨rfl, k2⟩
          have B2 := Lib.hid (show Rb12 w zeroT w2 from ⟨HQ.out.rb.box.kept k2 (by omega), HQ.out.rb.k.trans k2 (fun j hj e => by omega)⟩)
          obtain ⟨c0, c1, c2, c3, f0, f1, f2, f3⟩ := B2.out.box
          clear k2
          go_wp2
          refine bodyPost_ret (results_box2 rfl rfl (load_tk (B2.out.box.set ⟨5, acc, 0, 0⟩))) rfl ?_
          exact ⟨B2.out.fin ⟨5, acc, 0, 0⟩, .inr ⟨5, acc, 0, l.length, HF.out, rfl⟩⟩
        · have hlt2 : E < l.length := by omega
          have hne : ¬ ((E : Int) = ((bs l).size : Int)) := by omega
          have hlt3 : (E : Int) < ((bs l).size : Int) := by omega
          have hgj : ∀ h : E < (bs l).size, (((bs l)[E]'h).toNat : Int) = ((l[E]'hlt2).toNat : Int) := fun h => by rw [bs_get l E hlt2]
          have HDD := Lib.hid (drop_cons l E hlt2)
          clear he
          by_cases hd : l[E]'hlt2 = 39
          · rw [hd] at hgj HDD
            have hgj2 : ∀ h : E < (bs l).size, (((bs l)[E]'h).toNat : Int) = 39 := hgj
            have HS := Lib.hid (show strAt (acc ++ [39]) (m + 2) (l.drop (E + 1)) = R by
              rw [← HST.out, HDC.out, HDD.out, strAt_two])
            have HB := Lib.hid (show Calls Tryd.prog 55 #[.pointer (some ⟨w.heap.size + 1, 0, none⟩), .int .u8 39] wr fun e w' => e = .returned .nilIface ∧ Bd w' (w.heap.size + 1) (acc ++ [39]) ∧ Kept (fun k => w.heap.size + 1 ≤ k) wr w' from bbyte_any (w.heap.size + 1) acc 39 wr HQ.out.bd (by have := HAL.out; omega))
            clear hgj hd HDC HDD
            go_wp2_with fail
            refine HB.out.mono ?_
            rintro e w2 ⟨rfl, hb2, k2⟩
            have Q2 := Lib.hid (HQ.out.put k2 hb2)
            clear hb2 k2
            go_wp2
            go_roundg (l.length - (E + 1))
            case measure => have := HK.out; have := HE.out; omega
            case rel => exact ⟨E + 1, m + 2, acc ++ [39], by have := HE.out; have := HIM.out; omega, rfl, by go_num, by omega, by have := HAL.out; have := HE.out; simp; omega, HS.out, Q2.out⟩
          · have hy : ¬ (((l[E]'hlt2).toNat : Int) = 39) := fun h => hd (UInt8.toNat_inj.1 (by have : (39 : UInt8).toNat = 39 := rfl; omega))
            have HF := Lib.hid (FIN.out E HE.out (by
              rw [← HST.out, HDC.out, HDD.out]
              exact strAt_end acc m (fun h => hd (Option.some.inj h))))
            have HB := Lib.hid (bstring_any (w.heap.size + 1) acc wr HQ.out.bd (by have := HAL.out; omega))
            clear hd HDC HDD
            generalize ((l[E]'hlt2).toNat : Int) = y at *
            have hy2 : (y != 39) = true := by simpa using hy
            go_wp2_with fail
            refine HB.out.mono ?_
            rintro e w2 ⟨rfl, k2⟩
            have B2 := Lib.hid (show Rb12 w zeroT w2 from ⟨HQ.out.rb.box.kept k2 (by omega), HQ.out.rb.k.trans k2 (fun j hj e => by omega)⟩)
            obtain ⟨c0, c1, c2, c3, f0, f1, f2, f3⟩ := B2.out.box
            clear k2
            go_wp2
            refine bodyPost_ret (results_box2 rfl rfl (load_tk (B2.out.box.set ⟨5, acc, 0, 0⟩))) rfl ?_
            exact ⟨B2.out.fin ⟨5, acc, 0, 0⟩, .inr ⟨5, acc, 0, E, HF.out, rfl⟩⟩
      · have hy : ¬ (((l[i]'hlt).toNat : Int) = 39) := fun h => hc (UInt8.toNat_inj.1 (by have : (39 : UInt8).toNat = 39 := rfl; omega))
        have HS := Lib.hid (show strAt (acc ++ [l[i]'hlt]) (m + 1) (l.drop (i + 1)) = R by
          rw [← HST.out, HDC.out, strAt_other acc m _ hc])
        have HB := Lib.hid (bbyte_any (w.heap.size + 1) acc (l[i]'hlt) wr HQ.out.bd (by have := HAL.out; omega))
        clear hc HDC
        generalize l[i]'hlt = c at *
        generalize (c.toNat : Int) = y at *
        have hy2 : (y == 39) = false := by simpa using hy
        clear hy
        go_wp2_with fail
        refine HB.out.mono ?_
        rintro e w2 ⟨rfl, hb2, k2⟩
        have Q2 := Lib.hid (HQ.out.put k2 hb2)
        clear hb2 k2
        go_wp2
        go_roundg (l.length - (i + 1))
        case measure => have := HK.out; omega
        case rel => exact ⟨i + 1, m + 1, acc ++ [c], by have := HIM.out; omega, rfl, by go_num, by omega, by have := HAL.out; simp; omega, HS.out, Q2.out⟩
    · obtain rfl : i = l.length := by omega
      have hlt1 : ¬ (l.length : Int) < ((bs l).size : Int) := by omega
      have HE := Lib.hid (show R = none by rw [← HST.out, List.drop_length, strAt_nil])
      have B2 := Lib.hid HQ.out.rb
      obtain ⟨c0, c1, c2, c3, f0, f1, f2, f3⟩ := B2.out.box
      go_wp2
      refine bodyPost_ret (results_box2 rfl rfl (load_tk (B2.out.box.set zeroT))) rfl ?_
      exact ⟨B2.out.fin zeroT, .inl ⟨by rw [HE.out]; rfl, zeroT, rfl⟩⟩

end Go.Proofs.YtofpnlmlenffnaaDoor
