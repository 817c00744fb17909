/-
  The reference of layer 12: Token, where a number begins.
-/
import Derived.Test.YtofpnlmlenffnaaDoorR12b
namespace Go.Proofs.YtofpnlmlenffnaaDoor
open Go.RowKit Go.Mk

/-- Its kind is set, and it is the result. -/
theorem Tq.fin0 {w : World} {t : TK} {W : World} (h : Tq w t W) (k : Int) :
    Bt (setT (W.setCell ⟨w.heap.size + 1, 0, none⟩ (.int .i64 k)) w.heap.size { t with k := k }) w.heap.size { t with k := k } ∧
    Kept (fun _ => False) w (setT (W.setCell ⟨w.heap.size + 1, 0, none⟩ (.int .i64 k)) w.heap.size { t with k := k }) := (h.put 0 _ (h.box.put0 k)).done

set_option maxHeartbeats 4000000 in
set_option maxRecDepth 100000 in
theorem r12tok_dig (l : List UInt8) (a : Nat) (w : World) (ha : a < l.length) (hc : lett (l[a]'ha) = false) (hd : digB (l[a]'ha) = true) (hl : l.length ≤ 1000000) :
    Calls Tryd.prog 15 #[.string (bs l), .int .i64 (a : Int)] w (TkP w a (tokL (l.drop a))) := by
  have hs : (bs l).size = l.length := bs_size l
  have i0 : (a : Int) < ((bs l).size : Int) := by omega
  have hgj : ∀ h : a < (bs l).size, (((bs l)[a]'h).toNat : Int) = ((l[a]'ha).toNat : Int) := fun h => by rw [bs_get l a ha]
  have HL := Lib.hid (r12let_any ((l[a]'ha).toNat : Int))
  rw [show ltrI ((l[a]'ha).toNat : Int) = false from hc] at HL
  have HD := Lib.hid (r12dig_any ((l[a]'ha).toNat : Int))
  rw [show digI ((l[a]'ha).toNat : Int) = true from hd] at HD
  rw [tok_dig ha hc hd]
  obtain ⟨wA, hwA⟩ : ∃ wA, (w.alloc (.cells #[.int .i64 0, .string ⟨#[]⟩, .int .i64 0, .int .i64 0] 35)).alloc (.cells #[.int .i64 0, .string ⟨#[]⟩, .int .i64 0, .int .i64 (a : Int)] 35) = wA := ⟨_, rfl⟩
  have Q0 := Lib.hid (tq_new w a)
  rw [hwA] at Q0
  clear hc hd
  generalize ((l[a]'ha).toNat : Int) = x at *
  obtain ⟨r, hr⟩ : ∃ r, (if 9 < digLen (l.drop a) then none else some ((4 : Int), ([] : List UInt8), numL ((l.drop a).take (digLen (l.drop a))), digLen (l.drop a))) = r := ⟨_, rfl⟩
  rw [hr]
  have HR := Lib.hid hr
  clear hr
  have hne : ¬ w.heap.size = w.heap.size + 1 := by omega
  go_enter Tryd.func15, Tryd.ntmps15
  go_wp2_with fail
  refine (HL.out _).mono ?_
  rintro e w1 ⟨rfl, rfl⟩
  go_wp2_with fail
  refine (HD.out _).mono ?_
  rintro e w1 ⟨rfl, rfl⟩
  go_wp2
  clear hgj i0 hwA
  go_loopg [9] (l.length - a) (fun k v wr => ∃ n m : Nat, m = a + n ∧ k = l.length - m ∧ v = .int .i64 (m : Int) ∧ m ≤ l.length ∧ n ≤ 9 ∧ n ≤ digLen (l.drop a) ∧ Tq w ⟨0, [], numL ((l.drop a).take n), (a : Int)⟩ wr)
  case atStart => exact ⟨0, a, rfl, rfl, rfl, Nat.le_of_lt ha, Nat.zero_le _, Nat.zero_le _, Q0.out⟩
  case round =>
    obtain ⟨n, m, hm, hk, rfl, hml, hn9, hn, hq⟩ := hrel
    have HM := Lib.hid hm; have HK := Lib.hid hk; have HN := Lib.hid hn; have HQ := Lib.hid hq; have HN9 := Lib.hid hn9
    clear hm hk hn hq hn9
    by_cases hlt : m < l.length
    · have hlt1 : (m : Int) < ((bs l).size : Int) := by omega
      have hgj : ∀ h : m < (bs l).size, (((bs l)[m]'h).toNat : Int) = ((l[m]'hlt).toNat : Int) := fun h => by rw [bs_get l m hlt]
      have hdl : n < (l.drop a).length := by rw [drop_len']; have := HM.out; omega
      have hda : (l.drop a)[n] = l[m]'hlt := by rw [List.getElem_drop]; congr 1; exact HM.out.symm
      have HST := Lib.hid (show digI ((l[m]'hlt).toNat : Int) = true → n + 1 ≤ digLen (l.drop a) from fun h => tw_step _ n HN.out hdl (by rw [hda]; exact h))
      have HSP := Lib.hid (show digI ((l[m]'hlt).toNat : Int) = false → digLen (l.drop a) = n from fun h => tw_stop (p := digB) (l.drop a) n HN.out (fun _ => by rw [hda]; exact h))
      have HTK := Lib.hid (show numL ((l.drop a).take (n + 1)) = numL ((l.drop a).take n) * 10 + ((l[m]'hlt).toNat : Int) - 48 by rw [numL_take _ n hdl, hda])
      have HB := Lib.hid (show ((l[m]'hlt).toNat : Int) ≤ 255 ∧ (0 : Int) ≤ ((l[m]'hlt).toNat : Int) from ⟨by have := UInt8.toNat_lt (l[m]'hlt); omega, by omega⟩)
      have HDM := Lib.hid (r12dig_any ((l[m]'hlt).toNat : Int))
      clear hdl hda
      generalize ((l[m]'hlt).toNat : Int) = y at *
      cases hdy : digI y with
      | true =>
        rw [hdy] at HDM
        have hn1 := HST.out hdy
        have hb1 := numL_bound (l.drop a) n HN.out (by have := HN9.out; omega)
        have hb2 := numL_bound (l.drop a) (n + 1) hn1 (by have := HN9.out; omega)
        rw [HTK.out] at hb2
        have HN1 := Lib.hid hn1
        have HTK2 := Lib.hid HTK.out
        have hmn : (m : Int) + 1 - (a : Int) = (n : Int) + 1 := by have := HM.out; omega
        generalize hN : numL ((l.drop a).take n) = N at *
        have hy := HB.out
        have w1 : IntKind.i64.wrap (N * 10) = N * 10 := by rw [IntKind.wrap_i64]; omega
        have w2 : IntKind.i64.wrap (N * 10 + y) = N * 10 + y := by rw [IntKind.wrap_i64]; omega
        have w3 : IntKind.i64.wrap (N * 10 + y - 48) = N * 10 + y - 48 := by rw [IntKind.wrap_i64]; omega
        have w4 : IntKind.i64.wrap y = y := by rw [IntKind.wrap_i64]; omega
        obtain ⟨_, ⟨c0, c1, c2, c3, f0, f1, f2, f3⟩, _, _⟩ := HQ.out
        dsimp only at c0 c1 c2 c3
        have HNN := Lib.hid hN
        clear hN hdy hn1
        go_wp2_with fail
        refine (HDM.out _).mono ?_
        rintro e w5 ⟨rfl, rfl⟩
        go_wp2_with fail
        have QD := Lib.hid (HQ.out.keep (Kept.drew (Kept.refl (fun _ => False) wr)))
        have QN := Lib.hid (show Tq w ⟨0, [], numL ((l.drop a).take (n + 1)), (a : Int)⟩ (wr.setCell ⟨w.heap.size + 1, 2, none⟩ (.int .i64 (N * 10 + y - 48))).drew by
          rw [HTK2.out]
          exact (HQ.out.put 2 _ (HQ.out.box.put2 (N * 10 + y - 48))).keep (Kept.drew (Kept.refl (fun _ => False) _)))
        obtain ⟨_, ⟨d0, d1, d2, d3, e0, e1, e2, e3⟩, _, _⟩ := QD.out
        dsimp only at d0 d1 d2 d3
        go_region
        clear d0 d1 d2 d3 e0 e1 e2 e3 c0 c1 c2 c3 f0 f1 f2 f3
        generalize (wr.setCell ⟨w.heap.size + 1, 2, none⟩ (.int .i64 (N * 10 + y - 48))).drew = w9 at *
        by_cases hn9 : 9 < n + 1
        · have h91 : (9 : Int) < (n : Int) + 1 := by omega
          obtain rfl : r = none := by rw [← HR.out, if_pos (by have := HN1.out; omega)]
          obtain ⟨⟨r0, r1, r2, r3, g0, g1, g2, g3⟩, ⟨b0, b1, b2, b3, j0, j1, j2, j3⟩, _, _⟩ := QN.out
          dsimp only at b0 b1 b2 b3
          rw [HTK2.out] at b2
          clear hn9
          go_wp2
          have hd := QN.out.done
          rw [HTK2.out] at hd
          refine bodyPost_ret (results_box2 rfl rfl (load_tk hd.1)) rfl ?_
          exact tkp_no hd.2
        · have h91 : ¬ (9 : Int) < (n : Int) + 1 := by omega
          have HN91 := Lib.hid hn9
          clear hn9
          go_wp2
          go_roundg (l.length - (m + 1))
          case measure => have := HK.out; omega
          case rel => exact ⟨n + 1, m + 1, by have := HM.out; omega, rfl, by go_num, by omega, by have := HN91.out; omega, HN1.out, QN.out⟩
      | false =>
        rw [hdy] at HDM
        have hstop := HSP.out hdy
        have hrr : r = some (4, [], numL ((l.drop a).take n), n) := by rw [← HR.out, hstop, if_neg (by have := HN9.out; omega)]
        subst hrr
        obtain ⟨⟨r0, r1, r2, r3, g0, g1, g2, g3⟩, ⟨c0, c1, c2, c3, f0, f1, f2, f3⟩, _, _⟩ := HQ.out
        dsimp only at c0 c1 c2 c3
        clear hdy hstop
        generalize numL ((l.drop a).take n) = N at *
        go_wp2_with fail
        refine (HDM.out _).mono ?_
        rintro e w5 ⟨rfl, rfl⟩
        go_wp2
        have hd := HQ.out.fin0 4
        refine bodyPost_ret (results_box2 rfl rfl (load_tk hd.1)) rfl ?_
        exact tkp_some (E := m) hd.2 HM.out.symm
    · have hge : ¬ (m : Int) < ((bs l).size : Int) := by omega
      have hstop : digLen (l.drop a) = n := tw_stop (p := digB) (l.drop a) n HN.out (fun h => by rw [drop_len'] at h; have := HM.out; omega)
      have hrr : r = some (4, [], numL ((l.drop a).take n), n) := by rw [← HR.out, hstop, if_neg (by have := HN9.out; omega)]
      subst hrr
      obtain ⟨⟨r0, r1, r2, r3, g0, g1, g2, g3⟩, ⟨c0, c1, c2, c3, f0, f1, f2, f3⟩, _, _⟩ := HQ.out
      dsimp only at c0 c1 c2 c3
      clear hstop
      generalize numL ((l.drop a).take n) = N at *
      go_wp2
      have hd := HQ.out.fin0 4
      refine bodyPost_ret (results_box2 rfl rfl (load_tk hd.1)) rfl ?_
      exact tkp_some (E := m) hd.2 HM.out.symm

end Go.Proofs.YtofpnlmlenffnaaDoor
