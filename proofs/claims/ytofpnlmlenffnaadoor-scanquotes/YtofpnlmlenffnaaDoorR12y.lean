/-
  The reference of layer 12: Token, where a symbol begins.
-/
import Derived.Test.YtofpnlmlenffnaaDoorR12s
namespace Go.Proofs.YtofpnlmlenffnaaDoor
open Go.RowKit Go.Mk

/-- The best place so far. -/
def bestI (a t : Nat) : Int := if t = 0 then -1 else ((a + 1 + t : Nat) : Int)

set_option maxHeartbeats 4000000 in
set_option maxRecDepth 100000 in
theorem r12tok_sym (l : List UInt8) (a : Nat) (w : World) (ha : a < l.length) (hc : (l[a]'ha) = 35) (hl : l.length ≤ 1000000) :
    Calls Tryd.prog 15 #[.string (bs l), .int .i64 (a : Int)] w (TkP w a (tokL (l.drop a))) := by
  have hs : (bs l).size = l.length := bs_size l
  have j0 : (a : Int) < ((bs l).size : Int) := by omega
  have hgj : ∀ h : a < (bs l).size, (((bs l)[a]'h).toNat : Int) = 35 := fun h => by rw [bs_get l a ha, hc]; rfl
  have HL := Lib.hid (r12let_any 35)
  rw [show ltrI 35 = false from rfl] at HL
  have HD := Lib.hid (r12dig_any 35)
  rw [show digI 35 = false from rfl] at HD
  rw [tok_sym ha hc]
  obtain ⟨wA, hwA⟩ : ∃ wA, (w.alloc (.cells #[.int .i64 0, .string ⟨#[]⟩, .int .i64 0, .int .i64 0] 35)).alloc (.cells #[.int .i64 0, .string ⟨#[]⟩, .int .i64 0, .int .i64 (a : Int)] 35) = wA := ⟨_, rfl⟩
  have Q0 := Lib.hid (tq_new w a)
  rw [hwA] at Q0
  clear hc
  have hrl : (l.drop (a + 1)).length = l.length - (a + 1) := drop_len' l (a + 1)
  have HRL := Lib.hid hrl
  have HTK := Lib.hid (fun t => take_cut l (a + 1) t)
  have HWH := Lib.hid (fun (j k : Nat) (wx : World) (hk : a + 1 + j = k) (hj : 1 ≤ j) (hkl : k < l.length) => r12whole_any l (a + 1) j k wx hk hj hkl hl)
  obtain ⟨r, hr⟩ : ∃ r, l.drop (a + 1) = r := ⟨_, rfl⟩
  rw [hr] at HRL HTK HWH ⊢
  rw [show (a + 1 : Nat) = a + 1 from rfl]
  clear hrl hr
  obtain ⟨M, hM⟩ : ∃ M, min r.length 498 = M := ⟨_, rfl⟩
  rw [hM]
  have HM := Lib.hid hM
  clear hM
  obtain ⟨R, hR⟩ : ∃ R, (if selTo r M = 0 then none else some ((6 : Int), (l.take (a + 1 + selTo r M)).drop (a + 1), (0 : Int), selTo r M + 1)) = R := ⟨_, rfl⟩
  rw [hR]
  have HR := Lib.hid hR
  clear hR
  have hne : ¬ w.heap.size = w.heap.size + 1 := by omega
  go_enter Tryd.func15, Tryd.ntmps15
  go_wp2_with fail
  refine (HL.out _).mono ?_
  rintro e w1 ⟨rfl, rfl⟩
  go_wp2_with fail
  refine (HD.out _).mono ?_
  rintro e w1 ⟨rfl, rfl⟩
  go_wp2
  clear hgj j0 hwA
  go_loopg [12, 13] M (fun k u v wr => ∃ (B : Int) (j m : Nat), m = a + 2 + j ∧ k = M - j ∧ u = .int .i64 B ∧ v = .int .i64 (m : Int) ∧ j ≤ M ∧ B = bestI a (selTo r j) ∧ Tq w ⟨0, [], 0, (a : Int)⟩ wr)
  case atStart => exact ⟨-1, 0, a + 2, rfl, rfl, rfl, rfl, Nat.zero_le _, rfl, Q0.out⟩
  case round =>
    obtain ⟨B, j, m, hm, hk, rfl, rfl, hj, hB, hq⟩ := hrel
    have HMJ := Lib.hid hm; have HK := Lib.hid hk; have HB := Lib.hid hB; have HQ := Lib.hid hq; have HJ := Lib.hid hj
    clear hm hk hB hq hj
    obtain ⟨⟨r0, r1, r2, r3, g0, g1, g2, g3⟩, ⟨c0, c1, c2, c3, f0, f1, f2, f3⟩, _, _⟩ := HQ.out
    dsimp only at c0 c1 c2 c3
    by_cases hlt : j < M
    · have hml : m ≤ l.length := by have := HMJ.out; have := HM.out; have := HRL.out; omega
      have h1 : (m : Int) ≤ ((bs l).size : Int) := by omega
      have h2 : (m : Int) < (a : Int) + 500 := by have := HMJ.out; have := HM.out; omega
      have h3 : (a : Int) + 1 ≤ (m : Int) := by have := HMJ.out; omega
      have hx : (bs l).extract (a + 1) m = bs (r.take (j + 1)) := by
        rw [HTK.out, bs_extract]
        congr 3
        have := HMJ.out
        omega
      have HKD := Lib.hid (fun wx => rkind_any (r.take (j + 1)) wx (by rw [List.length_take]; have := HRL.out; omega))
      have HST := Lib.hid (show selTo r (j + 1) = if selAt r (j + 1) = true then j + 1 else selTo r j from rfl)
      have HSA := Lib.hid (show selAt r (j + 1) = (decide (0 < kindL (r.take (j + 1))) && (decide (j + 1 = r.length) || wholeL r (j + 1))) from rfl)
      generalize kindL (r.take (j + 1)) = K at *
      generalize bs (r.take (j + 1)) = S at *
      by_cases hK : 0 < K
      · have hK1 : (0 : Int) < (K : Int) := by omega
        rw [decide_eq_true hK, Bool.true_and] at HSA
        by_cases hend : m = l.length
        · have hje : j + 1 = r.length := by have := HMJ.out; have := HRL.out; omega
          rw [decide_eq_true hje, Bool.true_or] at HSA
          have HB2 := Lib.hid (show (m : Int) = bestI a (selTo r (j + 1)) by
            rw [HST.out, if_pos HSA.out]
            unfold bestI
            rw [if_neg (by omega)]
            have := HMJ.out
            omega)
          obtain rfl : m = l.length := hend
          clear hje hK
          go_wp2_with fail
          refine (HKD.out _).mono ?_
          rintro e w4 ⟨rfl, k4⟩
          have Q4 := Lib.hid (HQ.out.keep k4)
          clear k4
          go_wp2
          go_roundg (M - (j + 1))
          case measure => have := HK.out; omega
          case rel => exact ⟨(l.length : Int), j + 1, l.length + 1, by have := HMJ.out; omega, rfl, rfl, by go_num, by omega, HB2.out, Q4.out⟩
        · have hmlt : m < l.length := by omega
          have hje : ¬ j + 1 = r.length := by have := HMJ.out; have := HRL.out; omega
          rw [decide_eq_false hje, Bool.false_or] at HSA
          have he1 : ¬ (m : Int) = ((bs l).size : Int) := by omega
          have HW := Lib.hid (fun wx => HWH.out (j + 1) m wx (by have := HMJ.out; omega) (by omega) hmlt)
          cases hwh : wholeL r (j + 1) with
          | true =>
            rw [hwh] at HW HSA
            have HB2 := Lib.hid (show (m : Int) = bestI a (selTo r (j + 1)) by
              rw [HST.out, if_pos HSA.out]
              unfold bestI
              rw [if_neg (by omega)]
              have := HMJ.out
              omega)
            clear hend hje hK hwh
            go_wp2_with fail
            refine (HKD.out _).mono ?_
            rintro e w4 ⟨rfl, k4⟩
            have Q4 := Lib.hid (HQ.out.keep k4)
            clear k4
            go_wp2_with fail
            refine (HW.out _).mono ?_
            rintro e w5 ⟨rfl, rfl⟩
            go_wp2
            go_roundg (M - (j + 1))
            case measure => have := HK.out; omega
            case rel => exact ⟨(m : Int), j + 1, m + 1, by have := HMJ.out; omega, rfl, rfl, by go_num, by omega, HB2.out, Q4.out⟩
          | false =>
            rw [hwh] at HW HSA
            have HB2 := Lib.hid (show B = bestI a (selTo r (j + 1)) by rw [HST.out, if_neg (by rw [HSA.out]; simp)]; exact HB.out)
            clear hend hje hK hwh
            go_wp2_with fail
            refine (HKD.out _).mono ?_
            rintro e w4 ⟨rfl, k4⟩
            have Q4 := Lib.hid (HQ.out.keep k4)
            clear k4
            go_wp2_with fail
            refine (HW.out _).mono ?_
            rintro e w5 ⟨rfl, rfl⟩
            go_wp2
            go_roundg (M - (j + 1))
            case measure => have := HK.out; omega
            case rel => exact ⟨B, j + 1, m + 1, by have := HMJ.out; omega, rfl, rfl, by go_num, by omega, HB2.out, Q4.out⟩
      · have hK1 : ¬ (0 : Int) < (K : Int) := by omega
        rw [decide_eq_false hK, Bool.false_and] at HSA
        have HB2 := Lib.hid (show B = bestI a (selTo r (j + 1)) by rw [HST.out, if_neg (by rw [HSA.out]; simp)]; exact HB.out)
        clear hK
        go_wp2_with fail
        refine (HKD.out _).mono ?_
        rintro e w4 ⟨rfl, k4⟩
        have Q4 := Lib.hid (HQ.out.keep k4)
        clear k4
        go_wp2
        go_roundg (M - (j + 1))
        case measure => have := HK.out; omega
        case rel => exact ⟨B, j + 1, m + 1, by have := HMJ.out; omega, rfl, rfl, by go_num, by omega, HB2.out, Q4.out⟩
    · obtain rfl : j = M := by have := HJ.out; omega
      have hB := HB.out
      clear HB HK
      obtain ⟨t, ht⟩ : ∃ t, selTo r j = t := ⟨_, rfl⟩
      have htj : t ≤ j := by rw [← ht]; exact selTo_le r j
      rw [ht] at hB
      have hR := HR.out
      rw [ht] at hR
      clear HR
      have hM := HM.out
      have hjr : j ≤ r.length ∧ j ≤ 498 := by omega
      by_cases ht0 : t = 0
      · rw [if_pos ht0] at hR
        obtain rfl := hR
        obtain rfl : B = -1 := by rw [hB, ht0]; rfl
        clear hB ht0 ht hM
        have hcond : ¬ ((m : Int) ≤ ((bs l).size : Int) ∧ (m : Int) < (a : Int) + 500) := by have := HMJ.out; have := HM.out; have := HRL.out; omega
        by_cases hml : (m : Int) ≤ ((bs l).size : Int)
        · have hm5 : ¬ (m : Int) < (a : Int) + 500 := fun h => hcond ⟨hml, h⟩
          clear hcond
          go_wp2
          have hd := HQ.out.done
          refine bodyPost_ret (results_box2 rfl rfl (load_tk hd.1)) rfl ?_
          exact tkp_no hd.2
        · clear hcond
          go_wp2
          have hd := HQ.out.done
          refine bodyPost_ret (results_box2 rfl rfl (load_tk hd.1)) rfl ?_
          exact tkp_no hd.2
      · rw [if_neg ht0] at hR
        obtain ⟨E, hE⟩ : ∃ E, a + 1 + t = E := ⟨_, rfl⟩
        rw [hE] at hR
        obtain rfl := hR
        have hBE : B = (E : Int) := by rw [hB]; unfold bestI; rw [if_neg ht0, hE]
        subst hBE
        have hx : (bs l).extract (a + 1) E = bs ((l.take E).drop (a + 1)) := bs_extract l (a + 1) E
        have k1 : (a : Int) + 1 ≤ (E : Int) := by omega
        have k2 : (E : Int) ≤ ((bs l).size : Int) := by have := HRL.out; omega
        have k3 : ¬ (E : Int) < 0 := by omega
        have HE := Lib.hid hE
        clear hB ht0 ht hE
        have hcond : ¬ ((m : Int) ≤ ((bs l).size : Int) ∧ (m : Int) < (a : Int) + 500) := by have := HMJ.out; have := HM.out; have := HRL.out; omega
        clear hM
        by_cases hml : (m : Int) ≤ ((bs l).size : Int)
        · have hm5 : ¬ (m : Int) < (a : Int) + 500 := fun h => hcond ⟨hml, h⟩
          clear hcond
          go_wp2
          have hd := HQ.out.fin 6 ((l.take E).drop (a + 1))
          refine bodyPost_ret (results_box2 rfl rfl (load_tk hd.1)) rfl ?_
          exact tkp_some (E := E) hd.2 (by have := HE.out; omega)
        · clear hcond
          go_wp2
          have hd := HQ.out.fin 6 ((l.take E).drop (a + 1))
          refine bodyPost_ret (results_box2 rfl rfl (load_tk hd.1)) rfl ?_
          exact tkp_some (E := E) hd.2 (by have := HE.out; omega)

end Go.Proofs.YtofpnlmlenffnaaDoor
