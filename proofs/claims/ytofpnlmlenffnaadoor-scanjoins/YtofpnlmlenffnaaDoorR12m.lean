/-
  The reference of layer 12: All, the walk.
-/
import Derived.Test.YtofpnlmlenffnaaDoorGR12k
namespace Go.Proofs.YtofpnlmlenffnaaDoor
open Go.RowKit Go.Mk

theorem blank_I (c : UInt8) : blankB c = (decide ((c.toNat : Int) = 32) || decide ((c.toNat : Int) = 9) || decide ((c.toNat : Int) = 10) || decide ((c.toNat : Int) = 13)) := by
  have h : ∀ d : UInt8, (c == d) = decide ((c.toNat : Int) = (d.toNat : Int)) := fun d => by
    rw [Bool.eq_iff_iff, beq_iff_eq, decide_eq_true_eq]
    constructor
    · intro h; rw [h]
    · intro h; exact UInt8.toNat_inj.1 (by omega)
  unfold blankB
  rw [h 32, h 9, h 10, h 13]
  rfl

set_option maxHeartbeats 6000000 in
set_option maxRecDepth 100000 in
theorem r12all_any (l : List UInt8) (w : World) (hl : l.length ≤ 1000000) :
    Calls Tryd.prog 10 #[.string (bs l)] w (TkQ w (allL l)) := by
  obtain ⟨i0, hi, hz0, hz1, hz2⟩ := info_parts Tryd.infoTok
  have hs : (bs l).size = l.length := bs_size l
  unfold allL
  by_cases h4 : 4000 < l.length
  · rw [if_pos h4]
    have h5 : (4000 : Int) < ((bs l).size : Int) := by omega
    go_enter Tryd.func10, Tryd.ntmps10
    go_wp2
    go_ret3
    exact tkq_err (Kept.refl _ _) 21 0
  · rw [if_neg h4]
    have h5 : ¬ (4000 : Int) < ((bs l).size : Int) := by omega
    obtain ⟨R, hR⟩ : ∃ R, goAll (l.length + 1) 0 l = R := ⟨_, rfl⟩
    rw [hR]
    have HR := Lib.hid hR
    clear hR
    go_enter Tryd.func10, Tryd.ntmps10
    go_wp2
    go_loopg [5, 6] l.length (fun k u v wr => ∃ (out : List TK) (p : Nat), k = l.length - p ∧ v = .int .i64 (p : Int) ∧ p ≤ l.length ∧ out.length ≤ p ∧ allAt out p (l.drop p) = R ∧ Oq w u out wr)
    case atStart => exact ⟨[], 0, rfl, rfl, Nat.zero_le _, Nat.le_refl _, by rw [List.drop_zero, ← HR.out]; exact allAt_zero l, World.ownsRow_nil _ _ _ _, Kept.refl _ _⟩
    case round =>
      obtain ⟨out, p, hk, rfl, hp, hol, hst, hq⟩ := hrel
      have HK := Lib.hid hk; have HOL := Lib.hid hol; have HST := Lib.hid hst; have HQ := Lib.hid hq
      clear hk hol hst hq
      by_cases hlt : p < l.length
      · have hlt1 : (p : Int) < ((bs l).size : Int) := by omega
        have hgp : ∀ h : p < (bs l).size, (((bs l)[p]'h).toNat : Int) = ((l[p]'hlt).toNat : Int) := fun h => by rw [bs_get l p hlt]
        have hdc := drop_cons l p hlt
        have hbl := blank_I (l[p]'hlt)
        have HDC := Lib.hid hdc; have HBL := Lib.hid hbl
        have HTK := Lib.hid (fun wx => r12tok_any l p wx hlt hl)
        have H34 := Lib.hid (show ((l[p]'hlt).toNat : Int) = 34 ↔ l[p]'hlt = 34 from ⟨fun h => UInt8.toNat_inj.1 (by have : (34 : UInt8).toNat = 34 := rfl; omega), fun h => by rw [h]; rfl⟩)
        clear hdc hbl
        generalize ((l[p]'hlt).toNat : Int) = x at *
        go_upto_region 7 with fail
        go_cut [34] (fun u wx => u = .bool (blankB (l[p]'hlt)) ∧ wr = wx)
        case first =>
          by_cases q1 : x = 32
          · subst q1
            go_wp2
            go_meet
            exact ⟨by rw [HBL.out]; simp, rfl⟩
          · by_cases q2 : x = 9
            · subst q2
              go_wp2
              go_meet
              exact ⟨by rw [HBL.out]; simp, rfl⟩
            · by_cases q3 : x = 10
              · subst q3
                go_wp2
                go_meet
                exact ⟨by rw [HBL.out]; simp, rfl⟩
              · by_cases q4 : x = 13
                · subst q4
                  go_wp2
                  go_meet
                  exact ⟨by rw [HBL.out]; simp, rfl⟩
                · have e1 : (x == 32) = false := by simpa using q1
                  have e2 : (x == 9) = false := by simpa using q2
                  have e3 : (x == 10) = false := by simpa using q3
                  have e4 : (x == 13) = false := by simpa using q4
                  go_wp2
                  go_meet
                  exact ⟨by rw [HBL.out]; simp [q1, q2, q3, q4], rfl⟩
        case rest =>
          obtain ⟨rfl, hwc⟩ := hcut
          subst hwc
          clear HBL
          cases hb : blankB (l[p]'hlt) with
          | true =>
            have HS := Lib.hid (show allAt out (p + 1) (l.drop (p + 1)) = R by rw [← allAt_blank out p _ hb, ← HDC.out]; exact HST.out)
            clear hb
            go_wp2
            go_roundg (l.length - (p + 1))
            case measure => have := HK.out; omega
            case rel => exact ⟨out, p + 1, rfl, by go_num, by omega, by have := HOL.out; omega, HS.out, HQ.out⟩
          | false =>
            by_cases h34 : x = 34
            · have hc34 := H34.out.1 h34
              subst h34
              have HOP := Lib.hid (allAt_open out p (l.drop (p + 1)))
              have HRM := Lib.hid (allAt_remark out p (l.drop (p + 1)))
              rw [show (34 : UInt8) :: l.drop (p + 1) = l.drop p by rw [HDC.out, hc34]] at HOP HRM
              have hrl : (l.drop (p + 1)).length = l.length - (p + 1) := drop_len' l (p + 1)
              obtain ⟨r, hr⟩ : ∃ r, l.drop (p + 1) = r := ⟨_, rfl⟩
              have HRR := Lib.hid hr
              rw [hr] at HOP HRM hrl
              have HRL := Lib.hid hrl
              have hpl : p ≤ 4000 := by omega
              clear hb hc34 hr hrl
              go_wp2
              go_loopg [8] r.length (fun k v wx => ∃ n i : Nat, i = p + 1 + n ∧ k = r.length - n ∧ v = .int .i64 (i : Int) ∧ i ≤ l.length ∧ n ≤ (r.takeWhile (· != 34)).length ∧ wr = wx)
              case atStart => exact ⟨0, p + 1, rfl, rfl, rfl, by omega, Nat.zero_le _, rfl⟩
              case round =>
                obtain ⟨n, i, hi', hk', rfl, hil, hn, hwx⟩ := hrel
                have HI := Lib.hid hi'; have HKN := Lib.hid hk'; have HN := Lib.hid hn
                clear hi' hk' hn
                subst hwx
                by_cases hilt : i < l.length
                · have hlt2 : (i : Int) < ((bs l).size : Int) := by omega
                  have hgi : ∀ h : i < (bs l).size, (((bs l)[i]'h).toNat : Int) = ((l[i]'hilt).toNat : Int) := fun h => by rw [bs_get l i hilt]
                  have hnr : n < r.length := by have := HI.out; have := HRL.out; omega
                  have hrn : r[n] = l[i]'hilt := by
                    have h := HRR.out
                    subst h
                    rw [List.getElem_drop]
                    congr 1
                    exact HI.out.symm
                  by_cases hz : ((l[i]'hilt).toNat : Int) = 34
                  · have hzc : l[i]'hilt = 34 := UInt8.toNat_inj.1 (by have : (34 : UInt8).toNat = 34 := rfl; omega)
                    rw [hz] at hgi
                    have htw : (r.takeWhile (· != 34)).length = n := tw_stop (p := (· != 34)) r n HN.out (fun _ => by rw [hrn, hzc]; rfl)
                    have HS := Lib.hid (show allAt out (i + 1) (l.drop (i + 1)) = R by
                      have h := HRM.out (by rw [htw]; omega)
                      rw [htw, ← HRR.out, List.drop_drop, show p + 1 + (n + 1) = i + 1 by have := HI.out; omega, show p + n + 2 = i + 1 by have := HI.out; omega] at h
                      rw [← h]
                      exact HST.out)
                    have he1 : ¬ (i : Int) = ((bs l).size : Int) := by omega
                    have hpi : p < i := by have := HI.out; omega
                    clear hz hzc hrn htw
                    go_wp2
                    go_roundg (l.length - (i + 1))
                    case measure => have := HK.out; omega
                    case rel => exact ⟨out, i + 1, rfl, by go_num, by omega, by have := HOL.out; omega, HS.out, HQ.out⟩
                  · have HN1 := Lib.hid (show n + 1 ≤ (r.takeWhile (· != 34)).length from tw_step (p := (· != 34)) r n HN.out hnr (by rw [hrn]; simp; intro h; exact hz (by rw [h]; rfl)))
                    generalize ((l[i]'hilt).toNat : Int) = z at *
                    have hz2 : (z != 34) = true := by simpa using hz
                    clear hrn
                    go_wp2
                    go_roundg (r.length - (n + 1))
                    case measure => have := HKN.out; omega
                    case rel => exact ⟨n + 1, i + 1, by have := HI.out; omega, rfl, by go_num, by omega, HN1.out, rfl⟩
                · have hlt2 : ¬ (i : Int) < ((bs l).size : Int) := by omega
                  have hnr : n = r.length := by have := HI.out; have := HRL.out; omega
                  have htw : (r.takeWhile (· != 34)).length = r.length := by have := while_le (p := (· != 34)) r; have := HN.out; omega
                  obtain rfl : R = (40, (p : Int), []) := by rw [← HST.out]; exact HOP.out htw
                  obtain rfl : i = l.length := by omega
                  clear htw hnr
                  go_wp2
                  go_ret3
                  exact tkq_err HQ.out.k 40 (p : Int)
            · have hc34 : ¬ l[p]'hlt = 34 := fun h => h34 (H34.out.2 h)
              have e34 : (x == 34) = false := by simpa using h34
              have HCS := Lib.hid (show ∀ (k : Int) (x : List UInt8) (n : Int) (m : Nat), tokL (l.drop p) = some (k, x, n, m) → allAt out p (l.drop p) = allAt (out ++ [⟨k, x, n, (p : Int)⟩]) (p + m) ((l.drop p).drop m) from fun k x n m h => by
                rw [HDC.out] at h ⊢
                exact allAt_tok out p _ hb hc34 h)
              have HCN := Lib.hid (show tokL (l.drop p) = none → allAt out p (l.drop p) = (40, (p : Int), []) from fun h => by
                rw [HDC.out] at h ⊢
                exact allAt_no out p _ hb hc34 h)
              have HTL := Lib.hid (fun (k : Int) (x : List UInt8) (n : Int) (m : Nat) (h : tokL (l.drop p) = some (k, x, n, m)) => tok_len h)
              have hpl : p ≤ 4000 := by omega
              clear hb hc34
              cases ht : tokL (l.drop p) with
              | none =>
                rw [ht] at HTK
                obtain rfl : R = (40, (p : Int), []) := by rw [← HST.out]; exact HCN.out ht
                clear ht
                go_wp2_with fail
                refine (HTK.out _).mono ?_
                rintro e w4 ⟨t, rfl, k4⟩
                have K4 := Lib.hid ((HQ.out.k.trans k4 (fun _ _ h => h)).alloc (.cells #[.int .i64 t.k, .string (bs t.x), .int .i64 t.n, .int .i64 t.at_] 35))
                clear k4
                unfold valT
                go_wp2
                go_ret3
                exact tkq_err K4.out 40 (p : Int)
              | some tt =>
                obtain ⟨k, x', n, m⟩ := tt
                rw [ht] at HTK
                obtain ⟨m1, m2⟩ := HTL.out k x' n m ht
                rw [drop_len'] at m2
                have HS := Lib.hid (show allAt (out ++ [⟨k, x', n, (p : Int)⟩]) (p + m) (l.drop (p + m)) = R by
                  have h := HCS.out k x' n m ht
                  rw [List.drop_drop] at h
                  rw [← h]
                  exact HST.out)
                obtain ⟨E, hE⟩ : ∃ E, p + m = E := ⟨_, rfl⟩
                rw [hE] at HS
                have hEl : E ≤ l.length := by omega
                have hpE : p < E := by omega
                have hE0 : ¬ (E : Int) < 0 := by omega
                have HE := Lib.hid hE
                have hol := HOL.out
                clear ht hE m1 m2
                go_wp2_with fail
                refine (HTK.out _).mono ?_
                rintro e w4 ⟨rfl, k4⟩
                rw [HE.out]
                have Q4 := Lib.hid (HQ.out.keep k4)
                have K5 := Lib.hid ((Kept.refl (fun _ => False) w4).alloc (.cells #[.int .i64 k, .string (bs x'), .int .i64 n, .int .i64 (p : Int)] 35))
                have Q5 := Lib.hid (Q4.out.keep K5.out)
                have hb5 := bt_new w4 ⟨k, x', n, (p : Int)⟩ 35
                obtain ⟨w5, hw5⟩ : ∃ w5, w4.alloc (.cells #[.int .i64 k, .string (bs x'), .int .i64 n, .int .i64 (p : Int)] 35) = w5 := ⟨_, rfl⟩
                dsimp only at hb5
                rw [hw5] at Q5 hb5 K5
                obtain ⟨c0, c1, c2, c3, f0, f1, f2, f3⟩ := hb5
                dsimp only at c0 c1 c2 c3
                clear k4
                unfold valT
                go_wp2_with (at_builtin; refine wpList_app _ rfl (.tmp 69) (.tmp 71) 23 23 rfl 35 i0 (.agg #[.int .i64 0, .string ⟨#[]⟩, .int .i64 0, .int .i64 0]) 4 40 Tryd.underlying23 hi hz0 hz1 hz2 rfl _ _ _ rfl ((owns_base (base' := 0) Q5.out.own (fun _ _ => Nat.zero_le _)).alloc _) (.slice (some ⟨w5.heap.size, 0, none⟩) 1 1) 1 (cellsT1 ⟨k, x', n, (p : Int)⟩) rfl (src_tk w5 ⟨k, x', n, (p : Int)⟩ _) ?b1 ?b2 ?next)
                case b1 => unfold maxLen; omega
                case b2 => omega
                case next =>
                  intro v' w6 ho6 hg6 hb6 _
                  have Q6 := Lib.hid (Q5.out.app ⟨k, x', n, (p : Int)⟩ ((Kept.refl (fun _ => False) w5).alloc _) ho6 hg6 (by first | exact hb6 | (rw [World.size_alloc]; exact hb6)))
                  clear ho6 hg6 hb6
                  go_wp2
                  go_roundg (l.length - E)
                  case measure => have := HK.out; omega
                  case rel => exact ⟨_, E, rfl, rfl, hEl, by simp; omega, HS.out, Q6.out⟩
      · obtain rfl : p = l.length := by omega
        obtain rfl : R = (0, 0, out ++ [⟨0, [], 0, (l.length : Int)⟩]) := by
          rw [← HST.out, List.drop_length, allAt_nil]
        have hol := HOL.out
        have h40 : l.length ≤ 4000 := by omega
        go_wp2_with (at_builtin; refine wpList_app _ rfl (.tmp 74) (.tmp 78) 23 23 rfl 35 i0 (.agg #[.int .i64 0, .string ⟨#[]⟩, .int .i64 0, .int .i64 0]) 4 40 Tryd.underlying23 hi hz0 hz1 hz2 rfl _ _ _ rfl ((owns_base (base' := 0) HQ.out.own (fun _ _ => Nat.zero_le _)).alloc _) (.slice (some ⟨wr.heap.size, 0, none⟩) 1 1) 1 (cellsT1 ⟨0, [], 0, (l.length : Int)⟩) rfl (src_tk wr ⟨0, [], 0, (l.length : Int)⟩ _) ?b1 ?b2 ?next)
        case b1 => unfold maxLen; omega
        case b2 => omega
        case next =>
          intro v' w6 ho6 hg6 hb6 _
          have Q6 := Lib.hid (HQ.out.app ⟨0, [], 0, (l.length : Int)⟩ ((Kept.refl (fun _ => False) wr).alloc _) ho6 hg6 (by first | exact hb6 | (rw [World.size_alloc]; exact hb6)))
          obtain ⟨ao, cap, rfl⟩ := owns_slice Q6.out.own
          clear ho6 hg6 hb6
          go_wp2
          go_ret3
          exact ⟨ao, cap, by simp, owns_ts Q6.out.own, Q6.out.k, owns_cap' Q6.out.own⟩

end Go.Proofs.YtofpnlmlenffnaaDoor
