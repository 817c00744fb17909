/-
  CONTRACTS of package scan: gap: what stands between tokens at a text's head.
-/
import Derived.Test.YtofpnlmlenffnaaDoorDh12
import Derived.Lib.Bytealg
namespace Go.Mk

theorem index_while (c : UInt8) : ∀ (r : List UInt8), Lib.indexByte r c = if (r.takeWhile (· != c)).length = r.length then -1 else ((r.takeWhile (· != c)).length : Int)
  | [] => rfl
  | b :: r => by
    have ih := index_while c r
    have hle := while_le (p := (· != c)) r
    unfold Lib.indexByte
    by_cases h : b = c
    · subst h
      rw [List.takeWhile_cons]
      simp
    · have h1 : (b == c) = false := by simpa using h
      have h2 : (b != c) = true := by simpa using h
      simp only [h1, Bool.false_eq_true, if_false, List.takeWhile_cons, h2, if_true, ih, List.length_cons]
      by_cases h3 : (r.takeWhile (· != c)).length = r.length
      · rw [if_pos h3, if_pos (by omega : (r.takeWhile (· != c)).length + 1 = r.length + 1)]
        rfl
      · have h4 : ((((r.takeWhile (· != c)).length : Nat) : Int) == -1) = false := by
          rw [beq_eq_false_iff_ne]
          omega
        rw [if_neg h3, if_neg (by omega : ¬ (r.takeWhile (· != c)).length + 1 = r.length + 1), h4]
        simp

end Go.Mk
namespace Go.Proofs.YtofpnlmlenffnaaDoor
open Go.RowKit Go.Mk

set_option maxHeartbeats 4000000 in
set_option maxRecDepth 100000 in
theorem sgap_any (l : List UInt8) (w : World) (hl : l.length ≤ 1000000) : Calls Tryd.prog 27 #[.string (bs l)] w fun e w' => (∃ n : Nat, e = .returned (.int .i64 (n : Int)) ∧ GapR l n) ∧ w = w' := by
  have hs : (bs l).size = l.length := bs_size l
  go_enter Tryd.func27, Tryd.ntmps27
  go_wp2
  go_loopg [3] l.length (fun k v wr => ∃ p : Nat, k = l.length - p ∧ v = .int .i64 (p : Int) ∧ p ≤ l.length ∧ (∀ n, GapR (l.drop p) n → GapR l (p + n)) ∧ w = wr)
  case atStart => exact ⟨0, rfl, rfl, Nat.zero_le _, fun n h => by rw [Nat.zero_add]; exact h, rfl⟩
  case round =>
    obtain ⟨p, hk, rfl, hp, hinv, hwr⟩ := hrel
    subst hwr
    have HK := Lib.hid hk; have HV := Lib.hid hinv; clear hk hinv
    by_cases hlt : p < l.length
    · have hlt1 : (p : Int) < ((bs l).size : Int) := by omega
      have hgp : ∀ h : p < (bs l).size, (((bs l)[p]'h).toNat : Int) = ((l[p]'hlt).toNat : Int) := fun h => by rw [bs_get l p hlt]
      have HDC := Lib.hid (drop_cons l p hlt)
      have hbl := blank_I (l[p]'hlt)
      have HST := Lib.hid (show blankB (l[p]'hlt) = false → (l[p]'hlt = 34 → ((l.drop (p + 1)).takeWhile (· != 34)).length = (l.drop (p + 1)).length) → GapR l p from fun h1 h2 => by
        refine HV.out 0 ?_
        rw [HDC.out]
        refine .stop ?_
        rintro c r e
        injection e with e1 e2
        subst e1 e2
        exact ⟨h1, h2⟩)
      have HBL := Lib.hid (show blankB (l[p]'hlt) = true → ∀ n, GapR (l.drop (p + 1)) n → GapR l (p + 1 + n) from fun h1 n h => by
        rw [show p + 1 + n = p + (n + 1) by omega]
        refine HV.out (n + 1) ?_
        rw [HDC.out]
        exact .blank h1 h)
      have HNT := Lib.hid (show l[p]'hlt = 34 → ((l.drop (p + 1)).takeWhile (· != 34)).length ≠ (l.drop (p + 1)).length → ∀ n, GapR (l.drop (p + ((l.drop (p + 1)).takeWhile (· != 34)).length + 2)) n → GapR l (p + ((l.drop (p + 1)).takeWhile (· != 34)).length + 2 + n) from fun h1 h2 n h => by
        rw [show p + ((l.drop (p + 1)).takeWhile (· != 34)).length + 2 + n = p + (n + (((l.drop (p + 1)).takeWhile (· != 34)).length + 2)) by omega]
        refine HV.out _ ?_
        rw [HDC.out, h1]
        refine .note h2 ?_
        rw [List.drop_drop, show p + 1 + (((l.drop (p + 1)).takeWhile (· != 34)).length + 1) = p + ((l.drop (p + 1)).takeWhile (· != 34)).length + 2 by omega]
        exact h)
      have H34 := Lib.hid (show ((l[p]'hlt).toNat : Int) = 34 ↔ l[p]'hlt = 34 from ⟨fun h => UInt8.toNat_inj.1 (by have : (34 : UInt8).toNat = 34 := rfl; omega), fun h => by rw [h]; rfl⟩)
      generalize l[p]'hlt = c at *
      generalize (c.toNat : Int) = x at *
      by_cases hb : blankB c = true
      · have HN := Lib.hid (HBL.out hb)
        rw [hbl] at hb
        simp only [Bool.or_eq_true, decide_eq_true_eq] at hb
        clear hbl HDC HST HNT H34 HBL
        rcases hb with ((hb | hb) | hb) | hb
        all_goals
          subst hb
          go_wp2
          go_roundg (l.length - (p + 1))
          case measure => have := HK.out; omega
          case rel => exact ⟨p + 1, rfl, by go_num, by omega, HN.out, rfl⟩
      · have hbf : blankB c = false := by simpa using hb
        rw [hbl] at hbf
        simp only [Bool.or_eq_false_iff, decide_eq_false_iff_not] at hbf
        have HS2 := Lib.hid (HST.out (by simpa using hb))
        have e1 : (x == 32) = false := by simpa using hbf.1.1.1
        have e2 : (x == 9) = false := by simpa using hbf.1.1.2
        have e3 : (x == 10) = false := by simpa using hbf.1.2
        have e4 : (x == 13) = false := by simpa using hbf.2
        clear hbl hbf hb HST HBL
        by_cases h34 : x = 34
        · have hc := H34.out.1 h34
          have HS3 := Lib.hid (fun h => HS2.out (fun _ => h))
          have HN3 := Lib.hid (HNT.out hc)
          have hrl : (l.drop (p + 1)).length = l.length - (p + 1) := List.length_drop
          have HX := Lib.hid (show ∀ wx, Calls Tryd.prog 34 #[.string (bs (l.drop (p + 1))), .int .u8 34] wx fun e w' => e = .returned (.int .i64 (if ((l.drop (p + 1)).takeWhile (· != 34)).length = (l.drop (p + 1)).length then -1 else (((l.drop (p + 1)).takeWhile (· != 34)).length : Int))) ∧ wx = w' from fun wx => by
            have h := ibyte_any (bs (l.drop (p + 1))) 34 wx
            rw [Lib.firstIdx_eq, bs_toList, show ((34 : Int).toNat.toUInt8) = (34 : UInt8) from rfl, index_while] at h
            exact h)
          have hx1 : (bs l).extract (p + 1) l.length = bs (l.drop (p + 1)) := by rw [bs_extract, List.take_length]
          have hle := while_le (p := (· != 34)) (l.drop (p + 1))
          rw [hrl] at HS3 HN3 HX hle
          subst h34
          clear HS2 HNT H34 HDC hrl hc e1 e2 e3 e4
          by_cases ho : ((l.drop (p + 1)).takeWhile (· != 34)).length = l.length - (p + 1)
          · rw [if_pos ho] at HX
            have HG := Lib.hid (HS3.out ho)
            clear HS3 HN3 ho hle
            generalize l.drop (p + 1) = r at *
            go_wp2_with fail
            refine (HX.out _).mono ?_
            rintro e w1 ⟨rfl, rfl⟩
            go_wp2
            go_ret
            exact ⟨⟨p, rfl, HG.out⟩, rfl⟩
          · rw [if_neg ho] at HX
            have HG := Lib.hid (HN3.out ho)
            generalize ((l.drop (p + 1)).takeWhile (· != 34)).length = n at *
            have hnl : p + n + 2 ≤ l.length := by omega
            obtain ⟨r, hr⟩ : ∃ r, l.drop (p + 1) = r := ⟨_, rfl⟩
            rw [hr] at HX hx1
            have hn0 : ¬ (n : Int) < 0 := by omega
            clear HS3 HN3 ho hle hr
            go_wp2_with fail
            refine (HX.out _).mono ?_
            rintro e w1 ⟨rfl, rfl⟩
            go_wp2
            go_roundg (l.length - (p + n + 2))
            case measure => have := HK.out; omega
            case rel => exact ⟨p + n + 2, rfl, by go_num, by omega, HG.out, rfl⟩
        · have HG := Lib.hid (HS2.out (fun h => (h34 (H34.out.2 h)).elim))
          have e5 : (x == 34) = false := by simpa using h34
          clear HS2 H34 HNT HDC h34
          go_wp2
          go_ret
          exact ⟨⟨p, rfl, HG.out⟩, rfl⟩
    · obtain rfl : p = l.length := by omega
      have hlt1 : ¬ (l.length : Int) < ((bs l).size : Int) := by omega
      have HG := Lib.hid (show GapR l l.length from by
        refine HV.out 0 ?_
        rw [List.drop_length]
        exact .stop (fun c r e => by cases e))
      go_wp2
      go_ret
      exact ⟨⟨l.length, rfl, HG.out⟩, rfl⟩

end Go.Proofs.YtofpnlmlenffnaaDoor
