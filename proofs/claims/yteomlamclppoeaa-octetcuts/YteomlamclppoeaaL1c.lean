/-
  OctetCuts: what is read of bytes that are cut short is the same up to where something isn't there.
-/
import Derived.Test.YteomlamclppoeaaRt
import Derived.Test.YteomlamclppoeaaL1a
import Derived.Deep.RegionWith
namespace Go.Proofs.Yteomlamclppoeaa
open Go.RowKit Go.Mk

theorem take_pre {α : Type} (a t : List α) (k : Nat) (h : k ≤ a.length) : (a ++ t).take k = a.take k ∧ (a ++ t).drop k = a.drop k ++ t := by
  exact ⟨List.take_append_of_le_length h, List.drop_append_of_le_length h⟩

theorem cut_num {s1 s2 : RS} {t : List UInt8} (h : s1.rest = s2.rest ++ t) (h1 : s1.err = 0) (h2 : s2.err = 0) (he : s2.num.1.err = 0) : s1.num.1.err = 0 ∧ s1.num.2 = s2.num.2 ∧ s1.num.1.rest = s2.num.1.rest ++ t := by
  rcases s2.num_cases with ⟨hn, _⟩ | ⟨_, hl, n, _, hq⟩
  · exact absurd he hn
  · obtain ⟨e1, e2⟩ := take_pre s2.rest t 4 hl
    unfold RS.num at hq ⊢
    have a1 : ¬ s2.rest.length < 4 := by omega
    have a2 : ¬ (s2.rest ++ t).length < 4 := by simp; omega
    by_cases hb : 2147483647 < natB (s2.rest.take 4)
    · simp [h2, a1, hb] at hq
    · simp only [h1, h2, h, e1, e2, a1, a2, hb, ne_eq, not_true_eq_false, if_false]
      exact ⟨trivial, trivial, trivial⟩

theorem cut_int {s1 s2 : RS} {t : List UInt8} (h : s1.rest = s2.rest ++ t) (h1 : s1.err = 0) (h2 : s2.err = 0) (he : s2.int.1.err = 0) : s1.int.1.err = 0 ∧ s1.int.2 = s2.int.2 ∧ s1.int.1.rest = s2.int.1.rest ++ t := by
  by_cases hl : s2.rest.length < 8
  · simp [RS.int, h2, hl] at he
  · obtain ⟨e1, e2⟩ := take_pre s2.rest t 8 (by omega)
    have a2 : ¬ (s2.rest ++ t).length < 8 := by simp; omega
    unfold RS.int
    simp only [h1, h2, h, e1, e2, hl, a2, ne_eq, not_true_eq_false, if_false]
    exact ⟨trivial, trivial, trivial⟩

theorem cut_text {s1 s2 : RS} {t : List UInt8} (h : s1.rest = s2.rest ++ t) (h1 : s1.err = 0) (h2 : s2.err = 0) (he : s2.text.1.err = 0) : s1.text.1.err = 0 ∧ s1.text.2 = s2.text.2 ∧ s1.text.1.rest = s2.text.1.rest ++ t := by
  by_cases hn : s2.num.1.err = 0
  · obtain ⟨a1, a2, a3⟩ := cut_num h h1 h2 hn
    by_cases hl : s2.num.1.rest.length < s2.num.2.toNat
    · simp [RS.text, hn, hl] at he
    · obtain ⟨e1, e2⟩ := take_pre s2.num.1.rest t s2.num.2.toNat (by omega)
      have b2 : ¬ (s2.num.1.rest ++ t).length < s2.num.2.toNat := by simp; omega
      unfold RS.text
      simp only [a1, a2, a3, hn, hl, e1, e2, b2, ne_eq, not_true_eq_false, if_false]
      exact ⟨trivial, trivial, trivial⟩
  · simp [RS.text, hn] at he

theorem num_len (s : RS) : s.num.1.rest.length ≤ s.rest.length := by
  unfold RS.num; split; exact Nat.le_refl _; split; exact Nat.le_refl _; split; exact Nat.le_refl _; simp
theorem int_len (s : RS) : s.int.1.rest.length ≤ s.rest.length := by
  unfold RS.int; split; exact Nat.le_refl _; split; exact Nat.le_refl _; simp
theorem text_len (s : RS) : s.text.1.rest.length ≤ s.rest.length := by
  have := num_len s
  unfold RS.text; split; simp; split; simp; simp; omega

set_option maxHeartbeats 800000 in
set_option maxRecDepth 100000 in
theorem cuts_small (ba : Option Addr) (bc : Nat) (l : List UInt8) (ka : Option Addr) (kc : Nat) (ks : List UInt8) (cut : Int) (w : World) (hL : Lies w w.heap.size ba (l.map bv)) (hK : Lies w w.heap.size ka (ks.map bv)) (hlc : l.length ≤ bc) (h1 : l.length ≤ 400) (h2 : ks.length ≤ 20) :
    Calls Try.prog 6 #[.slice ba l.length bc, .slice ka ks.length kc, .int .i64 cut] w fun e w' => e = .returned (.bool true) ∧ Below w.heap.size w w' := by
  have HL := Lib.hid hL; have HK := Lib.hid hK; clear hL hK
  go_enter Try.func6, Try.ntmps6
  go_wp2_with fail
  refine (awake_any w).mono ?_
  rintro e w1 ⟨rfl, b1⟩
  have HL1 := Lib.hid (HL.out.below b1); have HK1 := Lib.hid (HK.out.below b1); have B1 := Lib.hid b1; clear b1
  go_wp2_with fail
  rw [show ((l.length : Int) + 1) = ((l.length + 1 : Nat) : Int) by omega]
  refine (rest_any cut (l.length + 1) w1 (by omega) (by omega)).mono ?_
  rintro e w2 ⟨⟨k, hk, rfl⟩, rfl⟩
  have hk1 : (k : Int) ≤ (l.length : Int) := by omega
  have hk2 : (k : Int) ≤ (bc : Int) := by omega
  have hz := B1.out.size
  have htk : (l.take k).length = k := by simp; omega
  have hlk := HL1.out.take k
  rw [← List.map_take] at hlk
  have HLK := Lib.hid hlk; have HTK := Lib.hid htk; clear hlk htk
  go_upto_region 4 with fail
  go_cut [8, 9] (fun v8 v9 wx => ∃ br bs ao1 cap1 ao2 cap2, v8 = .pointer (some ⟨br, 0, none⟩) ∧ v9 = .pointer (some ⟨bs, 0, none⟩) ∧ w1.heap.size ≤ br ∧ br < bs ∧
    Rd wx (fun k => w1.heap.size ≤ k ∧ k < br) br ao1 cap1 ⟨l, 0⟩ ∧ Rd wx (fun k => br < k ∧ k < bs) bs ao2 cap2 ⟨l.take k, 0⟩ ∧ Below w1.heap.size w1 wx)
  case first =>
    go_region_with (first
      | (go_at_call_of 19 (Value.slice ba l.length bc); refine (open_any ba bc l w.heap.size _ (by exact HL1.out) (by omega)).mono ?_; rintro e w2 ⟨br, ao1, cap1, rfl, hbr, hbr2, hrd1, b2⟩; have HRD1 := Lib.hid hrd1; have B2 := Lib.hid (Mk.Below.of_drew b2); clear hrd1 b2)
      | (go_at_call 19; go_must (have hc2 := open_any ba bc (l.take k) w.heap.size w2 (HLK.out.below (B2.out.mono hz)) (by simp; omega); rw [HTK.out] at hc2; refine hc2.mono ?_; rintro e w3 ⟨bs, ao2, cap2, rfl, hbs, hbs2, hrd2, b3⟩; have HRD2 := Lib.hid hrd2; have B3 := Lib.hid b3; clear hrd2 b3)))
    go_wp2_with fail
    go_meet
    case rel =>
      have hbz := B2.out.size
      have hd2 : Rd w3 (fun k => br < k ∧ k < bs) bs ao2 cap2 ⟨l.take k, 0⟩ := by
        obtain ⟨q1, q2, q3, q4, q5, q6, q7, q8, q9⟩ := HRD2.out
        exact ⟨q1, q2, q3, q4, q5, q6, q7, fun hn a ha => by have := q8 hn a ha; omega, by simp⟩
      have hd1 := HRD1.out.kept (Kept.of_below B3.out) (by omega) (fun k hk h => by omega)
      exact ⟨br, bs, ao1, cap1, ao2, cap2, rfl, rfl, hbr, by omega, hd1, hd2, B2.out.trans (B3.out.mono hbz)⟩
  case rest =>
    obtain ⟨br, bs, ao1, cap1, ao2, cap2, rfl, rfl, hbr, hbs, hd1, hd2, b4⟩ := hcut
    have HD1 := Lib.hid hd1; have HD2 := Lib.hid hd2; have B4 := Lib.hid b4; clear hd1 hd2 b4
    go_wp2
    go_loopg [10] ks.length (fun m c wr => ∃ j s1 s2, m = ks.length - j ∧ j ≤ ks.length ∧ c = .int .i64 (j : Int) ∧ s1.err = 0 ∧ s2.err = 0 ∧ s1.rest = s2.rest ++ l.drop k ∧ s2.rest.length ≤ k ∧
      (∃ ao1 cap1, Rd wr (fun k => w1.heap.size ≤ k ∧ k < br) br ao1 cap1 s1) ∧ (∃ ao2 cap2, Rd wr (fun k => br < k ∧ k < bs) bs ao2 cap2 s2) ∧ Below w1.heap.size w1 wr)
    case atStart => exact ⟨0, ⟨l, 0⟩, ⟨l.take k, 0⟩, rfl, Nat.zero_le _, rfl, rfl, rfl, (List.take_append_drop k l).symm, by simp; omega, ⟨_, _, HD1.out⟩, ⟨_, _, HD2.out⟩, B4.out⟩
    case round =>
      obtain ⟨j, s1, s2, hm, hj, rfl, e1, e2, hpre, hs2, ⟨a1, c1, r1⟩, ⟨a2, c2, r2⟩, hbl⟩ := hrel
      have HM := Lib.hid hm; have E1 := Lib.hid e1; have E2 := Lib.hid e2; have HPRE := Lib.hid hpre; have R1 := Lib.hid r1; have R2 := Lib.hid r2; have HBL := Lib.hid hbl
      clear hm e1 e2 hpre r1 r2 hbl
      by_cases hlt : j < ks.length
      · obtain ⟨xb, xo, rfl, hxb, hc⟩ := (HK1.out.below (HBL.out.mono hz)) (by intro h; rw [List.map_eq_nil_iff] at h; rw [h] at hlt; simp at hlt)
        have hx : wr.cell? ⟨xb, xo + j, none⟩ = some (.int .u8 (ks[j].toNat : Int)) := hc j _ (by simp [hlt, bv])
        clear hc
        generalize ks[j] = x at *
        go_upto_block 2 with fail
        go_cut [11] (fun v wx => ∃ s1' s2' q, v = .bool q ∧ s2'.rest.length ≤ k ∧ s1'.rest.length ≤ 400 ∧ (s2'.err = 0 → s1'.err = 0 ∧ q = true ∧ s1'.rest = s2'.rest ++ l.drop k) ∧
          (∃ ao1 cap1, Rd wx (fun k => w1.heap.size ≤ k ∧ k < br) br ao1 cap1 s1') ∧ (∃ ao2 cap2, Rd wx (fun k => br < k ∧ k < bs) bs ao2 cap2 s2') ∧ Below w1.heap.size w1 wx)
        case first =>
          have hs1 : s1.rest.length ≤ 400 := by rw [HPRE.out]; simp; omega
          have HS1 := Lib.hid hs1; clear hs1
          have hzr := HBL.out.size
          have h3 : x.toNat % 3 = 0 ∨ x.toNat % 3 = 1 ∨ x.toNat % 3 = 2 := by omega
          rcases h3 with h3 | h3 | h3
          · have g0 : ((x.toNat : Int) % 3 == 0) = true := by simp; omega
            go_wp2_with fail
            refine (rnum_any' _ br a1 c1 s1 wr R1.out).mono ?_
            rintro e w3 ⟨rfl, ⟨a1', c1', r1'⟩, k3⟩
            have r2' := R2.out.kept k3 (by omega) (fun k _ h => by omega)
            have b3 := HBL.out.trans (k3.below (by omega) (fun k h => by omega))
            have R1' := Lib.hid r1'; have R2' := Lib.hid r2'; have B3 := Lib.hid b3; clear r1' r2' b3 k3
            go_wp2_with fail
            refine (rnum_any' _ bs a2 c2 s2 w3 R2'.out).mono ?_
            rintro e w4 ⟨rfl, ⟨a2', c2', r2'⟩, k4⟩
            have r1'' := R1'.out.kept k4 (by omega) (fun k _ h => by omega)
            have hz4 := B3.out.size
            have b4 := B3.out.trans (k4.below (by omega) (fun k h => by omega))
            have R1'' := Lib.hid r1''; have R2'' := Lib.hid r2'; have B4' := Lib.hid b4; clear r1'' r2' b4 k4
            go_wp2_with fail
            go_meet
            case rel => exact ⟨s1.num.1, s2.num.1, _, rfl, Nat.le_trans (num_len s2) hs2, Nat.le_trans (num_len s1) HS1.out, fun he => ⟨(cut_num HPRE.out E1.out E2.out he).1, by rw [(cut_num HPRE.out E1.out E2.out he).2.1]; simp, (cut_num HPRE.out E1.out E2.out he).2.2⟩, ⟨_, _, R1''.out⟩, ⟨_, _, R2''.out⟩, B4'.out⟩
          · have g0 : ((x.toNat : Int) % 3 == 0) = false := by simp; omega
            have g1 : ((x.toNat : Int) % 3 == 1) = true := by simp; omega
            go_wp2_with fail
            refine (rint_any' _ br a1 c1 s1 wr R1.out).mono ?_
            rintro e w3 ⟨rfl, ⟨a1', c1', r1'⟩, k3⟩
            have r2' := R2.out.kept k3 (by omega) (fun k _ h => by omega)
            have b3 := HBL.out.trans (k3.below (by omega) (fun k h => by omega))
            have R1' := Lib.hid r1'; have R2' := Lib.hid r2'; have B3 := Lib.hid b3; clear r1' r2' b3 k3
            go_wp2_with fail
            refine (rint_any' _ bs a2 c2 s2 w3 R2'.out).mono ?_
            rintro e w4 ⟨rfl, ⟨a2', c2', r2'⟩, k4⟩
            have r1'' := R1'.out.kept k4 (by omega) (fun k _ h => by omega)
            have hz4 := B3.out.size
            have b4 := B3.out.trans (k4.below (by omega) (fun k h => by omega))
            have R1'' := Lib.hid r1''; have R2'' := Lib.hid r2'; have B4' := Lib.hid b4; clear r1'' r2' b4 k4
            go_wp2_with fail
            go_meet
            case rel => exact ⟨s1.int.1, s2.int.1, _, rfl, Nat.le_trans (int_len s2) hs2, Nat.le_trans (int_len s1) HS1.out, fun he => ⟨(cut_int HPRE.out E1.out E2.out he).1, by rw [(cut_int HPRE.out E1.out E2.out he).2.1]; simp, (cut_int HPRE.out E1.out E2.out he).2.2⟩, ⟨_, _, R1''.out⟩, ⟨_, _, R2''.out⟩, B4'.out⟩
          · have g0 : ((x.toNat : Int) % 3 == 0) = false := by simp; omega
            have g1 : ((x.toNat : Int) % 3 == 1) = false := by simp; omega
            go_wp2_with fail
            refine (rtext_any' _ br a1 c1 s1 wr R1.out).mono ?_
            rintro e w3 ⟨rfl, ⟨a1', c1', r1'⟩, k3⟩
            have r2' := R2.out.kept k3 (by omega) (fun k _ h => by omega)
            have b3 := HBL.out.trans (k3.below (by omega) (fun k h => by omega))
            have R1' := Lib.hid r1'; have R2' := Lib.hid r2'; have B3 := Lib.hid b3; clear r1' r2' b3 k3
            go_wp2_with fail
            refine (rtext_any' _ bs a2 c2 s2 w3 R2'.out).mono ?_
            rintro e w4 ⟨rfl, ⟨a2', c2', r2'⟩, k4⟩
            have r1'' := R1'.out.kept k4 (by omega) (fun k _ h => by omega)
            have hz4 := B3.out.size
            have b4 := B3.out.trans (k4.below (by omega) (fun k h => by omega))
            have R1'' := Lib.hid r1''; have R2'' := Lib.hid r2'; have B4' := Lib.hid b4; clear r1'' r2' b4 k4
            go_wp2_with fail
            go_meet
            case rel => exact ⟨s1.text.1, s2.text.1, _, rfl, Nat.le_trans (text_len s2) hs2, Nat.le_trans (text_len s1) HS1.out, fun he => ⟨(cut_text HPRE.out E1.out E2.out he).1, by rw [(cut_text HPRE.out E1.out E2.out he).2.1]; simp, (cut_text HPRE.out E1.out E2.out he).2.2⟩, ⟨_, _, R1''.out⟩, ⟨_, _, R2''.out⟩, B4'.out⟩
        case rest =>
          obtain ⟨s1', s2', q, rfl, hs2', hs1', himp, ⟨a1', c1', r1'⟩, ⟨a2', c2', r2'⟩, hbl'⟩ := hcut
          have HIMP := Lib.hid himp; have R1' := Lib.hid r1'; have R2' := Lib.hid r2'; have HBL' := Lib.hid hbl'; clear himp r1' r2' hbl'
          go_wp2_with fail
          refine R2'.out.errs.mono ?_
          rintro e w5 ⟨rfl, rfl⟩
          by_cases he : s2'.err = 0
          · have he1 : (s2'.err != 0) = false := by simp [he]
            obtain ⟨f1, rfl, f3⟩ := HIMP.out he
            have f1' : (s1'.err != 0) = false := by simp [f1]
            have hln : ((s1'.rest.length : Int) - s2'.rest.length != (l.length : Int) - k) = false := by
              rw [f3]; simp; omega
            have HE := Lib.hid he; have F1 := Lib.hid f1; have F3 := Lib.hid f3; clear he f1 f3
            go_wp2_with fail
            refine R1'.out.errs.mono ?_
            rintro e w5 ⟨rfl, rfl⟩
            go_wp2_with fail
            refine R1'.out.left.mono ?_
            rintro e w5 ⟨rfl, rfl⟩
            go_wp2_with fail
            refine R2'.out.left.mono ?_
            rintro e w5 ⟨rfl, rfl⟩
            go_wp2
            go_roundg (ks.length - (j + 1))
            case measure => have := HM.out; omega
            case rel => exact ⟨j + 1, s1', s2', rfl, by omega, by go_num, F1.out, HE.out, F3.out, hs2', ⟨_, _, R1'.out⟩, ⟨_, _, R2'.out⟩, HBL'.out⟩
          · have he1 : (s2'.err != 0) = true := by simp [he]
            have HE := Lib.hid he; clear he
            go_wp2_with fail
            refine R2'.out.left.mono ?_
            rintro e w5 ⟨rfl, rfl⟩
            go_wp2_with fail
            refine R1'.out.left.mono ?_
            rintro e w5 ⟨rfl, rfl⟩
            have hq : ((s2'.rest.length : Int) ≤ (s1'.rest.length : Int) + k) := by omega
            go_wp2
            go_ret
            exact ⟨rfl, B1.out.trans (HBL'.out.mono hz)⟩
      · go_wp2
        go_ret
        exact ⟨rfl, B1.out.trans (HBL.out.mono hz)⟩

set_option maxHeartbeats 400000 in
set_option maxRecDepth 100000 in
theorem cuts_big (ba : Option Addr) (bc : Nat) (l : List UInt8) (ka : Option Addr) (kc : Nat) (ks : List UInt8) (cut : Int) (w : World) (h : 400 < l.length ∨ 20 < ks.length) :
    Calls Try.prog 6 #[.slice ba l.length bc, .slice ka ks.length kc, .int .i64 cut] w fun e w' => e = .returned (.bool true) ∧ Below w.heap.size w w' := by
  by_cases h1 : 400 < l.length
  · clear h
    go_enter Try.func6, Try.ntmps6
    go_wp2_with fail
    refine (awake_any w).mono ?_
    rintro e w1 ⟨rfl, b1⟩
    have B1 := Lib.hid b1; clear b1
    go_wp2_with fail
    refine (awake_any w1).mono ?_
    rintro e w2 ⟨rfl, b2⟩
    have B2 := Lib.hid b2; clear b2
    go_wp2
    go_ret
    exact ⟨rfl, B1.out.trans (B2.out.mono B1.out.size)⟩
  · have h2 : 20 < ks.length := by omega
    clear h
    go_enter Try.func6, Try.ntmps6
    go_wp2_with fail
    refine (awake_any w).mono ?_
    rintro e w1 ⟨rfl, b1⟩
    have B1 := Lib.hid b1; clear b1
    go_wp2_with fail
    refine (awake_any w1).mono ?_
    rintro e w2 ⟨rfl, b2⟩
    have B2 := Lib.hid b2; clear b2
    go_wp2
    go_ret
    exact ⟨rfl, B1.out.trans (B2.out.mono B1.out.size)⟩

theorem cuts_any (ba : Option Addr) (bc : Nat) (l : List UInt8) (ka : Option Addr) (kc : Nat) (ks : List UInt8) (cut : Int) (w : World) (hL : Lies w w.heap.size ba (l.map bv)) (hK : Lies w w.heap.size ka (ks.map bv)) (hlc : l.length ≤ bc) :
    Calls Try.prog 6 #[.slice ba l.length bc, .slice ka ks.length kc, .int .i64 cut] w fun e w' => e = .returned (.bool true) ∧ Below w.heap.size w w' := by
  by_cases h : 400 < l.length ∨ 20 < ks.length
  · exact cuts_big ba bc l ka kc ks cut w h
  · exact cuts_small ba bc l ka kc ks cut w hL hK hlc (by omega) (by omega)

end Go.Proofs.Yteomlamclppoeaa
