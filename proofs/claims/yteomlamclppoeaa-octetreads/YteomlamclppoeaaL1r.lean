/-
  OctetReads: what any bytes are read as, by any kinds of fields, is what the reference says.
-/
import Derived.Test.YteomlamclppoeaaMt
import Derived.Test.YteomlamclppoeaaSm
import Derived.Test.YteomlamclppoeaaL1a
namespace Go.Proofs.Yteomlamclppoeaa
open Go.RowKit Go.Mk

theorem quiet_same {P : Program} {f : FuncId} {args : Array Value} {w : World} {n : Nat} {v : Value}
    (h : Calls P f args (w.drewN n) fun e w' => e = .returned v ∧ w.drewN n = w') : Calls P f args (w.drewN n) fun e w'' => e = .returned v ∧ ∃ m, w'' = w.drewN m :=
  h.mono fun _ _ ⟨he, hm⟩ => ⟨he, n, hm.symm⟩

theorem steps_len (s : RS) : s.num.1.rest.length ≤ s.rest.length ∧ s.int.1.rest.length ≤ s.rest.length ∧ s.text.1.rest.length ≤ s.rest.length ∧ s.texts.1.rest.length ≤ s.rest.length := by
  have h1 : s.num.1.rest.length ≤ s.rest.length := by
    unfold RS.num; split; exact Nat.le_refl _; split; exact Nat.le_refl _; split; exact Nat.le_refl _; simp
  refine ⟨h1, ?_, ?_, ?_⟩
  · unfold RS.int; split; exact Nat.le_refl _; split; exact Nat.le_refl _; simp
  · unfold RS.text; split; simp; split; simp; simp; omega
  · unfold RS.texts
    split
    · exact Nat.le_refl _
    · refine Nat.le_trans (many_len _ _) ?_
      unfold RS.head
      split
      · exact h1
      · exact h1

theorem many_count (n : Nat) (s : RS) : (RS.many n s).2.length ≤ n := by
  induction n generalizing s with
  | zero => exact Nat.le_refl _
  | succ n ih =>
    unfold RS.many
    split
    · exact Nat.zero_le _
    · have := ih s.text.1
      simp only [List.length_cons]
      omega
theorem texts_le (s : RS) (_h : s.rest.length ≤ 1099511627776) : s.texts.2.length ≤ 1099511627776 := by
  have hn : s.num.2.toNat ≤ 2147483647 := by
    rcases s.num_cases with ⟨_, hq⟩ | ⟨_, _, m, hm, hq⟩
    · rw [hq]; simp
    · rw [hq]; simp; omega
  unfold RS.texts
  split
  · exact Nat.zero_le _
  · have := many_count s.num.2.toNat s.head
    omega

set_option maxHeartbeats 1600000 in
set_option maxRecDepth 100000 in
theorem reads_small (ba : Option Addr) (bc : Nat) (l : List UInt8) (ka : Option Addr) (kc : Nat) (ks : List UInt8) (w : World) (hL : Lies w w.heap.size ba (l.map bv)) (hK : Lies w w.heap.size ka (ks.map bv)) (h1 : l.length ≤ 600) (h2 : ks.length ≤ 40) :
    Calls Try.prog 4 #[.slice ba l.length bc, .slice ka ks.length kc] w fun e w' => e = .returned (.bool true) ∧ Below w.heap.size w w' := by
  have HL := Lib.hid hL; have HK := Lib.hid hK; clear hL hK
  go_enter Try.func4, Try.ntmps4
  go_wp2_with fail
  refine (awake_any w).mono ?_
  rintro e w1 ⟨rfl, b1⟩
  have HL1 := Lib.hid (HL.out.below b1); have HK1 := Lib.hid (HK.out.below b1); have B1 := Lib.hid b1; clear b1
  have hz := B1.out.size
  have hcv := run_string_of (P := Try.prog) w1 25 9 5 Try.underlying25 Try.underlying5 Try.underlying9 bc _ rfl HL1.out
  go_wp2_with fail
  refine (open_any ba bc l w.heap.size w1 HL1.out (by omega)).mono ?_
  rintro e w2 ⟨rb, a1, c1, rfl, hrb, hrb2, hrd, b2⟩
  have hb2s := b2.size
  have hrd2 := hrd.kept (S := fun _ => False) ((Kept.refl _ w2).alloc (.cells #[.string (bs l), .int .i64 0] 46)) (fun h => h) (fun _ _ _ h => h)
  have hmr : Mr (w2.alloc (.cells #[.string (bs l), .int .i64 0] 46)) w2.heap.size ⟨l, 0⟩ := ⟨by simp, by simp, by simp, by simp⟩
  have hb3 := b2.alloc hb2s (.cells #[.string (bs l), .int .i64 0] 46)
  have HRD := Lib.hid hrd2; have HMR := Lib.hid hmr; have HB3 := Lib.hid hb3; clear hrd hrd2 hmr hb3 b2 hcv
  go_wp2
  go_loopg [8] ks.length (fun m c wr => ∃ j s, m = ks.length - j ∧ j ≤ ks.length ∧ c = .int .i64 (j : Int) ∧ s.rest.length ≤ 600 ∧
    (∃ ao1 cap1, Rd wr (fun k => w1.heap.size ≤ k ∧ k < rb) rb ao1 cap1 s) ∧ Mr wr w2.heap.size s ∧ Below w1.heap.size w1 wr)
  case atStart => exact ⟨0, ⟨l, 0⟩, rfl, Nat.zero_le _, rfl, h1, ⟨_, _, HRD.out⟩, HMR.out, HB3.out⟩
  case round =>
    obtain ⟨j, s, hm, hj, rfl, hsl, ⟨a1, c1, r1⟩, m1, hbl⟩ := hrel
    have HM := Lib.hid hm; have R1 := Lib.hid r1; have M1 := Lib.hid m1; have HBL := Lib.hid hbl
    have hzr := hbl.size
    have hmb := m1.lt
    clear hm r1 m1 hbl
    by_cases hlt : j < ks.length
    · obtain ⟨xb, xo, rfl, hxb, hc⟩ := (HK1.out.below (HBL.out.mono hz)) (by intro h; rw [List.map_eq_nil_iff] at h; rw [h] at hlt; simp at hlt)
      have hx : wr.cell? ⟨xb, xo + j, none⟩ = some (.int .u8 (ks[j].toNat : Int)) := hc j _ (by simp [hlt, bv])
      clear hc
      generalize ks[j] = x at *
      generalize hmbe : w2.heap.size = mb at *
      have HMBE := Lib.hid hmbe; clear hmbe
      have enn : s.num.1.rest.length ≤ 600 ∧ s.int.1.rest.length ≤ 600 ∧ s.text.1.rest.length ≤ 600 ∧ s.texts.1.rest.length ≤ 600 := by
        have := steps_len s
        omega
      have ENN := Lib.hid enn; clear enn
      go_upto_block 2 with fail
      go_cut [] (fun wx => ∃ s', s'.rest.length ≤ 600 ∧ (∃ ao1 cap1, Rd wx (fun k => w1.heap.size ≤ k ∧ k < rb) rb ao1 cap1 s') ∧ Mr wx mb s' ∧ Below w1.heap.size w1 wx)
      case first =>
        have h4 : x.toNat % 4 = 0 ∨ x.toNat % 4 = 1 ∨ x.toNat % 4 = 2 ∨ x.toNat % 4 = 3 := by omega
        rcases h4 with h4 | h4 | h4 | h4
        · have g0 : ((x.toNat : Int) % 4 == 0) = true := by simp; omega
          have hneq : (s.num.2 != s.num.2) = false := by simp
          go_wp2_with fail
          refine (rnum_any' _ rb a1 c1 s wr R1.out).mono ?_
          rintro e w3 ⟨rfl, ⟨a1', c1', r1'⟩, k3⟩
          have m2 := M1.out.kept k3 (by omega)
          have b3 := HBL.out.trans (k3.below (by omega) (fun k h => by omega))
          have hz3 := b3.size
          have R1' := Lib.hid r1'; have M2 := Lib.hid m2; have B3 := Lib.hid b3; clear r1' m2 b3 k3
          go_wp2_with fail
          refine (mnum_any mb s w3 M2.out (by omega)).mono ?_
          rintro e w4 ⟨rfl, m3, k4⟩
          have r1'' := R1'.out.kept k4 (by omega) (fun k _ h => by omega)
          have b4 := B3.out.trans (k4.below (by omega) (fun k h => by omega))
          have R1'' := Lib.hid r1''; have M3 := Lib.hid m3; have B4 := Lib.hid b4; clear r1'' m3 b4 k4
          go_wp2_with fail
          go_meet
          case rel => exact ⟨s.num.1, ENN.out.1, ⟨_, _, R1''.out⟩, M3.out, B4.out⟩
        · have g0 : ((x.toNat : Int) % 4 == 0) = false := by simp; omega
          have g1 : ((x.toNat : Int) % 4 == 1) = true := by simp; omega
          have hneq : (s.int.2 != s.int.2) = false := by simp
          go_wp2_with fail
          refine (rint_any' _ rb a1 c1 s wr R1.out).mono ?_
          rintro e w3 ⟨rfl, ⟨a1', c1', r1'⟩, k3⟩
          have m2 := M1.out.kept k3 (by omega)
          have b3 := HBL.out.trans (k3.below (by omega) (fun k h => by omega))
          have hz3 := b3.size
          have R1' := Lib.hid r1'; have M2 := Lib.hid m2; have B3 := Lib.hid b3; clear r1' m2 b3 k3
          go_wp2_with fail
          refine (mint_any mb s w3 M2.out (by omega)).mono ?_
          rintro e w4 ⟨rfl, m3, k4⟩
          have r1'' := R1'.out.kept k4 (by omega) (fun k _ h => by omega)
          have b4 := B3.out.trans (k4.below (by omega) (fun k h => by omega))
          have R1'' := Lib.hid r1''; have M3 := Lib.hid m3; have B4 := Lib.hid b4; clear r1'' m3 b4 k4
          go_wp2_with fail
          go_meet
          case rel => exact ⟨s.int.1, ENN.out.2.1, ⟨_, _, R1''.out⟩, M3.out, B4.out⟩
        · have g0 : ((x.toNat : Int) % 4 == 0) = false := by simp; omega
          have g1 : ((x.toNat : Int) % 4 == 1) = false := by simp; omega
          have g2 : ((x.toNat : Int) % 4 == 2) = true := by simp; omega
          go_wp2_with fail
          refine (rtext_any' _ rb a1 c1 s wr R1.out).mono ?_
          rintro e w3 ⟨rfl, ⟨a1', c1', r1'⟩, k3⟩
          have m2 := M1.out.kept k3 (by omega)
          have b3 := HBL.out.trans (k3.below (by omega) (fun k h => by omega))
          have hz3 := b3.size
          have R1' := Lib.hid r1'; have M2 := Lib.hid m2; have B3 := Lib.hid b3; clear r1' m2 b3 k3
          go_wp2_with fail
          refine (mtext_any mb s w3 M2.out (by omega)).mono ?_
          rintro e w4 ⟨rfl, m3, k4⟩
          have r1'' := R1'.out.kept k4 (by omega) (fun k _ h => by omega)
          have b4 := B3.out.trans (k4.below (by omega) (fun k h => by omega))
          have R1'' := Lib.hid r1''; have M3 := Lib.hid m3; have B4 := Lib.hid b4; clear r1'' m3 b4 k4
          go_wp2_with fail
          go_meet
          case rel => exact ⟨s.text.1, ENN.out.2.2.1, ⟨_, _, R1''.out⟩, M3.out, B4.out⟩
        · have g0 : ((x.toNat : Int) % 4 == 0) = false := by simp; omega
          have g1 : ((x.toNat : Int) % 4 == 1) = false := by simp; omega
          have g2 : ((x.toNat : Int) % 4 == 2) = false := by simp; omega
          go_wp2_with fail
          refine (rtexts_any' _ rb a1 c1 s wr (fun k h => by omega) R1.out).mono ?_
          rintro e w3 ⟨⟨aoT, capT, rfl, hoT⟩, ⟨a1', c1', r1'⟩, k3⟩
          have m2 := M1.out.kept k3 (by omega)
          have b3 := HBL.out.trans (k3.below (by omega) (fun k h => by omega))
          have hz3 := b3.size
          have hz33 := k3.size
          have R1' := Lib.hid r1'; have M2 := Lib.hid m2; have B3 := Lib.hid b3; have HOT := Lib.hid hoT; clear r1' m2 b3 k3 hoT
          go_wp2_with fail
          refine (mtexts_any mb s w3 M2.out (by omega)).mono ?_
          rintro e w4 ⟨⟨aoM, capM, rfl, hoM⟩, m3, k4⟩
          have r1'' := R1'.out.kept k4 (by omega) (fun k _ h => by omega)
          have b4 := B3.out.trans (k4.below (by omega) (fun k h => by omega))
          have hz4 := b4.size
          have hoT4 := owns_kept HOT.out k4 (fun k hk e => by have := (owns_lt HOT.out k hk).1; omega)
          have hnt : s.texts.2.length ≤ 1099511627776 := texts_le s (by omega)
          have hS := same_any aoT capT s.texts.2 aoM capM s.texts.2 w4.heap.size w4 (owns_lies hoT4) (owns_lies hoM) hnt hnt
          have R1'' := Lib.hid r1''; have M3 := Lib.hid m3; have B4 := Lib.hid b4; have HS := Lib.hid hS; clear r1'' m3 b4 k4 hoT4 hoM hS
          go_wp2_with fail
          refine HS.out.mono ?_
          rintro e w5 ⟨rfl, k5⟩
          have hbeq : (s.texts.2 == s.texts.2) = true := by simp
          have r5 := R1''.out.kept k5 (fun h => h) (fun _ _ _ h => h)
          have m5 := M3.out.kept k5 (fun h => h)
          have b5 := B4.out.trans (k5.below (by omega) (fun k h => h.elim))
          have R5 := Lib.hid r5; have M5 := Lib.hid m5; have B5 := Lib.hid b5; clear r5 m5 b5 k5
          go_wp2_with fail
          go_meet
          case rel => exact ⟨s.texts.1, ENN.out.2.2.2, ⟨_, _, R5.out⟩, M5.out, B5.out⟩
      case rest =>
        obtain ⟨s', hs', ⟨a2, c2, r2⟩, m2, b2⟩ := hcut
        have p0 := m2.c0
        have p1 := m2.c1
        have R2 := Lib.hid r2; have M2 := Lib.hid m2; have B2 := Lib.hid b2; clear r2 m2 b2
        have es : (bs s'.rest).size = s'.rest.length := rfl
        have n1 : (s'.err != s'.err) = false := by simp
        have n2 : ((s'.rest.length : Int) != (((bs s'.rest).size : Nat) : Int)) = false := by rw [es]; simp
        have qr : ∀ n, Rd (wc.drewN n) (fun k => w1.heap.size ≤ k ∧ k < rb) rb a2 c2 s' := fun n => R2.out.kept (S := fun _ => False) (kept_drewN (Kept.refl _ wc) n) (fun h => h) (fun _ _ _ h => h)
        have qm : ∀ n, Mr (wc.drewN n) mb s' := fun n => M2.out.kept (S := fun _ => False) (kept_drewN (Kept.refl _ wc) n) (fun h => h)
        have qb : ∀ n, Below w1.heap.size w1 (wc.drewN n) := fun n => ⟨B2.out.os, B2.out.tape, B2.out.output, B2.out.size, B2.out.block⟩
        have QR := Lib.hid qr; have QM := Lib.hid qm; have QB := Lib.hid qb; clear qr qm qb
        by_cases he : s'.err = 0
        · have he1 : (s'.err == 0) = true := by simp [he]
          by_cases hl : 0 < s'.rest.length
          · have hl' : 0 < (bs s'.rest).size := by rw [es]; exact hl
            have n3 : (s'.endE != 11) = false := by simp [RS.endE, he, List.length_pos_iff.1 hl]
            clear he es
            go_wp2_with fail
            go_quiet ((first | (go_at_call 29; exact quiet_same (QR.out _).errs) | (go_at_call 30; exact quiet_same (QR.out _).left) | (go_at_call 31; exact quiet_same (QR.out _).ends)))
            go_wp2
            go_roundg (ks.length - (j + 1))
            case measure => have := HM.out; omega
            case rel => exact ⟨j + 1, s', rfl, by omega, by go_num, hs', ⟨_, _, QR.out _⟩, QM.out _, QB.out _⟩
          · have hl' : ¬ 0 < (bs s'.rest).size := by rw [es]; exact hl
            have hnil : s'.rest = [] := List.eq_nil_of_length_eq_zero (by omega)
            have n3 : (s'.endE != s'.err) = false := by simp [RS.endE, hnil]
            clear he es hnil
            go_wp2_with fail
            go_quiet ((first | (go_at_call 29; exact quiet_same (QR.out _).errs) | (go_at_call 30; exact quiet_same (QR.out _).left) | (go_at_call 31; exact quiet_same (QR.out _).ends)))
            go_wp2
            go_roundg (ks.length - (j + 1))
            case measure => have := HM.out; omega
            case rel => exact ⟨j + 1, s', rfl, by omega, by go_num, hs', ⟨_, _, QR.out _⟩, QM.out _, QB.out _⟩
        · have he1 : (s'.err == 0) = false := by simp [he]
          have n3 : (s'.endE != s'.err) = false := by simp [RS.endE, he]
          clear he es
          go_wp2_with fail
          go_quiet ((first | (go_at_call 29; exact quiet_same (QR.out _).errs) | (go_at_call 30; exact quiet_same (QR.out _).left) | (go_at_call 31; exact quiet_same (QR.out _).ends)))
          go_wp2
          go_roundg (ks.length - (j + 1))
          case measure => have := HM.out; omega
          case rel => exact ⟨j + 1, s', rfl, by omega, by go_num, hs', ⟨_, _, QR.out _⟩, QM.out _, QB.out _⟩
    · have hlr := HL1.out.below (HBL.out.mono hz)
      have hcv := run_string_of (P := Try.prog) wr 25 9 5 Try.underlying25 Try.underlying5 Try.underlying9 bc _ rfl hlr
      clear hlr
      go_wp2
      go_ret
      exact ⟨by simp, B1.out.trans (HBL.out.mono hz)⟩

set_option maxHeartbeats 400000 in
set_option maxRecDepth 100000 in
theorem reads_big (ba : Option Addr) (bc : Nat) (l : List UInt8) (ka : Option Addr) (kc : Nat) (ks : List UInt8) (w : World) (h : 600 < l.length ∨ 40 < ks.length) :
    Calls Try.prog 4 #[.slice ba l.length bc, .slice ka ks.length kc] w fun e w' => e = .returned (.bool true) ∧ Below w.heap.size w w' := by
  have hor : 600 < l.length ∨ (¬ 600 < l.length ∧ 40 < ks.length) := by omega
  clear h
  rcases hor with h1 | ⟨h1, h2⟩
  all_goals
    go_enter Try.func4, Try.ntmps4
    go_wp2_with fail
    refine (awake_any w).mono ?_
    rintro e w1 ⟨rfl, b1⟩
    have B1 := Lib.hid b1; clear b1
    go_wp2_with fail
    refine (awake_any w1).mono ?_
    rintro e w2 ⟨rfl, b2⟩
    have B2 := Lib.hid b2; clear b2
    go_wp2
    go_ret
    exact ⟨rfl, B1.out.trans (B2.out.mono B1.out.size)⟩

theorem reads_any (ba : Option Addr) (bc : Nat) (l : List UInt8) (ka : Option Addr) (kc : Nat) (ks : List UInt8) (w : World) (hL : Lies w w.heap.size ba (l.map bv)) (hK : Lies w w.heap.size ka (ks.map bv)) :
    Calls Try.prog 4 #[.slice ba l.length bc, .slice ka ks.length kc] w fun e w' => e = .returned (.bool true) ∧ Below w.heap.size w w' := by
  by_cases h : 600 < l.length ∨ 40 < ks.length
  · exact reads_big ba bc l ka kc ks w h
  · exact reads_small ba bc l ka kc ks w hL hK (by omega) (by omega)

end Go.Proofs.Yteomlamclppoeaa
