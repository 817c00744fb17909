/-
  CONTRACTS of the reference of layer 2.
-/
import Derived.Test.YtgefbolnfenfcaaGreatCs
namespace Go.Proofs.YtgefbolnfenfcaaGreat
open Go.RowKit Go.Mk

theorem ref_step (R C : Nat) : sh (R ^^^ C) = (if (C + R) % 2 = 1 then R / 2 ^^^ cpoly else R / 2) ^^^ C / 2 := by
  unfold sh
  rw [xor_mod2, xor_div2, Nat.add_comm C R]
  split
  · rw [Nat.xor_assoc, Nat.xor_assoc, Nat.xor_comm (C / 2)]
  · rfl

set_option maxHeartbeats 400000 in
theorem rsum2_any (l : List UInt8) (w : World) (hl : l.length ≤ 1099511627776) :
    Calls Tryz.prog 73 #[.string (bs l)] w fun e w' => e = .returned (.int .u32 (sumN l)) ∧ w = w' := by
  have es : (bs l).size = l.length := rfl
  have hs : (bs l).size ≤ 1099511627776 := hl
  have ES := Lib.hid es; clear es
  go_enter Tryz.func73, Tryz.ntmps73
  go_wp2
  go_loopg [3, 4] l.length (fun k r c wr => ∃ j, k = l.length - j ∧ j ≤ l.length ∧ c = .int .i64 (j : Int) ∧ r = .int .u32 (regN (l.take j) ones) ∧ w = wr)
  case atStart => exact ⟨0, rfl, Nat.zero_le _, rfl, rfl, rfl⟩
  case round =>
    obtain ⟨j, hk, hj, rfl, rfl, rfl⟩ := hrel
    have HK := Lib.hid hk; clear hk
    have hR := regN_lt (l.take j) (r := ones) (by decide)
    by_cases hlt : j < l.length
    · have hlt2 : j < (bs l).size := hlt
      have hst : regN (l.take (j + 1)) ones = stepN (regN (l.take j) ones) (bs l)[j] := by
        rw [← List.take_append_getElem hlt, regN_append]
        rfl
      generalize regN (l.take j) ones = r at *
      have hx := (bs l)[j].toNat_lt
      have hsd : stepN r (bs l)[j] = shN 8 (r ^^^ (bs l)[j].toNat) := rfl
      have HST := Lib.hid hst; have HSD := Lib.hid hsd; clear hst hsd
      go_wp2
      generalize (bs l)[j] = x at *
      go_loopg [3, 5, 6] 8 (fun m q c i wr => ∃ n R, m = 8 - n ∧ n ≤ 8 ∧ i = .int .i64 (n : Int) ∧ q = .int .u32 (R : Nat) ∧ c = .int .u8 ((x.toNat / 2 ^ n : Nat) : Int) ∧ R < 4294967296 ∧ R ^^^ x.toNat / 2 ^ n = shN n (r ^^^ x.toNat) ∧ w = wr)
      case atStart => exact ⟨0, r, rfl, by omega, rfl, rfl, by simp, hR, by simp [shN], rfl⟩
      case round =>
        obtain ⟨n, R, hm, hn, rfl, rfl, rfl, hRR, hxr, rfl⟩ := hrel
        by_cases hn8 : n < 8
        · have hnx : R ^^^ x.toNat / 2 ^ n = shN n (r ^^^ x.toNat) → (if (x.toNat / 2 ^ n + R) % 2 = 1 then R / 2 ^^^ cpoly else R / 2) ^^^ x.toNat / 2 ^ (n + 1) = shN (n + 1) (r ^^^ x.toNat) := by
            intro h
            rw [shN_succ, ← h, ref_step, Nat.pow_succ, Nat.div_div_eq_div_mul]
          have hnx := hnx hxr
          have hle : x.toNat / 2 ^ n ≤ x.toNat := Nat.div_le_self _ _
          have hd : x.toNat / 2 ^ (n + 1) = x.toNat / 2 ^ n / 2 := by rw [Nat.pow_succ, Nat.div_div_eq_div_mul]
          generalize x.toNat / 2 ^ n = C at *
          have HM := Lib.hid hm; have HNX := Lib.hid hnx; have HD := Lib.hid hd; clear hm hnx hd hxr
          by_cases hb : (C + R) % 2 = 1
          · rw [if_pos hb] at HNX
            have hb' : (((C : Int) + (R : Int)) % 4294967296 % 2 == 1) = true := by simp; omega
            have hxx : bits .xor .u32 ((R : Int) / 2) 3988292384 = ((R / 2 ^^^ cpoly : Nat) : Int) := u32_xor_nat (R / 2) 3988292384 (by omega) (by decide)
            have hlx : R / 2 ^^^ cpoly < 4294967296 := Nat.xor_lt_two_pow (n := 32) (by omega) (by decide)
            have HXX := Lib.hid hxx; clear hxx
            go_wp2
            go_roundg (8 - (n + 1))
            case measure => have := HM.out; omega
            case rel => exact ⟨n + 1, R / 2 ^^^ cpoly, rfl, by omega, by go_num, by rw [← HXX.out], by rw [HD.out]; rfl, hlx, HNX.out, rfl⟩
          · rw [if_neg hb] at HNX
            have hb' : (((C : Int) + (R : Int)) % 4294967296 % 2 == 1) = false := by simp; omega
            go_wp2
            go_roundg (8 - (n + 1))
            case measure => have := HM.out; omega
            case rel => exact ⟨n + 1, R / 2, rfl, by omega, by go_num, rfl, by rw [HD.out]; rfl, by omega, HNX.out, rfl⟩
        · obtain rfl : n = 8 := by omega
          have e : R = stepN r x := by
            have : x.toNat / 2 ^ 8 = 0 := Nat.div_eq_of_lt hx
            rw [this, Nat.xor_zero] at hxr
            rw [HSD.out, hxr]
          have E := Lib.hid e; clear e hxr
          go_wp2
          go_roundg (l.length - (j + 1))
          case measure => have := HK.out; omega
          case rel => exact ⟨j + 1, rfl, by omega, by go_num, by rw [HST.out, E.out], rfl⟩
    · have hge : (bs l).size ≤ j := by have := ES.out; omega
      obtain rfl : j = l.length := by omega
      have e : ((4294967295 : Int) - ((regN l ones : Nat) : Int)) % 4294967296 = ((sumN l : Nat) : Int) := by
        have h := sumN_eq l
        rw [List.take_length] at hR
        unfold ones at *
        omega
      have E := Lib.hid e; clear e
      go_wp2
      go_ret
      exact ⟨by rw [← E.out]; rfl, rfl⟩

set_option maxHeartbeats 400000 in
theorem rseal2_any (l : List UInt8) (w : World) (hl : l.length ≤ 1073741824) :
    Calls Tryz.prog 35 #[.string (bs l)] w fun e w' => e = .returned (.string (bs (sealL l))) ∧ Below w.heap.size w w' := by
  have es : (bs l).size = l.length := rfl
  have hs : (bs l).size ≤ 1073741824 := hl
  have ES := Lib.hid es; clear es
  have hsu := sumN_lt l
  go_enter Tryz.func35, Tryz.ntmps35
  go_wp2_with fail
  refine (rsum2_any l w (by omega)).mono ?_
  rintro e w1 ⟨rfl, rfl⟩
  have hcv := run_string_new (P := Tryz.prog) 34 9 5 Tryz.underlying34 Tryz.underlying5 Tryz.underlying9 w (le4 (sumN l)) 4 rfl 5
  have hle : (le4 (sumN l)).map bv = [.int .u8 ((sumN l : Int) % 256), .int .u8 ((sumN l : Int) / 256 % 256), .int .u8 ((sumN l : Int) / 65536 % 256), .int .u8 ((sumN l : Int) / 16777216)] := by
    simp only [le4, List.map, bv, UInt8.toNat_ofNat']
    have e4 : ((sumN l / 16777216 % 2 ^ 8 : Nat) : Int) = (sumN l : Int) / 16777216 := by omega
    rw [e4]
    rfl
  rw [hle] at hcv
  have z4 : (bs (le4 (sumN l))).size = 4 := rfl
  clear hle
  go_wp2
  go_ret
  refine ⟨by rw [bs_append]; rfl, (Below.refl _ _).alloc (Nat.le_refl _) _⟩

/-- What is sealed is opened, and nothing else. -/
theorem sealed_eq (l : List UInt8) (h : 4 ≤ l.length) : sealL (l.take (l.length - 4)) = l ↔ leN (l.drop (l.length - 4)) = sumN (l.take (l.length - 4)) := by
  have hd : (l.drop (l.length - 4)).length = 4 := by rw [List.length_drop]; omega
  constructor
  · intro e
    have e1 : le4 (sumN (l.take (l.length - 4))) = l.drop (l.length - 4) := by
      have e2 := congrArg (List.drop (l.length - 4)) e
      rw [sealL, List.drop_append_of_le_length (by rw [List.length_take]; omega), List.drop_of_length_le (by rw [List.length_take]; omega), List.nil_append] at e2
      exact e2
    rw [← e1, leN_le4 (sumN_lt _)]
  · intro e
    have e1 : le4 (sumN (l.take (l.length - 4))) = l.drop (l.length - 4) := leN_inj (by rw [hd]; rfl) (by rw [leN_le4 (sumN_lt _), e])
    rw [sealL, e1, List.take_append_drop]

theorem bs_take (l : List UInt8) (k : Nat) : (bs l).extract 0 k = bs (l.take k) := by
  apply ByteArray.ext
  simp [bs, ByteArray.data_extract]

set_option maxHeartbeats 400000 in
theorem ropen2_any (l : List UInt8) (w : World) (hl : l.length ≤ 1073741824) :
    Calls Tryz.prog 44 #[.string (bs l)] w fun e w' => e = .returned (.tuple #[.string (bs (openB l).1), .int .i64 (openB l).2]) ∧ Below w.heap.size w w' := by
  have es : (bs l).size = l.length := rfl
  have hs : (bs l).size ≤ 1073741824 := hl
  by_cases h4 : l.length < 4
  · have e : openB l = ([], 10) := by rw [openB, if_pos h4]
    rw [e]
    clear e
    have h4' : (bs l).size < 4 := h4
    clear es
    go_enter Tryz.func44, Tryz.ntmps44
    go_wp2
    go_ret2
    exact ⟨rfl, Below.refl _ _⟩
  · have hse := sealed_eq l (by omega)
    have e : openB l = if leN (l.drop (l.length - 4)) = sumN (l.take (l.length - 4)) then (l.take (l.length - 4), 0) else ([], 12) := by rw [openB, if_neg h4]
    have h4' : 4 ≤ (bs l).size := by rw [es]; omega
    obtain ⟨k, hk⟩ : ∃ k, l.length = k + 4 := ⟨l.length - 4, by omega⟩
    rw [show l.length - 4 = k by omega] at e hse
    have ht : (bs l).extract 0 ((bs l).size - 4) = bs (l.take k) := by rw [bs_size, hk, Nat.add_sub_cancel, bs_take]
    have E := Lib.hid e; have HSE := Lib.hid hse; have ES := Lib.hid es; have HT := Lib.hid ht; clear e hse es ht
    go_enter Tryz.func44, Tryz.ntmps44
    go_wp2_with fail
    rw [HT.out]
    refine (rseal2_any (l.take k) w (by simp; omega)).mono ?_
    rintro e w1 ⟨rfl, b1⟩
    have B1 := Lib.hid b1; clear b1
    by_cases hq : sealL (l.take k) = l
    · have hq' : ((bs (sealL (l.take k))).toList == (bs l).toList) = true := by rw [hq]; simp
      have e : openB l = (l.take k, 0) := by rw [E.out, if_pos (HSE.out.1 hq)]
      have EE := Lib.hid e; clear e hq
      go_wp2
      go_ret2
      rw [EE.out]
      exact ⟨by rw [HT.out]; rfl, B1.out⟩
    · have hq' : ((bs (sealL (l.take k))).toList == (bs l).toList) = false := by rw [bs_list, bs_list]; simpa using hq
      have e : openB l = ([], 12) := by rw [E.out, if_neg (fun h => hq (HSE.out.2 h))]
      have EE := Lib.hid e; clear e hq
      go_wp2
      go_ret2
      rw [EE.out]
      exact ⟨rfl, B1.out⟩

end Go.Proofs.YtgefbolnfenfcaaGreat
