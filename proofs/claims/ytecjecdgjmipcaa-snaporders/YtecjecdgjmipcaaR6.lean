/-
  CONTRACTS of the reference of layer 6: small, letter, Is, In, Class, Var, Always.
-/
import Derived.Test.YtecjecdgjmipcaaNa
import Derived.Test.YtecjecdgjmipcaaSs
namespace Go.Proofs.Ytecjecdgjmipcaa
open Go.RowKit Go.Mk

theorem rlow_any (c : Int) (w : World) : Calls Try.prog 81 #[.int .u8 c] w fun e w' => e = .returned (.bool (lowI c)) ∧ w = w' := by
  unfold lowI
  by_cases h : 97 ≤ c
  · go_enter Try.func81, Try.ntmps81
    go_wp2
    go_ret
    exact ⟨by simp [h], rfl⟩
  · go_enter Try.func81, Try.ntmps81
    go_wp2
    go_ret
    exact ⟨by simp; omega, rfl⟩

def ltrI (c : Int) : Bool := lowI c || uppI c

theorem rlet_any (c : Int) (w : World) : Calls Try.prog 100 #[.int .u8 c] w fun e w' => e = .returned (.bool (ltrI c)) ∧ w = w' := by
  have hL := rlow_any c
  unfold ltrI uppI
  generalize lowI c = a at *
  have HL := Lib.hid hL; clear hL
  cases a
  · by_cases h : 65 ≤ c
    · go_enter Try.func100, Try.ntmps100
      go_wp2_with (go_at_call 81; refine (HL.out _).mono ?_; rintro e w1 ⟨rfl, rfl⟩)
      go_ret
      exact ⟨by simp [h], rfl⟩
    · go_enter Try.func100, Try.ntmps100
      go_wp2_with (go_at_call 81; refine (HL.out _).mono ?_; rintro e w1 ⟨rfl, rfl⟩)
      go_ret
      exact ⟨by simp; omega, rfl⟩
  · go_enter Try.func100, Try.ntmps100
    go_wp2_with (go_at_call 81; refine (HL.out _).mono ?_; rintro e w1 ⟨rfl, rfl⟩)
    go_ret
    exact ⟨by simp, rfl⟩

/-- The first byte, as the reference asks for it. -/
theorem txt_hd (c : UInt8) (t : List UInt8) : ∀ h : 0 < (bs (c :: t)).size, (((bs (c :: t))[0]'h).toNat : Int) = (c.toNat : Int) := fun _ => rfl

set_option maxHeartbeats 1000000 in
theorem ris_any (l : List UInt8) (w : World) : Calls Try.prog 80 #[.string (bs l)] w fun e w' => e = .returned (.bool (isNm l)) ∧ w = w' := by
  cases l with
  | nil =>
    go_enter Try.func80, Try.ntmps80
    go_wp2
    go_ret
    exact ⟨rfl, rfl⟩
  | cons c t =>
    obtain ⟨h1, h2, h3, h4⟩ := txt_cons c t
    have hd := txt_hd c t
    have h5 : ¬ ((bs (c :: t)).size : Int) < 1 := by omega
    have h5b : decide (((bs (c :: t)).size : Int) < 1) = false := by simp; omega
    clear h4
    by_cases h40 : 40 < (c :: t).length
    · rw [nm_long _ h40]
      rw [← bs_size] at h40
      have h41 : (40 : Int) < ((bs (c :: t)).size : Int) := by omega
      clear h40 hd
      generalize bs (c :: t) = s at *
      go_enter Try.func80, Try.ntmps80
      go_wp2
      go_ret
      exact ⟨rfl, rfl⟩
    · have h41 : ((bs (c :: t)).size : Int) ≤ 40 := by rw [bs_size]; omega
      have h41b : decide ((40 : Int) < ((bs (c :: t)).size : Int)) = false := by simp; omega
      have e2 : lenIn (c :: t) 40 = true := by simp [lenIn] at *; omega
      have hD := rlet_any c.toNat
      have hnm : isNm (c :: t) = (ltrI c.toNat && (c :: t).all aln) := by
        unfold isNm
        rw [e2, Bool.true_and]
        rfl
      rw [hnm]
      clear e2 hnm h40
      cases hlc : ltrI c.toNat with
      | false =>
        rw [hlc] at hD
        rw [Bool.false_and]
        have HD := Lib.hid hD; clear hD hlc
        generalize bs (c :: t) = s at *
        go_enter Try.func80, Try.ntmps80
        go_wp2_with (go_at_call 100; refine (HD.out _).mono ?_; rintro e w1 ⟨rfl, rfl⟩)
        go_ret
        exact ⟨rfl, rfl⟩
      | true =>
        rw [hlc] at hD
        rw [Bool.true_and]
        have HD := Lib.hid hD; clear hD hlc
        have hs := bs_size (c :: t)
        have HG := Lib.hid (bs_get (c :: t))
        generalize c :: t = l at *
        go_enter Try.func80, Try.ntmps80
        go_wp2_with fail
        refine (HD.out _).mono ?_
        rintro e w1 ⟨rfl, rfl⟩
        go_wp2_with fail
        clear hd h1 h2 h3 h5b h41 h41b
        go_loopg [3] l.length (fun k v wr => ∃ j : Nat, k = l.length - j ∧ v = .int .i64 (j : Int) ∧ j ≤ l.length ∧ (l.take j).all aln = true ∧ w = wr)
        case atStart => exact ⟨0, rfl, rfl, Nat.zero_le _, rfl, rfl⟩
        case round =>
          obtain ⟨j, hk, rfl, hj, hev, rfl⟩ := hrel
          have HK := Lib.hid hk; have HEV := Lib.hid hev; clear hk hev
          by_cases hlt : j < l.length
          · have hlt1 : (j : Int) < ((bs l).size : Int) := by omega
            have hgj : ∀ h : j < (bs l).size, (((bs l)[j]'h).toNat : Int) = ((l[j]'hlt).toNat : Int) := fun h => by rw [bs_get l j hlt]
            have htk : (l.take (j + 1)).all aln = aln (l[j]'hlt) := by
              have e : l.take (j + 1) = l.take j ++ [l[j]'hlt] := by rw [List.take_add_one, List.getElem?_eq_getElem hlt]; rfl
              rw [e, List.all_append, HEV.out]
              simp
            have hbad : aln (l[j]'hlt) = false → l.all aln = false := fun h => by
              rw [List.all_eq_false]
              exact ⟨l[j]'hlt, List.getElem_mem _, by rw [h]; simp⟩
            have hL := rlet_any (l[j]'hlt).toNat
            have hal : aln (l[j]'hlt) = (ltrI (l[j]'hlt).toNat || digI (l[j]'hlt).toNat) := rfl
            have HTK := Lib.hid htk; have HBAD := Lib.hid hbad; have HL := Lib.hid hL; have HAL := Lib.hid hal; clear htk hbad hL hal
            generalize aln (l[j]'hlt) = r at *
            generalize ((l[j]'hlt).toNat : Int) = x at *
            cases hlx : ltrI x with
            | true =>
              rw [hlx] at HL HAL
              clear hlx
              go_wp2_with (go_at_call 100; refine (HL.out _).mono ?_; rintro e w1 ⟨rfl, rfl⟩)
              go_roundg (l.length - (j + 1))
              case measure => have := HK.out; omega
              case rel => exact ⟨j + 1, rfl, by go_num, by omega, by rw [HTK.out, HAL.out]; rfl, rfl⟩
            | false =>
              rw [hlx] at HL HAL
              clear hlx
              unfold digI at HAL
              by_cases h48 : 48 ≤ x
              · by_cases h57 : x ≤ 57
                · have hb1 : ¬ x < 48 := by omega
                  have hb2 : ¬ 57 < x := by omega
                  have hb3 : decide (x < 48) = false := by simp; omega
                  have hr : Hid (r = true) := by
                    show r = true
                    rw [HAL.out]; simp [h48, h57]
                  go_wp2_with (go_at_call 100; refine (HL.out _).mono ?_; rintro e w1 ⟨rfl, rfl⟩)
                  go_roundg (l.length - (j + 1))
                  case measure => have := HK.out; omega
                  case rel => exact ⟨j + 1, rfl, by go_num, by omega, by rw [HTK.out, hr.out], rfl⟩
                · have hb1 : ¬ x < 48 := by omega
                  have hb2 : 57 < x := by omega
                  have hb3 : decide (x < 48) = false := by simp; omega
                  have hr : Hid (l.all aln = false) := HBAD.out (by rw [HAL.out]; simp; omega)
                  go_wp2_with (go_at_call 100; refine (HL.out _).mono ?_; rintro e w1 ⟨rfl, rfl⟩)
                  go_ret
                  exact ⟨by rw [hr.out]; rfl, rfl⟩
              · have hb1 : x < 48 := by omega
                have hr : Hid (l.all aln = false) := HBAD.out (by rw [HAL.out]; simp; omega)
                go_wp2_with (go_at_call 100; refine (HL.out _).mono ?_; rintro e w1 ⟨rfl, rfl⟩)
                go_ret
                exact ⟨by rw [hr.out]; rfl, rfl⟩
          · obtain rfl : j = l.length := by omega
            have E := Lib.hid HEV.out
            rw [List.take_length] at E
            go_wp2
            go_ret
            exact ⟨by rw [E.out]; rfl, rfl⟩

end Go.Proofs.Ytecjecdgjmipcaa
