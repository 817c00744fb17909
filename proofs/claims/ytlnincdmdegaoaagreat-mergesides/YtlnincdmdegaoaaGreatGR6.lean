/-
  Lemmas towards the claim of this folder: contracts of the functions that the law reaches; joined texts.
-/
import Derived.Test.YtlnincdmdegaoaaGreatGMgp
import Derived.Test.YtlnincdmdegaoaaGreatGNb
/-
  CONTRACTS of the reference of layer 6: small, letter, Is, In, Class, Var, Always.
-/
namespace Go.Proofs.YtlnincdmdegaoaaGreat
open Go.RowKit Go.Mk

theorem rlow_any (c : Int) (w : World) : Calls Tryz.prog 90 #[.int .u8 c] w fun e w' => e = .returned (.bool (lowI c)) ∧ w = w' := by
  unfold lowI
  by_cases h : 97 ≤ c
  · go_enter Tryz.func90, Tryz.ntmps90
    go_wp2
    go_ret
    exact ⟨by simp [h], rfl⟩
  · go_enter Tryz.func90, Tryz.ntmps90
    go_wp2
    go_ret
    exact ⟨by simp; omega, rfl⟩

def ltrI (c : Int) : Bool := lowI c || uppI c

theorem rlet_any (c : Int) (w : World) : Calls Tryz.prog 104 #[.int .u8 c] w fun e w' => e = .returned (.bool (ltrI c)) ∧ w = w' := by
  have hL := rlow_any c
  unfold ltrI uppI
  generalize lowI c = a at *
  have HL := Lib.hid hL; clear hL
  cases a
  · by_cases h : 65 ≤ c
    · go_enter Tryz.func104, Tryz.ntmps104
      go_wp2_with (go_at_call 90; refine (HL.out _).mono ?_; rintro e w1 ⟨rfl, rfl⟩)
      go_ret
      exact ⟨by simp [h], rfl⟩
    · go_enter Tryz.func104, Tryz.ntmps104
      go_wp2_with (go_at_call 90; refine (HL.out _).mono ?_; rintro e w1 ⟨rfl, rfl⟩)
      go_ret
      exact ⟨by simp; omega, rfl⟩
  · go_enter Tryz.func104, Tryz.ntmps104
    go_wp2_with (go_at_call 90; refine (HL.out _).mono ?_; rintro e w1 ⟨rfl, rfl⟩)
    go_ret
    exact ⟨by simp, rfl⟩

/-- The first byte, as the reference asks for it. -/
theorem txt_hd (c : UInt8) (t : List UInt8) : ∀ h : 0 < (bs (c :: t)).size, (((bs (c :: t))[0]'h).toNat : Int) = (c.toNat : Int) := fun _ => rfl

set_option maxHeartbeats 1000000 in
theorem ris_any (l : List UInt8) (w : World) : Calls Tryz.prog 89 #[.string (bs l)] w fun e w' => e = .returned (.bool (isNm l)) ∧ w = w' := by
  cases l with
  | nil =>
    go_enter Tryz.func89, Tryz.ntmps89
    go_wp2
    go_ret
    exact ⟨rfl, rfl⟩
  | cons c t =>
    obtain ⟨h1, h2, h3, h4⟩ := txt_cons c t
    have hd := txt_hd c t
    have h5 : ¬ ((bs (c :: t)).size : Int) < 1 := by omega
    have h5b : decide (((bs (c :: t)).size : Int) < 1) = false := by simp; omega
    clear h4
    by_cases h40 : 40 < (c :: t).length
    · rw [nm_long _ h40]
      rw [← bs_size] at h40
      have h41 : (40 : Int) < ((bs (c :: t)).size : Int) := by omega
      clear h40 hd
      generalize bs (c :: t) = s at *
      go_enter Tryz.func89, Tryz.ntmps89
      go_wp2
      go_ret
      exact ⟨rfl, rfl⟩
    · have h41 : ((bs (c :: t)).size : Int) ≤ 40 := by rw [bs_size]; omega
      have h41b : decide ((40 : Int) < ((bs (c :: t)).size : Int)) = false := by simp; omega
      have e2 : lenIn (c :: t) 40 = true := by simp [lenIn] at *; omega
      have hD := rlet_any c.toNat
      have hnm : isNm (c :: t) = (ltrI c.toNat && (c :: t).all aln) := by
        unfold isNm
        rw [e2, Bool.true_and]
        rfl
      rw [hnm]
      clear e2 hnm h40
      cases hlc : ltrI c.toNat with
      | false =>
        rw [hlc] at hD
        rw [Bool.false_and]
        have HD := Lib.hid hD; clear hD hlc
        generalize bs (c :: t) = s at *
        go_enter Tryz.func89, Tryz.ntmps89
        go_wp2_with (go_at_call 104; refine (HD.out _).mono ?_; rintro e w1 ⟨rfl, rfl⟩)
        go_ret
        exact ⟨rfl, rfl⟩
      | true =>
        rw [hlc] at hD
        rw [Bool.true_and]
        have HD := Lib.hid hD; clear hD hlc
        have hs := bs_size (c :: t)
        have HG := Lib.hid (bs_get (c :: t))
        generalize c :: t = l at *
        go_enter Tryz.func89, Tryz.ntmps89
        go_wp2_with fail
        refine (HD.out _).mono ?_
        rintro e w1 ⟨rfl, rfl⟩
        go_wp2_with fail
        clear hd h1 h2 h3 h5b h41 h41b
        go_loopg [3] l.length (fun k v wr => ∃ j : Nat, k = l.length - j ∧ v = .int .i64 (j : Int) ∧ j ≤ l.length ∧ (l.take j).all aln = true ∧ w = wr)
        case atStart => exact ⟨0, rfl, rfl, Nat.zero_le _, rfl, rfl⟩
        case round =>
          obtain ⟨j, hk, rfl, hj, hev, rfl⟩ := hrel
          have HK := Lib.hid hk; have HEV := Lib.hid hev; clear hk hev
          by_cases hlt : j < l.length
          · have hlt1 : (j : Int) < ((bs l).size : Int) := by omega
            have hgj : ∀ h : j < (bs l).size, (((bs l)[j]'h).toNat : Int) = ((l[j]'hlt).toNat : Int) := fun h => by rw [bs_get l j hlt]
            have htk : (l.take (j + 1)).all aln = aln (l[j]'hlt) := by
              have e : l.take (j + 1) = l.take j ++ [l[j]'hlt] := by rw [List.take_add_one, List.getElem?_eq_getElem hlt]; rfl
              rw [e, List.all_append, HEV.out]
              simp
            have hbad : aln (l[j]'hlt) = false → l.all aln = false := fun h => by
              rw [List.all_eq_false]
              exact ⟨l[j]'hlt, List.getElem_mem _, by rw [h]; simp⟩
            have hL := rlet_any (l[j]'hlt).toNat
            have hal : aln (l[j]'hlt) = (ltrI (l[j]'hlt).toNat || digI (l[j]'hlt).toNat) := rfl
            have HTK := Lib.hid htk; have HBAD := Lib.hid hbad; have HL := Lib.hid hL; have HAL := Lib.hid hal; clear htk hbad hL hal
            generalize aln (l[j]'hlt) = r at *
            generalize ((l[j]'hlt).toNat : Int) = x at *
            cases hlx : ltrI x with
            | true =>
              rw [hlx] at HL HAL
              clear hlx
              go_wp2_with (go_at_call 104; refine (HL.out _).mono ?_; rintro e w1 ⟨rfl, rfl⟩)
              go_roundg (l.length - (j + 1))
              case measure => have := HK.out; omega
              case rel => exact ⟨j + 1, rfl, by go_num, by omega, by rw [HTK.out, HAL.out]; rfl, rfl⟩
            | false =>
              rw [hlx] at HL HAL
              clear hlx
              unfold digI at HAL
              by_cases h48 : 48 ≤ x
              · by_cases h57 : x ≤ 57
                · have hb1 : ¬ x < 48 := by omega
                  have hb2 : ¬ 57 < x := by omega
                  have hb3 : decide (x < 48) = false := by simp; omega
                  have hr : Hid (r = true) := by
                    show r = true
                    rw [HAL.out]; simp [h48, h57]
                  go_wp2_with (go_at_call 104; refine (HL.out _).mono ?_; rintro e w1 ⟨rfl, rfl⟩)
                  go_roundg (l.length - (j + 1))
                  case measure => have := HK.out; omega
                  case rel => exact ⟨j + 1, rfl, by go_num, by omega, by rw [HTK.out, hr.out], rfl⟩
                · have hb1 : ¬ x < 48 := by omega
                  have hb2 : 57 < x := by omega
                  have hb3 : decide (x < 48) = false := by simp; omega
                  have hr : Hid (l.all aln = false) := HBAD.out (by rw [HAL.out]; simp; omega)
                  go_wp2_with (go_at_call 104; refine (HL.out _).mono ?_; rintro e w1 ⟨rfl, rfl⟩)
                  go_ret
                  exact ⟨by rw [hr.out]; rfl, rfl⟩
              · have hb1 : x < 48 := by omega
                have hr : Hid (l.all aln = false) := HBAD.out (by rw [HAL.out]; simp; omega)
                go_wp2_with (go_at_call 104; refine (HL.out _).mono ?_; rintro e w1 ⟨rfl, rfl⟩)
                go_ret
                exact ⟨by rw [hr.out]; rfl, rfl⟩
          · obtain rfl : j = l.length := by omega
            have E := Lib.hid HEV.out
            rw [List.take_length] at E
            go_wp2
            go_ret
            exact ⟨by rw [E.out]; rfl, rfl⟩

end Go.Proofs.YtlnincdmdegaoaaGreat

/-
  CONTRACTS of the reference of layer 6: In, Class, Var, Always.
-/
namespace Go.Proofs.YtlnincdmdegaoaaGreat
open Go.RowKit Go.Mk

set_option maxHeartbeats 400000 in
theorem rin_any (aa : Option Addr) (ca : Nat) (la : List (List UInt8)) (l : List UInt8) (B : Nat) (w : World) (hA : Lies w B aa (strs la)) (hl : la.length ≤ 1099511627776) :
    Calls Tryz.prog 69 #[.slice aa la.length ca, .string (bs l)] w fun e w' => e = .returned (.bool (la.contains l)) ∧ w = w' := by
  have HA := Lib.hid hA; clear hA
  go_enter Tryz.func69, Tryz.ntmps69
  go_wp2
  go_loopg [5] la.length (fun k v wr => ∃ j : Nat, k = la.length - j ∧ v = .int .i64 (j : Int) ∧ j ≤ la.length ∧ (la.take j).contains l = false ∧ w = wr)
  case atStart => exact ⟨0, rfl, rfl, Nat.zero_le _, rfl, rfl⟩
  case round =>
    obtain ⟨j, hk, rfl, hj, hev, rfl⟩ := hrel
    have HK := Lib.hid hk; have HEV := Lib.hid hev; clear hk hev
    by_cases hlt : j < la.length
    · obtain ⟨xb, xo, rfl, hxb, hc⟩ := HA.out (by intro h; simp [strs] at h; rw [h] at hlt; simp at hlt)
      have hx : w.cell? ⟨xb, xo + j, none⟩ = some (.string (bs la[j])) := hc j _ (by simp [strs, hlt])
      clear hc
      have i1 : (j : Int) < (la.length : Int) := by omega
      have b1 := bs_list la[j]
      have b2 := bs_list l
      have htk : (la.take (j + 1)).contains l = (la[j] == l) := by
        have e : la.take (j + 1) = la.take j ++ [la[j]] := by rw [List.take_add_one, List.getElem?_eq_getElem hlt]; rfl
        have h := HEV.out
        rw [e, List.contains_eq_any_beq, List.any_append, ← List.contains_eq_any_beq, h]
        simp [Bool.beq_comm]
      have hyes : (la[j] == l) = true → la.contains l = true := fun h => by
        rw [List.contains_iff_mem]
        have := List.getElem_mem hlt
        rwa [eq_of_beq h] at this
      have HTK := Lib.hid htk; have HY := Lib.hid hyes; clear htk hyes
      generalize la[j] = x at *
      cases hxy : x == l with
      | true =>
        have E := Lib.hid (HY.out hxy)
        go_wp2
        go_ret
        exact ⟨by rw [E.out]; rfl, rfl⟩
      | false =>
        rw [hxy] at HTK
        go_wp2
        go_roundg (la.length - (j + 1))
        case measure => have := HK.out; omega
        case rel => exact ⟨j + 1, rfl, by go_num, by omega, HTK.out, rfl⟩
    · obtain rfl : j = la.length := by omega
      have E := Lib.hid HEV.out
      rw [List.take_length] at E
      go_wp2
      go_ret
      exact ⟨by rw [E.out]; rfl, rfl⟩

theorem nm_upp {c : UInt8} {t : List UInt8} (h : isNm (c :: t) = true) : uppI c.toNat = !lowI c.toNat := by
  simp only [isNm, Bool.and_eq_true] at h
  have h2 := h.1.2
  have h3 : (lowI c.toNat || uppI c.toNat) = true := h2
  have h4 : ¬ (lowI c.toNat = true ∧ uppI c.toNat = true) := by
    simp [lowI, uppI]
    omega
  cases hl : lowI c.toNat with
  | false => rw [hl] at h3; simpa using h3
  | true =>
    cases hu : uppI c.toNat with
    | false => rfl
    | true => exact (h4 ⟨hl, hu⟩).elim

set_option maxHeartbeats 400000 in
theorem rcl_any (l : List UInt8) (w : World) : Calls Tryz.prog 67 #[.string (bs l)] w fun e w' => e = .returned (.bool (isCl l)) ∧ w = w' := by
  have hI := ris_any l w
  unfold isCl
  cases hn : isNm l with
  | false =>
    rw [hn] at hI
    have HI := Lib.hid hI; clear hI hn
    go_enter Tryz.func67, Tryz.ntmps67
    go_wp2_with fail
    refine HI.out.mono ?_
    rintro e w1 ⟨rfl, rfl⟩
    go_wp2
    go_ret
    exact ⟨rfl, rfl⟩
  | true =>
    cases l with
    | nil => cases hn
    | cons c t =>
      rw [hn] at hI
      obtain ⟨h1, h2, h3, _⟩ := txt_cons c t
      have hd := txt_hd c t
      have hL := rlow_any c.toNat
      show Calls _ _ _ _ (fun e w' => e = .returned (.bool (true && uppI c.toNat)) ∧ _)
      rw [Bool.true_and, nm_upp hn]
      generalize lowI c.toNat = r at *
      have HI := Lib.hid hI; have HL := Lib.hid hL; clear hI hL hn
      generalize bs (c :: t) = s at *
      go_enter Tryz.func67, Tryz.ntmps67
      go_wp2_with fail
      refine HI.out.mono ?_
      rintro e w1 ⟨rfl, rfl⟩
      go_wp2_with fail
      refine (HL.out _).mono ?_
      rintro e w2 ⟨rfl, rfl⟩
      go_wp2
      go_ret
      exact ⟨rfl, rfl⟩

set_option maxHeartbeats 400000 in
theorem rvar_any (l : List UInt8) (w : World) : Calls Tryz.prog 68 #[.string (bs l)] w fun e w' => e = .returned (.bool (isVa l)) ∧ Kept (fun _ => False) w w' := by
  have hI := ris_any l w
  unfold isVa isUn
  cases hn : isNm l with
  | false =>
    rw [hn] at hI
    have HI := Lib.hid hI; clear hI hn
    go_enter Tryz.func68, Tryz.ntmps68
    go_wp2_with fail
    refine HI.out.mono ?_
    rintro e w1 ⟨rfl, rfl⟩
    go_wp2
    go_ret
    exact ⟨rfl, Kept.refl _ _⟩
  | true =>
    cases l with
    | nil => cases hn
    | cons c t =>
      rw [hn] at hI
      obtain ⟨h1, h2, h3, _⟩ := txt_cons c t
      have hd := txt_hd c t
      have hL := rlow_any c.toNat
      show Calls _ _ _ _ (fun e w' => e = .returned (.bool (true && lowI c.toNat && !resv.contains (c :: t))) ∧ _)
      rw [Bool.true_and]
      cases hlow : lowI c.toNat with
      | false =>
        rw [hlow] at hL
        have HI := Lib.hid hI; have HL := Lib.hid hL; clear hI hL hn
        generalize bs (c :: t) = s at *
        go_enter Tryz.func68, Tryz.ntmps68
        go_wp2_with fail
        refine HI.out.mono ?_
        rintro e w1 ⟨rfl, rfl⟩
        go_wp2_with fail
        refine (HL.out _).mono ?_
        rintro e w2 ⟨rfl, rfl⟩
        go_wp2
        go_ret
        exact ⟨rfl, Kept.refl _ _⟩
      | true =>
        rw [hlow] at hL
        have hIn := rin_any (some ⟨w.heap.size, 0, none⟩) 5 resv (c :: t) _ (w.alloc (.cells (strs resv).toArray 9)) (lies_new w (strs resv) 9) (by decide)
        have HI := Lib.hid hI; have HL := Lib.hid hL; have HIN := Lib.hid hIn; clear hI hL hn hIn
        generalize resv.contains (c :: t) = r at *
        generalize bs (c :: t) = s at *
        go_enter Tryz.func68, Tryz.ntmps68
        go_wp2_with fail
        refine HI.out.mono ?_
        rintro e w1 ⟨rfl, rfl⟩
        go_wp2_with fail
        refine (HL.out _).mono ?_
        rintro e w2 ⟨rfl, rfl⟩
        go_wp2_with fail
        refine HIN.out.mono ?_
        rintro e w2 ⟨rfl, rfl⟩
        go_wp2
        go_ret
        exact ⟨rfl, (Kept.refl _ _).alloc _⟩

set_option maxHeartbeats 400000 in
theorem ralw_any (l : List UInt8) (w : World) : Calls Tryz.prog 70 #[.string (bs l)] w fun e w' => e = .returned (.bool (builtins.contains l)) ∧ Kept (fun _ => False) w w' := by
  have hIn := rin_any (some ⟨w.heap.size, 0, none⟩) 10 builtins l _ (w.alloc (.cells (strs builtins).toArray 9)) (lies_new w (strs builtins) 9) (by decide)
  have HIN := Lib.hid hIn; clear hIn
  generalize builtins.contains l = r at *
  generalize bs l = s at *
  go_enter Tryz.func70, Tryz.ntmps70
  go_wp2_with fail
  refine HIN.out.mono ?_
  rintro e w2 ⟨rfl, rfl⟩
  go_wp2
  go_ret
  exact ⟨rfl, (Kept.refl _ _).alloc _⟩

end Go.Proofs.YtlnincdmdegaoaaGreat
