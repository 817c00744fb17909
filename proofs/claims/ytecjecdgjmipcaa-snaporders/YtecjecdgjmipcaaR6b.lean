/-
  CONTRACTS of the reference of layer 6: In, Class, Var, Always.
-/
import Derived.Test.YtecjecdgjmipcaaR6
namespace Go.Proofs.Ytecjecdgjmipcaa
open Go.RowKit Go.Mk

set_option maxHeartbeats 400000 in
theorem rin_any (aa : Option Addr) (ca : Nat) (la : List (List UInt8)) (l : List UInt8) (B : Nat) (w : World) (hA : Lies w B aa (strs la)) (hl : la.length ≤ 1099511627776) :
    Calls Try.prog 54 #[.slice aa la.length ca, .string (bs l)] w fun e w' => e = .returned (.bool (la.contains l)) ∧ w = w' := by
  have HA := Lib.hid hA; clear hA
  go_enter Try.func54, Try.ntmps54
  go_wp2
  go_loopg [5] la.length (fun k v wr => ∃ j : Nat, k = la.length - j ∧ v = .int .i64 (j : Int) ∧ j ≤ la.length ∧ (la.take j).contains l = false ∧ w = wr)
  case atStart => exact ⟨0, rfl, rfl, Nat.zero_le _, rfl, rfl⟩
  case round =>
    obtain ⟨j, hk, rfl, hj, hev, rfl⟩ := hrel
    have HK := Lib.hid hk; have HEV := Lib.hid hev; clear hk hev
    by_cases hlt : j < la.length
    · obtain ⟨xb, xo, rfl, hxb, hc⟩ := HA.out (by intro h; simp [strs] at h; rw [h] at hlt; simp at hlt)
      have hx : w.cell? ⟨xb, xo + j, none⟩ = some (.string (bs la[j])) := hc j _ (by simp [strs, hlt])
      clear hc
      have i1 : (j : Int) < (la.length : Int) := by omega
      have b1 := bs_list la[j]
      have b2 := bs_list l
      have htk : (la.take (j + 1)).contains l = (la[j] == l) := by
        have e : la.take (j + 1) = la.take j ++ [la[j]] := by rw [List.take_add_one, List.getElem?_eq_getElem hlt]; rfl
        have h := HEV.out
        rw [e, List.contains_eq_any_beq, List.any_append, ← List.contains_eq_any_beq, h]
        simp [Bool.beq_comm]
      have hyes : (la[j] == l) = true → la.contains l = true := fun h => by
        rw [List.contains_iff_mem]
        have := List.getElem_mem hlt
        rwa [eq_of_beq h] at this
      have HTK := Lib.hid htk; have HY := Lib.hid hyes; clear htk hyes
      generalize la[j] = x at *
      cases hxy : x == l with
      | true =>
        have E := Lib.hid (HY.out hxy)
        go_wp2
        go_ret
        exact ⟨by rw [E.out]; rfl, rfl⟩
      | false =>
        rw [hxy] at HTK
        go_wp2
        go_roundg (la.length - (j + 1))
        case measure => have := HK.out; omega
        case rel => exact ⟨j + 1, rfl, by go_num, by omega, HTK.out, rfl⟩
    · obtain rfl : j = la.length := by omega
      have E := Lib.hid HEV.out
      rw [List.take_length] at E
      go_wp2
      go_ret
      exact ⟨by rw [E.out]; rfl, rfl⟩

theorem nm_upp {c : UInt8} {t : List UInt8} (h : isNm (c :: t) = true) : uppI c.toNat = !lowI c.toNat := by
  simp only [isNm, Bool.and_eq_true] at h
  have h2 := h.1.2
  have h3 : (lowI c.toNat || uppI c.toNat) = true := h2
  have h4 : ¬ (lowI c.toNat = true ∧ uppI c.toNat = true) := by
    simp [lowI, uppI]
    omega
  cases hl : lowI c.toNat with
  | false => rw [hl] at h3; simpa using h3
  | true =>
    cases hu : uppI c.toNat with
    | false => rfl
    | true => exact (h4 ⟨hl, hu⟩).elim

set_option maxHeartbeats 400000 in
theorem rcl_any (l : List UInt8) (w : World) : Calls Try.prog 52 #[.string (bs l)] w fun e w' => e = .returned (.bool (isCl l)) ∧ w = w' := by
  have hI := ris_any l w
  unfold isCl
  cases hn : isNm l with
  | false =>
    rw [hn] at hI
    have HI := Lib.hid hI; clear hI hn
    go_enter Try.func52, Try.ntmps52
    go_wp2_with fail
    refine HI.out.mono ?_
    rintro e w1 ⟨rfl, rfl⟩
    go_wp2
    go_ret
    exact ⟨rfl, rfl⟩
  | true =>
    cases l with
    | nil => cases hn
    | cons c t =>
      rw [hn] at hI
      obtain ⟨h1, h2, h3, _⟩ := txt_cons c t
      have hd := txt_hd c t
      have hL := rlow_any c.toNat
      show Calls _ _ _ _ (fun e w' => e = .returned (.bool (true && uppI c.toNat)) ∧ _)
      rw [Bool.true_and, nm_upp hn]
      generalize lowI c.toNat = r at *
      have HI := Lib.hid hI; have HL := Lib.hid hL; clear hI hL hn
      generalize bs (c :: t) = s at *
      go_enter Try.func52, Try.ntmps52
      go_wp2_with fail
      refine HI.out.mono ?_
      rintro e w1 ⟨rfl, rfl⟩
      go_wp2_with fail
      refine (HL.out _).mono ?_
      rintro e w2 ⟨rfl, rfl⟩
      go_wp2
      go_ret
      exact ⟨rfl, rfl⟩

set_option maxHeartbeats 400000 in
theorem rvar_any (l : List UInt8) (w : World) : Calls Try.prog 53 #[.string (bs l)] w fun e w' => e = .returned (.bool (isVa l)) ∧ Kept (fun _ => False) w w' := by
  have hI := ris_any l w
  unfold isVa isUn
  cases hn : isNm l with
  | false =>
    rw [hn] at hI
    have HI := Lib.hid hI; clear hI hn
    go_enter Try.func53, Try.ntmps53
    go_wp2_with fail
    refine HI.out.mono ?_
    rintro e w1 ⟨rfl, rfl⟩
    go_wp2
    go_ret
    exact ⟨rfl, Kept.refl _ _⟩
  | true =>
    cases l with
    | nil => cases hn
    | cons c t =>
      rw [hn] at hI
      obtain ⟨h1, h2, h3, _⟩ := txt_cons c t
      have hd := txt_hd c t
      have hL := rlow_any c.toNat
      show Calls _ _ _ _ (fun e w' => e = .returned (.bool (true && lowI c.toNat && !resv.contains (c :: t))) ∧ _)
      rw [Bool.true_and]
      cases hlow : lowI c.toNat with
      | false =>
        rw [hlow] at hL
        have HI := Lib.hid hI; have HL := Lib.hid hL; clear hI hL hn
        generalize bs (c :: t) = s at *
        go_enter Try.func53, Try.ntmps53
        go_wp2_with fail
        refine HI.out.mono ?_
        rintro e w1 ⟨rfl, rfl⟩
        go_wp2_with fail
        refine (HL.out _).mono ?_
        rintro e w2 ⟨rfl, rfl⟩
        go_wp2
        go_ret
        exact ⟨rfl, Kept.refl _ _⟩
      | true =>
        rw [hlow] at hL
        have hIn := rin_any (some ⟨w.heap.size, 0, none⟩) 5 resv (c :: t) _ (w.alloc (.cells (strs resv).toArray 9)) (lies_new w (strs resv) 9) (by decide)
        have HI := Lib.hid hI; have HL := Lib.hid hL; have HIN := Lib.hid hIn; clear hI hL hn hIn
        generalize resv.contains (c :: t) = r at *
        generalize bs (c :: t) = s at *
        go_enter Try.func53, Try.ntmps53
        go_wp2_with fail
        refine HI.out.mono ?_
        rintro e w1 ⟨rfl, rfl⟩
        go_wp2_with fail
        refine (HL.out _).mono ?_
        rintro e w2 ⟨rfl, rfl⟩
        go_wp2_with fail
        refine HIN.out.mono ?_
        rintro e w2 ⟨rfl, rfl⟩
        go_wp2
        go_ret
        exact ⟨rfl, (Kept.refl _ _).alloc _⟩

set_option maxHeartbeats 400000 in
theorem ralw_any (l : List UInt8) (w : World) : Calls Try.prog 55 #[.string (bs l)] w fun e w' => e = .returned (.bool (builtins.contains l)) ∧ Kept (fun _ => False) w w' := by
  have hIn := rin_any (some ⟨w.heap.size, 0, none⟩) 10 builtins l _ (w.alloc (.cells (strs builtins).toArray 9)) (lies_new w (strs builtins) 9) (by decide)
  have HIN := Lib.hid hIn; clear hIn
  generalize builtins.contains l = r at *
  generalize bs l = s at *
  go_enter Try.func55, Try.ntmps55
  go_wp2_with fail
  refine HIN.out.mono ?_
  rintro e w2 ⟨rfl, rfl⟩
  go_wp2
  go_ret
  exact ⟨rfl, (Kept.refl _ _).alloc _⟩

end Go.Proofs.Ytecjecdgjmipcaa
