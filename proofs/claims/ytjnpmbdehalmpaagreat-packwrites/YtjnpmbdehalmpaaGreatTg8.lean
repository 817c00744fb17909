/-
  snap.Get; the reference's Write, Rest; a list that is turned.
-/
import Derived.Test.YtjnpmbdehalmpaaGreatGTg
import Derived.Test.YtjnpmbdehalmpaaGreatGKp
import Derived.Test.YtjnpmbdehalmpaaGreatGL7
import Derived.Test.YtjnpmbdehalmpaaGreatRo7
import Derived.Test.YtjnpmbdehalmpaaGreatGRs
import Derived.Test.YtjnpmbdehalmpaaGreatGTp
namespace Go.Proofs.YtjnpmbdehalmpaaGreat
open Go.RowKit Go.Mk Go.Maps

/-- What Get answers. -/
def GtPost (w : World) (d : DD) (b : Bool) (e : Ending) (w' : World) : Prop :=
  ∃ ao cap, e = .returned (.tuple #[valE (d, ao, cap), .bool b]) ∧ Lies w' w'.heap.size ao (strs d.vs) ∧ Kept (fun _ => False) w w'

/-- The reference's Rest as a number. -/
def restN (a : Int) (n : Nat) : Nat := ((wrap64 (a.tmod n + n)).tmod n).toNat

theorem restN_lt (a : Int) (n : Nat) (h1 : 1 ≤ n) (h2 : n ≤ 2147483647) : restN a n < n := rest_lt a n h1 h2

/-- A list from its r-th one on, and round. -/
def rot {α : Type} (l : List α) (r : Nat) : List α := l.drop r ++ l.take r

theorem rot_perm {α : Type} (l : List α) (r : Nat) : l.Perm (rot l r) := by
  have h : (l.take r ++ l.drop r).Perm (rot l r) := List.perm_append_comm
  rwa [List.take_append_drop] at h

theorem rot_len {α : Type} (l : List α) (r : Nat) : (rot l r).length = l.length := (rot_perm l r).length_eq.symm

theorem rot_get {α : Type} (l : List α) (r j : Nat) (hr : r < l.length) (hj : j < l.length) : (rot l r)[j]'(by rw [rot_len]; exact hj) = l[(j + r) % l.length]'(Nat.mod_lt _ (by omega)) := by
  unfold rot
  by_cases h : j < l.length - r
  · rw [List.getElem_append_left (by rw [List.length_drop]; exact h), List.getElem_drop]
    congr 1
    rw [Nat.mod_eq_of_lt (by omega), Nat.add_comm]
  · rw [List.getElem_append_right (by rw [List.length_drop]; omega), List.getElem_take]
    congr 1
    rw [List.length_drop, Nat.mod_eq_sub_mod (by omega), Nat.mod_eq_of_lt (by omega)]
    omega

theorem octs_take (es : List Ent) (j : Nat) (h : j < es.length) : octsL (dds (es.take (j + 1))) = octsL (dds (es.take j)) ++ octD es[j].1 := by
  rw [← octsL_snoc]
  congr 1
  unfold dds
  rw [List.take_add_one, List.getElem?_eq_getElem h, Option.toList_some, List.map_append]
  rfl

set_option maxHeartbeats 1000000 in
set_option maxRecDepth 100000 in
theorem rwrite_any (la : Option Addr) (lc : Nat) (es : List Ent) (w : World) (hD : Rl w la es) (hr : ∀ e ∈ es, rightD e.1 = true) (hn : es.length ≤ 500) :
    Calls Tryz.prog 48 #[.slice la es.length lc] w fun e w' => e = .returned (.string (bs (octS (dds es)))) ∧ Kept (fun _ => False) w w' := by
  have HD := Lib.hid hD; have HR := Lib.hid hr
  clear hD hr
  have HN := Lib.hid (fun (wx : World) => rnum_ok es.length wx (by omega))
  go_enter Tryz.func48, Tryz.ntmps48
  go_wp2_with fail
  refine (HN.out _).mono ?_
  rintro e w0 ⟨rfl, b0⟩
  have K0 := Lib.hid (show Kept (fun _ => False) w w0 from (Kept.of_below b0).mono (fun k hk h => by omega)); clear b0
  go_wp2
  go_loopg [3, 5] es.length (fun k s c wr => ∃ j, k = es.length - j ∧ j ≤ es.length ∧ c = .int .i64 (j : Int) ∧ s = .string (bs (bigB 4 es.length ++ octsL (dds (es.take j)))) ∧ Kept (fun _ => False) w wr)
  case atStart => exact ⟨0, rfl, Nat.zero_le _, rfl, by simp [dds, octsL], K0.out⟩
  case round =>
    obtain ⟨j, hk, hj, rfl, rfl, hw⟩ := hrel
    have HK := Lib.hid hk; have HW := Lib.hid hw
    clear hk hw
    by_cases hlt : j < es.length
    · obtain ⟨xb, xo, rfl, hxb, hc⟩ := HD.out.ds.row (by intro h; rw [h] at hlt; simp at hlt)
      obtain ⟨c0, c1, c2, c3, c4, c5⟩ := (hc j hlt).kept HW.out (fun h => h)
      have hmem := List.getElem_mem hlt
      have HRT := Lib.hid (HR.out es[j] hmem)
      have HLI := Lib.hid (HD.out.ds.lies es[j] hmem)
      have HTK := Lib.hid (octs_take es j hlt)
      have HOL := Lib.hid (show (octsL (dds (es.take j))).length ≤ 10000 * 500 from Nat.le_trans (octsL_len _ (fun d hd => by
        obtain ⟨e, he, rfl⟩ := List.mem_map.1 hd
        exact right_small (HR.out e (List.mem_of_mem_take he)))) (Nat.mul_le_mul_left _ (by rw [dds_len, List.length_take]; omega)))
      have i1 : (j : Int) < (es.length : Int) := by omega
      clear hc hmem
      generalize es[j] = x at *
      obtain ⟨d, ao, cap⟩ := x
      dsimp only at c0 c1 c2 c3 c4 c5 HRT HLI HTK
      have HOC := Lib.hid (roctets_any d ao cap wr ((HLI.out.1.kept HW.out (fun _ _ _ h => h)).mono HW.out.size) (right_small HRT.out) HRT.out)
      have HDL := Lib.hid (octD_len d (right_small HRT.out))
      generalize octD d = od at *
      generalize octsL (dds (es.take j)) = ol at *
      have y1 : (bs od).size ≤ 10000 := by rw [bs_size]; exact HDL.out
      have y2 : (bs (bigB 4 es.length ++ ol)).size ≤ 10000000 := by rw [bs_size, List.length_append, bigB_length]; have := HOL.out; omega
      have HQ := Lib.hid (bs_append (bigB 4 es.length ++ ol) od)
      generalize hB : bs (bigB 4 es.length ++ ol) = B at *
      have HB := Lib.hid hB; clear hB
      go_wp2_with fail
      refine HOC.out.mono ?_
      rintro e w1 ⟨rfl, b1⟩
      have K1 := Lib.hid (HW.out.trans (Kept.of_below b1) (fun k hk h => by have := HW.out.size; omega)); clear b1
      go_wp2
      go_roundg (es.length - (j + 1))
      case measure => have := HK.out; omega
      case rel => exact ⟨j + 1, rfl, by omega, by go_num, by rw [HQ.out, HTK.out, List.append_assoc], K1.out⟩
    · obtain rfl : j = es.length := by omega
      rw [List.take_length]
      have HE := Lib.hid (show bigB 4 es.length ++ octsL (dds es) = octS (dds es) by unfold octS; rw [dds_len])
      clear hlt
      go_wp2
      go_ret
      exact ⟨by rw [← HE.out]; rfl, HW.out⟩

end Go.Proofs.YtjnpmbdehalmpaaGreat
