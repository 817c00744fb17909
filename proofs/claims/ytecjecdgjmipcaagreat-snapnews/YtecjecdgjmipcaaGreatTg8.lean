/-
  snap.Get; the reference's Write, Rest; a list that is turned.
-/
import Derived.Test.YtecjecdgjmipcaaGreatSy
import Derived.Test.YtecjecdgjmipcaaGreatGR8
import Derived.Test.YtecjecdgjmipcaaGreatGTh
import Derived.Test.YtecjecdgjmipcaaGreatRo7
import Derived.Test.YtecjecdgjmipcaaGreatRs
import Derived.Test.YtecjecdgjmipcaaGreatTp
namespace Go.Proofs.YtecjecdgjmipcaaGreat
open Go.RowKit Go.Mk Go.Maps

/-- What Get answers. -/
def GtPost (w : World) (d : DD) (b : Bool) (e : Ending) (w' : World) : Prop :=
  ∃ ao cap, e = .returned (.tuple #[valE (d, ao, cap), .bool b]) ∧ Lies w' w'.heap.size ao (strs d.vs) ∧ Kept (fun _ => False) w w'

set_option maxHeartbeats 1000000 in
set_option maxRecDepth 100000 in
theorem sget_at {w : World} {v : Value} {p : Option Nat} (hp : SnP w v p) (key : List UInt8) (d : DD) (ao : Option Addr) (cap : Nat) (b : Bool) (B : Nat) (hA : Lies w B ao (strs d.vs)) (hl : Len8 d)
    (hlook : ∀ wx, Kept (fun _ => False) w wx → (Instr.lookup 63 (.map p) (.string (bs key)) true).run Tryz.prog wx = .ok (.tuple #[valE (d, ao, cap), .bool b]) wx) :
    Calls Tryz.prog 27 #[v, .string (bs key)] w (GtPost w d b) := by
  have ka : Kept (fun _ => False) w (w.alloc (.cells #[.int .i64 0, .string ⟨#[]⟩, .string ⟨#[]⟩, .slice none 0 0, .string ⟨#[]⟩, .string ⟨#[]⟩] 49)) := (Kept.refl _ w).alloc _
  have HT := Lib.hid (table_any (hp.keep ka))
  have hlk := hlook _ ka
  have hB1 : Bz (w.alloc (.cells #[.int .i64 0, .string ⟨#[]⟩, .string ⟨#[]⟩, .slice none 0 0, .string ⟨#[]⟩, .string ⟨#[]⟩] 49)) w.heap.size none 0 zeroD := bz_new w none 0 zeroD 49
  have HB := Lib.hid hB1
  have KA := Lib.hid ka
  have HC := Lib.hid (fun (wx : World) (h : Kept (fun _ => False) w wx) => copy_any d ao cap B wx (hA.kept h (fun _ _ _ h => h)) hl)
  clear hp hA hl hlook ka hB1
  unfold valE at hlk
  dsimp only at hlk
  go_enter Tryz.func27, Tryz.ntmps27
  go_wp2_with fail
  refine HT.out.mono ?_
  rintro e w1 ⟨rfl, rfl⟩
  go_wp2_with fail
  refine (HC.out _ (KA.out.alloc _)).mono ?_
  rintro e w2 ⟨ao2, cap2, rfl, ho2, k2⟩
  have B2 := Lib.hid ((HB.out.kept (S := fun _ => False) ((Kept.refl _ _).alloc _) (fun h => h)).kept k2 (fun h => h))
  have K2 := Lib.hid ((KA.out.alloc _).trans k2 (fun _ _ h => h))
  have HO := Lib.hid ho2
  clear ho2 k2 hlk
  obtain ⟨⟨x0, x1, x2, x3, x4, x5⟩, f0, f1, f2, f3, f4, f5⟩ := B2.out
  unfold valE
  go_wp2
  have hb := B2.out.set ao2 cap2 d
  refine bodyPost_ret (results_box2 rfl rfl (load_def hb.bx)) rfl ?_
  have hk := kept_setD w2 w.heap.size ao2 cap2 d
  refine ⟨ao2, cap2, rfl, owns_lies (owns_kept HO.out hk (fun k hk e => by have := (owns_lt HO.out k hk).1; simp at this; omega)), kept_setD' K2.out (Nat.le_refl _)⟩

theorem sget_has {w : World} {v : Value} {l : List DD} (h : Sn w v l) {d : DD} (hd : d ∈ l) (hk : (keyD d).length ≤ maxLen) :
    Calls Tryz.prog 27 #[v, .string (bs (keyD d))] w (GtPost w d true) := by
  obtain ⟨p, m, hp, ht, rfl⟩ := h
  obtain ⟨⟨d', ao, cap⟩, hm, rfl⟩ := List.mem_map.1 hd
  exact sget_at hp _ _ ao cap true _ (ht.lies _ hm).1 (len8_right (ht.right _ hm)) (fun wx hkx => ((ht.keep hkx).look hm hk).1)

theorem sget_no {w : World} {v : Value} {l : List DD} (h : Sn w v l) {key : List UInt8} (hn : ∀ d ∈ l, keyD d ≠ key) (hk : key.length ≤ maxLen) :
    Calls Tryz.prog 27 #[v, .string (bs key)] w (GtPost w zeroD false) := by
  obtain ⟨p, m, hp, ht, rfl⟩ := h
  exact sget_at hp key zeroD none 0 false 0 (fun h => (h rfl).elim) ⟨Nat.zero_le _, Nat.zero_le _, Nat.zero_le _, Nat.zero_le _, Nat.zero_le _, fun x hx => absurd hx List.not_mem_nil⟩ (fun wx hkx => (ht.keep hkx).look_no (hasK_no.2 fun x hx e => hn x.1 (List.mem_map_of_mem hx) e) hk)

/-- The reference's Rest as a number. -/
def restN (a : Int) (n : Nat) : Nat := ((wrap64 (a.tmod n + n)).tmod n).toNat

theorem restN_lt (a : Int) (n : Nat) (h1 : 1 ≤ n) (h2 : n ≤ 2147483647) : restN a n < n := rest_lt a n h1 h2

set_option maxHeartbeats 400000 in
theorem rest_is (a : Int) (n : Nat) (w : World) (h1 : 1 ≤ n) (h2 : n ≤ 2147483647) :
    Calls Tryz.prog 26 #[.int .i64 a, .int .i64 n] w fun e w' => e = .returned (.int .i64 (restN a n)) ∧ w = w' := by
  go_enter Tryz.func26, Tryz.ntmps26
  go_wp2
  go_ret
  exact ⟨congrArg (fun x : Int => Ending.returned (.int .i64 x)) (rest_eq a n h1 h2), rfl⟩

/-- A list from its r-th one on, and round. -/
def rot {α : Type} (l : List α) (r : Nat) : List α := l.drop r ++ l.take r

theorem rot_perm {α : Type} (l : List α) (r : Nat) : l.Perm (rot l r) := by
  have h : (l.take r ++ l.drop r).Perm (rot l r) := List.perm_append_comm
  rwa [List.take_append_drop] at h

theorem rot_len {α : Type} (l : List α) (r : Nat) : (rot l r).length = l.length := (rot_perm l r).length_eq.symm

theorem rot_get {α : Type} (l : List α) (r j : Nat) (hr : r < l.length) (hj : j < l.length) : (rot l r)[j]'(by rw [rot_len]; exact hj) = l[(j + r) % l.length]'(Nat.mod_lt _ (by omega)) := by
  unfold rot
  by_cases h : j < l.length - r
  · rw [List.getElem_append_left (by rw [List.length_drop]; exact h), List.getElem_drop]
    congr 1
    rw [Nat.mod_eq_of_lt (by omega), Nat.add_comm]
  · rw [List.getElem_append_right (by rw [List.length_drop]; omega), List.getElem_take]
    congr 1
    rw [List.length_drop, Nat.mod_eq_sub_mod (by omega), Nat.mod_eq_of_lt (by omega)]
    omega

theorem octs_take (es : List Ent) (j : Nat) (h : j < es.length) : octsL (dds (es.take (j + 1))) = octsL (dds (es.take j)) ++ octD es[j].1 := by
  rw [← octsL_snoc]
  congr 1
  unfold dds
  rw [List.take_add_one, List.getElem?_eq_getElem h, Option.toList_some, List.map_append]
  rfl

set_option maxHeartbeats 1000000 in
set_option maxRecDepth 100000 in
theorem rwrite_any (la : Option Addr) (lc : Nat) (es : List Ent) (w : World) (hD : Rl w la es) (hr : ∀ e ∈ es, rightD e.1 = true) (hn : es.length ≤ 500) :
    Calls Tryz.prog 31 #[.slice la es.length lc] w fun e w' => e = .returned (.string (bs (octS (dds es)))) ∧ Kept (fun _ => False) w w' := by
  have HD := Lib.hid hD; have HR := Lib.hid hr
  clear hD hr
  have HN := Lib.hid (fun (wx : World) => rnum_ok es.length wx (by omega))
  go_enter Tryz.func31, Tryz.ntmps31
  go_wp2_with fail
  refine (HN.out _).mono ?_
  rintro e w0 ⟨rfl, b0⟩
  have K0 := Lib.hid (show Kept (fun _ => False) w w0 from (Kept.of_below b0).mono (fun k hk h => by omega)); clear b0
  go_wp2
  go_loopg [3, 5] es.length (fun k s c wr => ∃ j, k = es.length - j ∧ j ≤ es.length ∧ c = .int .i64 (j : Int) ∧ s = .string (bs (bigB 4 es.length ++ octsL (dds (es.take j)))) ∧ Kept (fun _ => False) w wr)
  case atStart => exact ⟨0, rfl, Nat.zero_le _, rfl, by simp [dds, octsL], K0.out⟩
  case round =>
    obtain ⟨j, hk, hj, rfl, rfl, hw⟩ := hrel
    have HK := Lib.hid hk; have HW := Lib.hid hw
    clear hk hw
    by_cases hlt : j < es.length
    · obtain ⟨xb, xo, rfl, hxb, hc⟩ := HD.out.ds.row (by intro h; rw [h] at hlt; simp at hlt)
      obtain ⟨c0, c1, c2, c3, c4, c5⟩ := (hc j hlt).kept HW.out (fun h => h)
      have hmem := List.getElem_mem hlt
      have HRT := Lib.hid (HR.out es[j] hmem)
      have HLI := Lib.hid (HD.out.ds.lies es[j] hmem)
      have HTK := Lib.hid (octs_take es j hlt)
      have HOL := Lib.hid (show (octsL (dds (es.take j))).length ≤ 10000 * 500 from Nat.le_trans (octsL_len _ (fun d hd => by
        obtain ⟨e, he, rfl⟩ := List.mem_map.1 hd
        exact right_small (HR.out e (List.mem_of_mem_take he)))) (Nat.mul_le_mul_left _ (by rw [dds_len, List.length_take]; omega)))
      have i1 : (j : Int) < (es.length : Int) := by omega
      clear hc hmem
      generalize es[j] = x at *
      obtain ⟨d, ao, cap⟩ := x
      dsimp only at c0 c1 c2 c3 c4 c5 HRT HLI HTK
      have HOC := Lib.hid (roctets_any d ao cap wr ((HLI.out.1.kept HW.out (fun _ _ _ h => h)).mono HW.out.size) (right_small HRT.out) HRT.out)
      have HDL := Lib.hid (octD_len d (right_small HRT.out))
      generalize octD d = od at *
      generalize octsL (dds (es.take j)) = ol at *
      have y1 : (bs od).size ≤ 10000 := by rw [bs_size]; exact HDL.out
      have y2 : (bs (bigB 4 es.length ++ ol)).size ≤ 10000000 := by rw [bs_size, List.length_append, bigB_length]; have := HOL.out; omega
      have HQ := Lib.hid (bs_append (bigB 4 es.length ++ ol) od)
      generalize hB : bs (bigB 4 es.length ++ ol) = B at *
      have HB := Lib.hid hB; clear hB
      go_wp2_with fail
      refine HOC.out.mono ?_
      rintro e w1 ⟨rfl, b1⟩
      have K1 := Lib.hid (HW.out.trans (Kept.of_below b1) (fun k hk h => by have := HW.out.size; omega)); clear b1
      go_wp2
      go_roundg (es.length - (j + 1))
      case measure => have := HK.out; omega
      case rel => exact ⟨j + 1, rfl, by omega, by go_num, by rw [HQ.out, HTK.out, List.append_assoc], K1.out⟩
    · obtain rfl : j = es.length := by omega
      rw [List.take_length]
      have HE := Lib.hid (show bigB 4 es.length ++ octsL (dds es) = octS (dds es) by unfold octS; rw [dds_len])
      clear hlt
      go_wp2
      go_ret
      exact ⟨by rw [← HE.out]; rfl, HW.out⟩

end Go.Proofs.YtecjecdgjmipcaaGreat
