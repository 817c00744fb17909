/-
  Lemmas towards the claim of this folder: contracts of the functions that the law reaches; joined texts.
-/
import Derived.Test.YtofpnlmlenffnaaDoorGTk12
import Derived.Test.YtofpnlmlenffnaaDoorR6d
import Derived.Test.YtofpnlmlenffnaaDoorGPz9
/-
  The reference of layer 12: letter, digit, word, whole.
-/
namespace Go.Proofs.YtofpnlmlenffnaaDoor
open Go.RowKit Go.Mk

set_option maxHeartbeats 400000 in
theorem r12let_any (c : Int) (w : World) : Calls Tryd.prog 21 #[.int .u8 c] w fun e w' => e = .returned (.bool (ltrI c)) ∧ w = w' := by
  unfold ltrI lowI uppI
  by_cases h1 : 97 ≤ c <;> by_cases h2 : c ≤ 122 <;> by_cases h3 : 65 ≤ c <;> by_cases h4 : c ≤ 90
  all_goals
    go_enter Tryd.func21, Tryd.ntmps21
    go_wp2
    go_ret
    exact ⟨by simp [h1, h2, h3, h4], rfl⟩

set_option maxHeartbeats 400000 in
theorem r12dig_any (c : Int) (w : World) : Calls Tryd.prog 23 #[.int .u8 c] w fun e w' => e = .returned (.bool (digI c)) ∧ w = w' := by
  unfold digI
  by_cases h1 : 48 ≤ c <;> by_cases h2 : c ≤ 57
  all_goals
    go_enter Tryd.func23, Tryd.ntmps23
    go_wp2
    go_ret
    exact ⟨by simp [h1, h2], rfl⟩

theorem lett_I (b : UInt8) : lett b = ltrI (b.toNat : Int) := rfl
theorem digB_I (b : UInt8) : digB b = digI (b.toNat : Int) := rfl

theorem drop_len' (l : List UInt8) (a : Nat) : (l.drop a).length = l.length - a := List.length_drop
theorem drop_at (l : List UInt8) (a n : Nat) (h : a + n < l.length) (h' : n < (l.drop a).length) : (l.drop a)[n] = l[a + n] := List.getElem_drop

set_option maxHeartbeats 2000000 in
set_option maxRecDepth 100000 in
theorem r12word_any (l : List UInt8) (a : Nat) (w : World) (ha : a < l.length) (hc : lett (l[a]'ha) = true) (hl : l.length ≤ 1000000) :
    Calls Tryd.prog 22 #[.string (bs l), .int .i64 (a : Int)] w fun e w' => e = .returned (.int .i64 (((a + wordLen (l.drop a) : Nat)) : Int)) ∧ w = w' := by
  have hs : (bs l).size = l.length := bs_size l
  have HC := Lib.hid hc; clear hc
  generalize hE : a + wordLen (l.drop a) = E
  have HE := Lib.hid hE; clear hE
  go_enter Tryd.func22, Tryd.ntmps22
  go_wp2
  go_loopg [5] (l.length - a) (fun k v wr => ∃ n m : Nat, m = a + n ∧ k = l.length - m ∧ v = .int .i64 (m : Int) ∧ m ≤ l.length ∧ n ≤ wordLen (l.drop a) ∧ w = wr)
  case atStart => exact ⟨0, a, rfl, rfl, rfl, Nat.le_of_lt ha, Nat.zero_le _, rfl⟩
  case round =>
    obtain ⟨n, m, hm, hk, rfl, hml, hn, rfl⟩ := hrel
    have HM := Lib.hid hm; have HK := Lib.hid hk; have HN := Lib.hid hn
    clear hm hk hn
    by_cases hlt : m < l.length
    · have hlt1 : (m : Int) < ((bs l).size : Int) := by omega
      have hgj : ∀ h : m < (bs l).size, (((bs l)[m]'h).toNat : Int) = ((l[m]'hlt).toNat : Int) := fun h => by rw [bs_get l m hlt]
      have hdl : n < (l.drop a).length := by rw [drop_len']; have := HM.out; omega
      have hda : (l.drop a)[n] = l[m]'hlt := by rw [List.getElem_drop]; congr 1; exact HM.out.symm
      have hstep : wordB (l[m]'hlt) = true → n + 1 ≤ wordLen (l.drop a) := fun h => tw_step _ n HN.out hdl (by rw [hda]; exact h)
      have hstop : wordB (l[m]'hlt) = false → E = m := fun h => by
        have := tw_stop (p := wordB) (l.drop a) n HN.out (fun _ => by rw [hda]; exact h)
        rw [← HE.out]
        unfold wordLen
        rw [this]
        exact HM.out.symm
      have hw : wordB (l[m]'hlt) = (ltrI ((l[m]'hlt).toNat : Int) || digI ((l[m]'hlt).toNat : Int)) := rfl
      have h0 : m = a → ltrI ((l[m]'hlt).toNat : Int) = true := fun e => by subst e; exact HC.out
      have HST := Lib.hid hstep; have HSP := Lib.hid hstop; have HW := Lib.hid hw; have H0 := Lib.hid h0
      clear hstep hstop hw hdl hda h0
      generalize wordB (l[m]'hlt) = r at *
      have HL := Lib.hid (r12let_any ((l[m]'hlt).toNat : Int))
      have HD := Lib.hid (r12dig_any ((l[m]'hlt).toNat : Int))
      generalize ((l[m]'hlt).toNat : Int) = x at *
      cases hlx : ltrI x with
      | true =>
        rw [hlx] at HL HW
        have R := Lib.hid (HST.out (by rw [HW.out]; rfl))
        clear hlx
        go_wp2_with fail
        refine (HL.out _).mono ?_
        rintro e w1 ⟨rfl, rfl⟩
        go_wp2
        go_roundg (l.length - (m + 1))
        case measure => have := HK.out; omega
        case rel => exact ⟨n + 1, m + 1, by have := HM.out; omega, rfl, by go_num, by omega, R.out, rfl⟩
      | false =>
        have hma : ¬ m = a := fun e => by have := H0.out e; rw [hlx] at this; cases this
        have hgt : (a : Int) < (m : Int) := by have := HM.out; omega
        rw [hlx] at HL HW
        cases hdx : digI x with
        | true =>
          rw [hdx] at HD HW
          have R := Lib.hid (HST.out (by rw [HW.out]; rfl))
          clear hlx hdx hma
          go_wp2_with fail
          refine (HL.out _).mono ?_
          rintro e w1 ⟨rfl, rfl⟩
          go_wp2_with fail
          refine (HD.out _).mono ?_
          rintro e w1 ⟨rfl, rfl⟩
          go_wp2
          go_roundg (l.length - (m + 1))
          case measure => have := HK.out; omega
          case rel => exact ⟨n + 1, m + 1, by have := HM.out; omega, rfl, by go_num, by omega, R.out, rfl⟩
        | false =>
          rw [hdx] at HD HW
          have R := Lib.hid (HSP.out (by rw [HW.out]; rfl))
          clear hlx hdx hma
          go_wp2_with fail
          refine (HL.out _).mono ?_
          rintro e w1 ⟨rfl, rfl⟩
          go_wp2_with fail
          refine (HD.out _).mono ?_
          rintro e w1 ⟨rfl, rfl⟩
          go_wp2
          go_ret
          exact ⟨by rw [R.out]; rfl, rfl⟩
    · have hge : ¬ (m : Int) < ((bs l).size : Int) := by omega
      have R := Lib.hid (show E = m by
        have := tw_stop (p := wordB) (l.drop a) n HN.out (fun h => by rw [drop_len'] at h; have := HM.out; omega)
        rw [← HE.out]
        unfold wordLen
        rw [this]
        exact HM.out.symm)
      go_wp2
      go_ret
      exact ⟨by rw [R.out]; rfl, rfl⟩

theorem getD_at (l : List UInt8) (j : Nat) (h : j < l.length) : l.getD j 0 = l[j] := by
  rw [List.getD_eq_getElem?_getD, List.getElem?_eq_getElem h]; rfl

set_option maxHeartbeats 2000000 in
set_option maxRecDepth 100000 in
theorem r12whole_any (l : List UInt8) (f j k : Nat) (w : World) (hk : f + j = k) (hj : 1 ≤ j) (hkl : k < l.length) (hl : l.length ≤ 1000000) :
    Calls Tryd.prog 25 #[.string (bs l), .int .i64 (f : Int), .int .i64 (k : Int)] w fun e w' => e = .returned (.bool (wholeL (l.drop f) j)) ∧ w = w' := by
  have hs : (bs l).size = l.length := bs_size l
  have hf : f < l.length := by omega
  have hk1 : k - 1 < l.length := by omega
  have e0 : (l.drop f).headD 0 = l[f]'hf := by
    rw [List.headD_eq_head?_getD, List.head?_drop, List.getElem?_eq_getElem (by omega)]; rfl
  have e1 : (l.drop f).getD (j - 1) 0 = l[k - 1]'hk1 := by
    rw [getD_at _ _ (by rw [drop_len']; omega), List.getElem_drop]
    congr 1
    omega
  have e2 : (l.drop f).getD j 0 = l[k]'hkl := by
    rw [getD_at _ _ (by rw [drop_len']; omega), List.getElem_drop]
    congr 1
  have hwl : wholeL (l.drop f) j = (!ltrI ((l[f]'hf).toNat : Int) || (decide (((l[k - 1]'hk1).toNat : Int) = 58)) || !(ltrI ((l[k]'hkl).toNat : Int) || digI ((l[k]'hkl).toNat : Int))) := by
    unfold wholeL
    rw [e0, e1, e2]
    congr 2
    rw [Bool.eq_iff_iff, beq_iff_eq, decide_eq_true_eq]
    constructor
    · intro h; rw [h]; rfl
    · intro h; exact UInt8.toNat_inj.1 (by have : (58 : UInt8).toNat = 58 := rfl; omega)
  rw [hwl]
  have hg0 : ∀ h : f < (bs l).size, (((bs l)[f]'h).toNat : Int) = ((l[f]'hf).toNat : Int) := fun h => by rw [bs_get l f (by omega)]
  have hg1 : ∀ h : k - 1 < (bs l).size, (((bs l)[k - 1]'h).toNat : Int) = ((l[k - 1]'hk1).toNat : Int) := fun h => by rw [bs_get l (k - 1) (by omega)]
  have hg2 : ∀ h : k < (bs l).size, (((bs l)[k]'h).toNat : Int) = ((l[k]'hkl).toNat : Int) := fun h => by rw [bs_get l k hkl]
  have i0 : (f : Int) < ((bs l).size : Int) := by omega
  have i1 : (k : Int) - 1 < ((bs l).size : Int) := by omega
  have i2 : (k : Int) < ((bs l).size : Int) := by omega
  have i3 : (0 : Int) ≤ (k : Int) - 1 := by omega
  have i4 : ((k : Int) - 1).toNat = k - 1 := by omega
  have HL0 := Lib.hid (r12let_any ((l[f]'hf).toNat : Int))
  have HL2 := Lib.hid (r12let_any ((l[k]'hkl).toNat : Int))
  have HD2 := Lib.hid (r12dig_any ((l[k]'hkl).toNat : Int))
  clear e0 e1 e2 hwl
  generalize ((l[f]'hf).toNat : Int) = x0 at *
  generalize ((l[k - 1]'hk1).toNat : Int) = x1 at *
  generalize ((l[k]'hkl).toNat : Int) = x2 at *
  cases h0 : ltrI x0 with
  | false =>
    rw [h0] at HL0
    clear h0
    go_enter Tryd.func25, Tryd.ntmps25
    go_wp2_with fail
    refine (HL0.out _).mono ?_
    rintro e w1 ⟨rfl, rfl⟩
    go_wp2
    go_ret
    exact ⟨by simp, rfl⟩
  | true =>
    rw [h0] at HL0
    clear h0
    by_cases h1 : x1 = 58
    · subst h1
      go_enter Tryd.func25, Tryd.ntmps25
      go_wp2_with fail
      refine (HL0.out _).mono ?_
      rintro e w1 ⟨rfl, rfl⟩
      go_wp2
      go_ret
      exact ⟨by simp, rfl⟩
    · have hx1 : (x1 == 58) = false := by simpa using h1
      cases h2 : ltrI x2 with
      | true =>
        rw [h2] at HL2
        clear h2
        go_enter Tryd.func25, Tryd.ntmps25
        go_wp2_with fail
        refine (HL0.out _).mono ?_
        rintro e w1 ⟨rfl, rfl⟩
        go_wp2_with fail
        refine (HL2.out _).mono ?_
        rintro e w1 ⟨rfl, rfl⟩
        go_wp2
        go_ret
        exact ⟨by simp [h1], rfl⟩
      | false =>
        rw [h2] at HL2
        clear h2
        generalize digI x2 = r at *
        go_enter Tryd.func25, Tryd.ntmps25
        go_wp2_with fail
        refine (HL0.out _).mono ?_
        rintro e w1 ⟨rfl, rfl⟩
        go_wp2_with fail
        refine (HL2.out _).mono ?_
        rintro e w1 ⟨rfl, rfl⟩
        go_wp2_with fail
        refine (HD2.out _).mono ?_
        rintro e w1 ⟨rfl, rfl⟩
        cases r
        all_goals go_wp2
        all_goals go_ret
        all_goals exact ⟨by simp [h1], rfl⟩

end Go.Proofs.YtofpnlmlenffnaaDoor

/-
  THE TOKEN AT A PLACE of a text (plain, over no program): case by case.
-/
namespace Go.Mk

theorem drop_cons (l : List UInt8) (a : Nat) (ha : a < l.length) : l.drop a = l[a] :: l.drop (a + 1) := List.drop_eq_getElem_cons ha

theorem take_cut (l : List UInt8) (a n : Nat) : (l.drop a).take n = (l.take (a + n)).drop a := by
  rw [List.drop_take, Nat.add_sub_cancel_left]

theorem ones_ne {c : UInt8} (h : ones.contains c = true) : lett c = false ∧ digB c = false ∧ c ≠ 39 ∧ c ≠ 35 := by
  rw [List.contains_iff_mem] at h
  simp only [ones, List.mem_cons, List.not_mem_nil, or_false] at h
  rcases h with rfl | rfl | rfl | rfl | rfl | rfl | rfl | rfl | rfl | rfl <;> decide

section
variable {l : List UInt8} {a : Nat} (ha : a < l.length)
include ha

theorem tok_let (hc : lett l[a] = true) : tokL (l.drop a) =
    if 40 < wordLen (l.drop a) then none
    else if l[a + wordLen (l.drop a)]? = some 58 ∧ l[a + wordLen (l.drop a) + 1]? ≠ some 61 then some (2, (l.take (a + wordLen (l.drop a) + 1)).drop a, 0, wordLen (l.drop a) + 1)
    else some (1, (l.take (a + wordLen (l.drop a))).drop a, 0, wordLen (l.drop a)) := by
  have hp : 1 ≤ wordLen (l.drop a) := by rw [drop_cons l a ha, word_pos hc]; omega
  have e1 : (l.drop (a + 1))[wordLen (l.drop a) - 1]? = l[a + wordLen (l.drop a)]? := by rw [List.getElem?_drop]; congr 1; omega
  have e2 : (l.drop (a + 1))[wordLen (l.drop a)]? = l[a + wordLen (l.drop a) + 1]? := by rw [List.getElem?_drop]; congr 1; omega
  have t1 := take_cut l a (wordLen (l.drop a) + 1)
  have t2 := take_cut l a (wordLen (l.drop a))
  rw [← Nat.add_assoc] at t1
  rw [← e1, ← e2, ← t1, ← t2]
  rw [drop_cons l a ha]
  simp only [tokL]
  rw [if_pos hc]

theorem tok_dig (hc : lett l[a] = false) (hd : digB l[a] = true) : tokL (l.drop a) =
    if 9 < digLen (l.drop a) then none else some (4, [], numL ((l.drop a).take (digLen (l.drop a))), digLen (l.drop a)) := by
  rw [drop_cons l a ha]
  simp only [tokL]
  rw [if_neg (by simp [hc]), if_pos hd]

theorem tok_str (hc : l[a] = 39) : tokL (l.drop a) = (strL (l.drop (a + 1))).map (fun p => (5, p.1, 0, p.2 + 1)) := by
  rw [drop_cons l a ha, hc]
  simp only [tokL]
  rw [if_neg (by decide), if_neg (by decide), if_pos trivial]

theorem tok_sym (hc : l[a] = 35) : tokL (l.drop a) =
    if selTo (l.drop (a + 1)) (min (l.drop (a + 1)).length 498) = 0 then none
    else some (6, (l.take (a + 1 + selTo (l.drop (a + 1)) (min (l.drop (a + 1)).length 498))).drop (a + 1), 0, selTo (l.drop (a + 1)) (min (l.drop (a + 1)).length 498) + 1) := by
  rw [← take_cut, drop_cons l a ha, hc]
  simp only [tokL]
  rw [if_neg (by decide), if_neg (by decide), if_neg (by decide), if_pos trivial]

theorem tok_asg (hc : l[a] = 58) (hd : l[a + 1]? = some 61) : tokL (l.drop a) = some (7, [58, 61], 0, 2) := by
  have e : (l.drop (a + 1)).head? = some 61 := by rw [List.head?_drop]; exact hd
  rw [drop_cons l a ha, hc]
  simp only [tokL]
  rw [if_neg (by decide), if_neg (by decide), if_neg (by decide), if_neg (by decide), if_pos ⟨trivial, e⟩]

theorem tok_one (ho : ones.contains l[a] = true) (hn : ¬ (l[a] = 58 ∧ l[a + 1]? = some 61)) : tokL (l.drop a) = some (7, [l[a]], 0, 1) := by
  obtain ⟨h1, h2, h3, h4⟩ := ones_ne ho
  have e : (l.drop (a + 1)).head? = l[a + 1]? := List.head?_drop
  rw [← e] at hn
  rw [drop_cons l a ha]
  simp only [tokL]
  rw [if_neg (by simp [h1]), if_neg (by simp [h2]), if_neg h3, if_neg h4, if_neg hn, if_pos ho]

theorem tok_no (h1 : lett l[a] = false) (h2 : digB l[a] = false) (h3 : l[a] ≠ 39) (h4 : l[a] ≠ 35) (ho : ones.contains l[a] = false) (hb : isBi [l[a]] = false) : tokL (l.drop a) = none := by
  have h58 : l[a] ≠ 58 := fun h => by rw [h] at ho; revert ho; decide
  rw [drop_cons l a ha]
  simp only [tokL]
  rw [if_neg (by simp [h1]), if_neg (by simp [h2]), if_neg h3, if_neg h4, if_neg (fun h => h58 h.1), if_neg (by rw [ho]; decide), if_pos hb]

theorem tok_bi (h1 : lett l[a] = false) (h2 : digB l[a] = false) (h3 : l[a] ≠ 39) (h4 : l[a] ≠ 35) (ho : ones.contains l[a] = false) (hb : isBi [l[a]] = true) (hn : ∀ h : a + 1 < l.length, isBi [l[a], l[a + 1]] = false) : tokL (l.drop a) = some (3, [l[a]], 0, 1) := by
  have h58 : l[a] ≠ 58 := fun h => by rw [h] at ho; revert ho; decide
  rw [drop_cons l a ha]
  simp only [tokL]
  rw [if_neg (by simp [h1]), if_neg (by simp [h2]), if_neg h3, if_neg h4, if_neg (fun h => h58 h.1), if_neg (by rw [ho]; decide), if_neg (by rw [hb]; decide)]
  by_cases hl : a + 1 < l.length
  · rw [drop_cons l (a + 1) hl]
    simp only
    rw [if_neg (by rw [hn hl]; decide)]
  · rw [List.drop_eq_nil_of_le (by omega)]

theorem tok_bi2 (h1 : lett l[a] = false) (h2 : digB l[a] = false) (h3 : l[a] ≠ 39) (h4 : l[a] ≠ 35) (ho : ones.contains l[a] = false) (hb : isBi [l[a]] = true) (hl : a + 1 < l.length) (hd : isBi [l[a], l[a + 1]] = true) : tokL (l.drop a) = some (3, [l[a], l[a + 1]], 0, 2) := by
  have h58 : l[a] ≠ 58 := fun h => by rw [h] at ho; revert ho; decide
  rw [drop_cons l a ha]
  simp only [tokL]
  rw [if_neg (by simp [h1]), if_neg (by simp [h2]), if_neg h3, if_neg h4, if_neg (fun h => h58 h.1), if_neg (by rw [ho]; decide), if_neg (by rw [hb]; decide)]
  rw [drop_cons l (a + 1) hl]
  simp only
  rw [if_pos hd]

end

end Go.Mk
