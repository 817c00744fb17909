/-
  Lemmas towards the claim of this folder: contracts of the functions that the law reaches; joined texts.
-/
import Derived.Test.YtofpnlmlenffnaaDoorGDc12
/-
  CONTRACTS of package scan: the token at a text's head: a number, a word, a symbol.
-/
namespace Go.Proofs.YtofpnlmlenffnaaDoor
open Go.RowKit Go.Mk

/-- What a call answers that hands out the token at a text's head and how long it is. -/
def FsP (w : World) (r : Option (Int × List UInt8 × Int × Nat)) (e : Ending) (w' : World) : Prop :=
  Kept (fun _ => False) w w' ∧ ((r = none ∧ ∃ t, e = .returned (.tuple #[valT t, .int .i64 0])) ∨ ∃ k x n m, r = some (k, x, n, m) ∧ e = .returned (.tuple #[valT ⟨k, x, n, 0⟩, .int .i64 ((m : Nat) : Int)]))

set_option maxHeartbeats 2000000 in
set_option maxRecDepth 100000 in
theorem snum_any (l : List UInt8) (w : World) (hl : l.length ≤ 1000000) (hd : 1 ≤ digLen l) :
    Calls Tryd.prog 36 #[.string (bs l)] w (FsP w (if 9 < digLen l then none else some (4, [], numL (l.take (digLen l)), digLen l))) := by
  have hs : (bs l).size = l.length := bs_size l
  have B0 := Lib.hid (rb12_new w)
  have HR := Lib.hid (fun wx => rund_any l wx hl)
  have hdl := dig_le l
  have hx : (bs l).extract 0 (digLen l) = bs (l.take (digLen l)) := by rw [bs_extract, List.drop_zero]
  have HA := Lib.hid (fun (h : digLen l ≤ 9) wx => satoi_any (l.take (digLen l)) wx (by
    intro e
    have := congrArg List.length e
    rw [List.length_take, List.length_nil] at this
    omega) (dig_all l) (by rw [List.length_take]; omega))
  by_cases h9 : 9 < digLen l
  · rw [if_pos h9]
    have h9i : (9 : Int) < (digLen l : Int) := by omega
    generalize digLen l = D at *
    clear hx HA
    go_enter Tryd.func36, Tryd.ntmps36
    go_wp2_with fail
    refine (HR.out _).mono ?_
    rintro e w1 ⟨rfl, rfl⟩
    obtain ⟨w0, hw0⟩ : ∃ w0, w.alloc (.cells #[.int .i64 0, .string ⟨#[]⟩, .int .i64 0, .int .i64 0] 35) = w0 := ⟨_, rfl⟩
    rw [hw0] at B0 ⊢
    obtain ⟨c0, c1, c2, c3, f0, f1, f2, f3⟩ := B0.out.box
    clear hw0
    go_wp2
    refine bodyPost_ret (results_box2 rfl rfl (load_tk (B0.out.box.set zeroT))) rfl ?_
    exact ⟨B0.out.fin zeroT, .inl ⟨rfl, zeroT, rfl⟩⟩
  · rw [if_neg h9]
    have h9i : ¬ (9 : Int) < (digLen l : Int) := by omega
    have HA2 := Lib.hid (HA.out (by omega))
    clear HA
    generalize numL (l.take (digLen l)) = N at *
    generalize l.take (digLen l) = dl at *
    generalize digLen l = D at *
    go_enter Tryd.func36, Tryd.ntmps36
    go_wp2_with fail
    refine (HR.out _).mono ?_
    rintro e w1 ⟨rfl, rfl⟩
    obtain ⟨w0, hw0⟩ : ∃ w0, w.alloc (.cells #[.int .i64 0, .string ⟨#[]⟩, .int .i64 0, .int .i64 0] 35) = w0 := ⟨_, rfl⟩
    rw [hw0] at B0 ⊢
    clear hw0
    go_wp2_with fail
    refine (HA2.out _).mono ?_
    rintro e w1 ⟨rfl, k1⟩
    have B1 := Lib.hid (B0.out.keep k1)
    obtain ⟨c0, c1, c2, c3, f0, f1, f2, f3⟩ := B1.out.box
    clear k1 B0
    go_wp2
    refine bodyPost_ret (results_box2 rfl rfl (load_tk (B1.out.box.set ⟨4, [], N, 0⟩))) rfl ?_
    exact ⟨B1.out.fin ⟨4, [], N, 0⟩, .inr ⟨4, [], N, D, rfl, rfl⟩⟩

set_option maxHeartbeats 2000000 in
set_option maxRecDepth 100000 in
theorem ssym_any (l : List UInt8) (w : World) (hl : l.length ≤ 1000000) (h1 : 1 ≤ l.length) :
    Calls Tryd.prog 40 #[.string (bs l)] w (FsP w (if selTo (l.drop 1) (min (l.drop 1).length 498) = 0 then none else some (6, (l.drop 1).take (selTo (l.drop 1) (min (l.drop 1).length 498)), 0, selTo (l.drop 1) (min (l.drop 1).length 498) + 1))) := by
  have hs : (bs l).size = l.length := bs_size l
  have B0 := Lib.hid (rb12_new w)
  have HS := Lib.hid (fun wx => ssel_any (l.drop 1) wx (by rw [List.length_drop]; omega))
  have hsl := selTo_le (l.drop 1) (min (l.drop 1).length 498)
  rw [show (l.drop 1).length = l.length - 1 from List.length_drop] at hsl
  have hx1 : (bs l).extract 1 l.length = bs (l.drop 1) := by rw [bs_extract, List.take_length]
  have hx2 := fun S => bs_extract l 1 (S + 1)
  have hx3 := fun S => take_cut l 1 S
  have hrl : (l.drop 1).length = l.length - 1 := List.length_drop
  obtain ⟨r, hr⟩ : ∃ r, l.drop 1 = r := ⟨_, rfl⟩
  rw [hr] at HS hx1 hrl hsl ⊢
  simp only [hr] at hx3
  rw [hrl] at HS ⊢
  obtain ⟨S, hS⟩ : ∃ S, selTo r (min (l.length - 1) 498) = S := ⟨_, rfl⟩
  rw [hS] at HS hsl ⊢
  have hsl2 : S + 1 ≤ l.length := by omega
  have hx2 : (bs l).extract 1 (S + 1) = bs (r.take S) := by rw [hx2, hx3, Nat.add_comm]
  have HT := Lib.hid (fun wx => stoken_any 6 (r.take S) wx (by rw [List.length_take]; omega))
  clear hS hsl hx3 hr hrl
  by_cases h0 : S = 0
  · rw [if_pos h0]
    subst h0
    clear hx2 HT
    go_enter Tryd.func40, Tryd.ntmps40
    go_wp2_with fail
    obtain ⟨w0, hw0⟩ : ∃ w0, w.alloc (.cells #[.int .i64 0, .string ⟨#[]⟩, .int .i64 0, .int .i64 0] 35) = w0 := ⟨_, rfl⟩
    rw [hw0] at B0 ⊢
    clear hw0
    refine (HS.out _).mono ?_
    rintro e w1 ⟨rfl, k1⟩
    have B1 := Lib.hid (B0.out.keep k1)
    obtain ⟨c0, c1, c2, c3, f0, f1, f2, f3⟩ := B1.out.box
    clear k1 B0
    go_wp2
    refine bodyPost_ret (results_box2 rfl rfl (load_tk (B1.out.box.set zeroT))) rfl ?_
    exact ⟨B1.out.fin zeroT, .inl ⟨rfl, zeroT, rfl⟩⟩
  · rw [if_neg h0]
    have h0i : ((S : Int) == 0) = false := by
      rw [beq_eq_false_iff_ne]
      omega
    have hcm : (1 : Int) + (S : Int) = ((S + 1 : Nat) : Int) := by omega
    obtain ⟨E, hE⟩ : ∃ E, S + 1 = E := ⟨_, rfl⟩
    rw [hE] at hx2 hcm hsl2 ⊢
    have hE1 : 1 ≤ E := by omega
    clear h0
    generalize r.take S = x at *
    go_enter Tryd.func40, Tryd.ntmps40
    go_wp2_with fail
    obtain ⟨w0, hw0⟩ : ∃ w0, w.alloc (.cells #[.int .i64 0, .string ⟨#[]⟩, .int .i64 0, .int .i64 0] 35) = w0 := ⟨_, rfl⟩
    rw [hw0] at B0 ⊢
    clear hw0 hE
    refine (HS.out _).mono ?_
    rintro e w1 ⟨rfl, k1⟩
    have B1 := Lib.hid (B0.out.keep k1)
    clear k1 B0
    go_wp2_with fail
    refine (HT.out _).mono ?_
    rintro e w2 ⟨rfl, k2⟩
    have B2 := Lib.hid (B1.out.keep k2)
    obtain ⟨c0, c1, c2, c3, f0, f1, f2, f3⟩ := B2.out.box
    clear k2 B1
    unfold valT
    go_wp2
    refine bodyPost_ret (results_box2 rfl rfl (load_tk (B2.out.box.set ⟨6, x, 0, 0⟩))) rfl ?_
    exact ⟨B2.out.fin ⟨6, x, 0, 0⟩, .inr ⟨6, x, 0, E, rfl, rfl⟩⟩

end Go.Proofs.YtofpnlmlenffnaaDoor

/-
  CONTRACTS of package scan: the token at a text's head: a name or a keyword.
-/
namespace Go.Mk

theorem nm_word {l : List UInt8} (hl : lett (l.headD 0) = true) : isNm (l.take (wordLen l)) = decide (wordLen l ≤ 40) := by
  have hw : 1 ≤ wordLen l := by
    cases l with
    | nil => exact absurd hl (by decide)
    | cons c r => rw [word_pos (c := c) (r := r) hl]; omega
  have h1 := word_le l
  have h2 : (l.take (wordLen l)).all aln = true := by
    rw [List.all_eq_true]
    intro b hb
    rw [wordLen, take_while] at hb
    rw [← wordB_aln]
    exact List.all_eq_true.1 List.all_takeWhile _ hb
  unfold isNm lenIn
  rw [h2, headD_take l _ hw, hl, List.length_take, Nat.min_eq_left h1, decide_eq_true hw]
  simp

theorem pre_one (l : List UInt8) (W : Nat) : decide ((l.drop W).take 1 = [58]) = decide (l[W]? = some 58) := by
  rw [decide_eq_decide]
  by_cases h : W < l.length
  · rw [drop_cons l W h, List.getElem?_eq_getElem h]
    simp only [List.take_succ_cons, List.take_zero, List.cons.injEq, and_true, Option.some.injEq]
  · rw [List.drop_of_length_le (by omega), List.getElem?_eq_none (by omega)]
    simp

theorem pre_two (l : List UInt8) (W : Nat) : decide ((l.drop W).take 2 = [58, 61]) = decide (l[W]? = some 58 ∧ l[W + 1]? = some 61) := by
  rw [decide_eq_decide]
  by_cases h : W < l.length
  · rw [drop_cons l W h, List.getElem?_eq_getElem h]
    by_cases h2 : W + 1 < l.length
    · rw [drop_cons l (W + 1) h2, List.getElem?_eq_getElem h2]
      simp only [List.take_succ_cons, List.take_zero, List.cons.injEq, and_true, Option.some.injEq]
    · rw [List.drop_of_length_le (by omega), List.getElem?_eq_none (by omega)]
      simp
  · rw [List.drop_of_length_le (by omega), List.getElem?_eq_none (by omega)]
    simp

theorem tok_word {l : List UInt8} (hl : lett (l.headD 0) = true) : tokL l =
    if 40 < wordLen l then none
    else if l[wordLen l]? = some 58 ∧ l[wordLen l + 1]? ≠ some 61 then some (2, l.take (wordLen l + 1), 0, wordLen l + 1)
    else some (1, l.take (wordLen l), 0, wordLen l) := by
  cases l with
  | nil => exact absurd hl (by decide)
  | cons c r =>
    have h := tok_let (l := c :: r) (a := 0) (by simp) hl
    rw [List.drop_zero, Nat.zero_add, List.drop_zero, List.drop_zero] at h
    exact h

end Go.Mk
namespace Go.Proofs.YtofpnlmlenffnaaDoor
open Go.RowKit Go.Mk

set_option maxHeartbeats 4000000 in
set_option maxRecDepth 100000 in
theorem sword_any (l : List UInt8) (w : World) (hl : l.length ≤ 1000000) (hlt : lett (l.headD 0) = true) :
    Calls Tryd.prog 38 #[.string (bs l)] w (FsP w (tokL l)) := by
  rw [tok_word hlt]
  have hs : (bs l).size = l.length := bs_size l
  have B0 := Lib.hid (rb12_new w)
  have HR := Lib.hid (fun wx => runw_any l wx hl)
  have hwl := word_le l
  have hnm := nm_word hlt
  have HI := Lib.hid (fun wx => nis_any (l.take (wordLen l)) wx)
  rw [hnm] at HI
  have hx : (bs l).extract 0 (wordLen l) = bs (l.take (wordLen l)) := by rw [bs_extract, List.drop_zero]
  clear hnm hlt
  generalize wordLen l = W at *
  have hx2 : (bs l).extract W l.length = bs (l.drop W) := by rw [bs_extract, List.take_length]
  have HP1 := Lib.hid (show ∀ wx, Calls Tryd.prog 41 #[.string (bs (l.drop W)), .string ⟨#[58]⟩] wx fun e w' => e = .returned (.bool (decide (l[W]? = some 58))) ∧ wx = w' from fun wx => by
    rw [← pre_one]
    exact spre_any (l.drop W) [58] wx (by rw [List.length_drop]; omega) (by decide))
  have HP2 := Lib.hid (show ∀ wx, Calls Tryd.prog 41 #[.string (bs (l.drop W)), .string ⟨#[58, 61]⟩] wx fun e w' => e = .returned (.bool (decide (l[W]? = some 58 ∧ l[W + 1]? = some 61))) ∧ wx = w' from fun wx => by
    rw [← pre_two]
    exact spre_any (l.drop W) [58, 61] wx (by rw [List.length_drop]; omega) (by decide))
  have HT1 := Lib.hid (fun wx => stoken_any 1 (l.take W) wx (by rw [List.length_take]; omega))
  have HT2 := Lib.hid (fun wx => stoken_any 2 (l.take (W + 1)) wx (by rw [List.length_take]; omega))
  have hx3 : (bs l).extract 0 (W + 1) = bs (l.take (W + 1)) := by rw [bs_extract, List.drop_zero]
  have hA : l[W]? = some 58 → W + 1 ≤ l.length := fun h => (List.getElem?_eq_some_iff.1 h).1
  generalize l[W + 1]? = ob at *
  generalize l[W]? = oa at *
  generalize l.drop W = r at *
  by_cases h40 : 40 < W
  · rw [if_pos h40]
    rw [decide_eq_false (by omega : ¬ W ≤ 40)] at HI
    clear hx2 hx3 HP1 HP2 HT1 HT2 hA
    generalize l.take W = x at *
    go_enter Tryd.func38, Tryd.ntmps38
    go_wp2_with fail
    refine (HR.out _).mono ?_
    rintro e w1 ⟨rfl, rfl⟩
    obtain ⟨w0, hw0⟩ : ∃ w0, w.alloc (.cells #[.int .i64 0, .string ⟨#[]⟩, .int .i64 0, .int .i64 0] 35) = w0 := ⟨_, rfl⟩
    rw [hw0] at B0 ⊢
    clear hw0
    go_wp2_with fail
    refine (HI.out _).mono ?_
    rintro e w1 ⟨rfl, k1⟩
    have B1 := Lib.hid (B0.out.keep k1)
    obtain ⟨c0, c1, c2, c3, f0, f1, f2, f3⟩ := B1.out.box
    clear k1 B0
    go_wp2
    refine bodyPost_ret (results_box2 rfl rfl (load_tk (B1.out.box.set zeroT))) rfl ?_
    exact ⟨B1.out.fin zeroT, .inl ⟨rfl, zeroT, rfl⟩⟩
  · rw [if_neg h40]
    rw [decide_eq_true (by omega : W ≤ 40)] at HI
    clear h40
    have step : ∀ {α : Type} (c : Prop) [Decidable c] (A B : α), c → (if c then A else B) = A := fun c _ A B h => if_pos h
    by_cases ha : oa = some 58
    · have hA1 := hA ha
      by_cases hb : ob = some 61
      · rw [if_neg (fun h => h.2 hb)]
        rw [decide_eq_true ha] at HP1
        rw [decide_eq_true (⟨ha, hb⟩ : oa = some 58 ∧ ob = some 61)] at HP2
        clear hx3 HT2 hA ha hb
        generalize l.take W = x at *
        go_enter Tryd.func38, Tryd.ntmps38
        go_wp2_with fail
        refine (HR.out _).mono ?_
        rintro e w1 ⟨rfl, rfl⟩
        obtain ⟨w0, hw0⟩ : ∃ w0, w.alloc (.cells #[.int .i64 0, .string ⟨#[]⟩, .int .i64 0, .int .i64 0] 35) = w0 := ⟨_, rfl⟩
        rw [hw0] at B0 ⊢
        clear hw0
        go_wp2_with fail
        refine (HI.out _).mono ?_
        rintro e w1 ⟨rfl, k1⟩
        have B1 := Lib.hid (B0.out.keep k1)
        clear k1 B0
        go_wp2_with fail
        refine (HP1.out _).mono ?_
        rintro e w2 ⟨rfl, rfl⟩
        go_wp2_with fail
        refine (HP2.out _).mono ?_
        rintro e w2 ⟨rfl, rfl⟩
        go_wp2_with fail
        refine (HT1.out _).mono ?_
        rintro e w2 ⟨rfl, k2⟩
        have B2 := Lib.hid (B1.out.keep k2)
        obtain ⟨c0, c1, c2, c3, f0, f1, f2, f3⟩ := B2.out.box
        clear k2 B1
        unfold valT
        go_wp2
        refine bodyPost_ret (results_box2 rfl rfl (load_tk (B2.out.box.set ⟨1, x, 0, 0⟩))) rfl ?_
        exact ⟨B2.out.fin ⟨1, x, 0, 0⟩, .inr ⟨1, x, 0, W, rfl, rfl⟩⟩
      · rw [if_pos ⟨ha, hb⟩]
        rw [decide_eq_true ha] at HP1
        rw [decide_eq_false (fun h : oa = some 58 ∧ ob = some 61 => hb h.2)] at HP2
        have hcm : (W : Int) + 1 = ((W + 1 : Nat) : Int) := by omega
        obtain ⟨E, hE⟩ : ∃ E, W + 1 = E := ⟨_, rfl⟩
        rw [hE] at hx3 hcm hA1 HT2 ⊢
        have HE := Lib.hid hE
        clear HT1 hA ha hb hE
        generalize l.take W = x at *
        generalize l.take E = y at *
        go_enter Tryd.func38, Tryd.ntmps38
        go_wp2_with fail
        refine (HR.out _).mono ?_
        rintro e w1 ⟨rfl, rfl⟩
        obtain ⟨w0, hw0⟩ : ∃ w0, w.alloc (.cells #[.int .i64 0, .string ⟨#[]⟩, .int .i64 0, .int .i64 0] 35) = w0 := ⟨_, rfl⟩
        rw [hw0] at B0 ⊢
        clear hw0
        go_wp2_with fail
        refine (HI.out _).mono ?_
        rintro e w1 ⟨rfl, k1⟩
        have B1 := Lib.hid (B0.out.keep k1)
        clear k1 B0
        go_wp2_with fail
        refine (HP1.out _).mono ?_
        rintro e w2 ⟨rfl, rfl⟩
        go_wp2_with fail
        refine (HP2.out _).mono ?_
        rintro e w2 ⟨rfl, rfl⟩
        go_wp2_with fail
        refine (HT2.out _).mono ?_
        rintro e w2 ⟨rfl, k2⟩
        have B2 := Lib.hid (B1.out.keep k2)
        obtain ⟨c0, c1, c2, c3, f0, f1, f2, f3⟩ := B2.out.box
        clear k2 B1
        unfold valT
        go_wp2
        refine bodyPost_ret (results_box2 rfl rfl (load_tk (B2.out.box.set ⟨2, y, 0, 0⟩))) rfl ?_
        exact ⟨B2.out.fin ⟨2, y, 0, 0⟩, .inr ⟨2, y, 0, E, rfl, rfl⟩⟩
    · rw [if_neg (fun h => ha h.1)]
      rw [decide_eq_false ha] at HP1
      clear hx3 HT2 hA HP2 ha
      generalize l.take W = x at *
      go_enter Tryd.func38, Tryd.ntmps38
      go_wp2_with fail
      refine (HR.out _).mono ?_
      rintro e w1 ⟨rfl, rfl⟩
      obtain ⟨w0, hw0⟩ : ∃ w0, w.alloc (.cells #[.int .i64 0, .string ⟨#[]⟩, .int .i64 0, .int .i64 0] 35) = w0 := ⟨_, rfl⟩
      rw [hw0] at B0 ⊢
      clear hw0
      go_wp2_with fail
      refine (HI.out _).mono ?_
      rintro e w1 ⟨rfl, k1⟩
      have B1 := Lib.hid (B0.out.keep k1)
      clear k1 B0
      go_wp2_with fail
      refine (HP1.out _).mono ?_
      rintro e w2 ⟨rfl, rfl⟩
      go_wp2_with fail
      refine (HT1.out _).mono ?_
      rintro e w2 ⟨rfl, k2⟩
      have B2 := Lib.hid (B1.out.keep k2)
      obtain ⟨c0, c1, c2, c3, f0, f1, f2, f3⟩ := B2.out.box
      clear k2 B1
      unfold valT
      go_wp2
      refine bodyPost_ret (results_box2 rfl rfl (load_tk (B2.out.box.set ⟨1, x, 0, 0⟩))) rfl ?_
      exact ⟨B2.out.fin ⟨1, x, 0, 0⟩, .inr ⟨1, x, 0, W, rfl, rfl⟩⟩

end Go.Proofs.YtofpnlmlenffnaaDoor
