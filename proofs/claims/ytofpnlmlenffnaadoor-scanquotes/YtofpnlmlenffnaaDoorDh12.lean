/-
  CONTRACTS of package scan: first: the token at a text's head.
-/
import Derived.Test.YtofpnlmlenffnaaDoorDg12
namespace Go.Proofs.YtofpnlmlenffnaaDoor
open Go.RowKit Go.Mk

/-- What is handed out stands for the token: or there is none, and the length is 0. -/
def FsR (r : Option (Int × List UInt8 × Int × Nat)) (t : TK) (m : Int) : Prop := (r = none ∧ m = 0) ∨ ∃ k x n j, r = some (k, x, n, j) ∧ t = ⟨k, x, n, 0⟩ ∧ m = ((j : Nat) : Int)

theorem fsp_out {w : World} {r : Option (Int × List UInt8 × Int × Nat)} {e : Ending} {w' : World} (h : FsP w r e w') : ∃ t m, e = .returned (.tuple #[valT t, .int .i64 m]) ∧ Kept (fun _ => False) w w' ∧ FsR r t m := by
  obtain ⟨hk, ⟨hr, t, he⟩ | ⟨k, x, n, m, hr, he⟩⟩ := h
  · exact ⟨t, 0, he, hk, .inl ⟨hr, rfl⟩⟩
  · exact ⟨⟨k, x, n, 0⟩, m, he, hk, .inr ⟨k, x, n, m, hr, rfl, rfl⟩⟩

theorem fsp_in {w : World} {r : Option (Int × List UInt8 × Int × Nat)} {t : TK} {m : Int} {w' : World} (hr : FsR r t m) (hk : Kept (fun _ => False) w w') : FsP w r (.returned (.tuple #[valT t, .int .i64 m])) w' := by
  obtain ⟨hr, rfl⟩ | ⟨k, x, n, j, hr, rfl, rfl⟩ := hr
  · exact ⟨hk, .inl ⟨hr, t, rfl⟩⟩
  · exact ⟨hk, .inr ⟨k, x, n, j, hr, rfl⟩⟩

theorem dig_let {c : UInt8} (h : digB c = true) : lett c = false := by
  simp only [digB, digI, Bool.and_eq_true, decide_eq_true_eq] at h
  simp only [lett, low, upp, lowI, uppI, Bool.or_eq_false_iff, Bool.and_eq_false_iff, decide_eq_false_iff_not]
  omega

theorem ones_idx (c : UInt8) : decide (0 ≤ firstIdx (bs ones) ((c.toNat : Int).toNat.toUInt8)) = ones.contains c := by
  rw [firstIdx_nonneg, bs_toList, List.contains_eq_any_beq, Int.toNat_natCast, show c.toNat.toUInt8 = c by simp]
  congr 1
  funext x
  exact Bool.beq_comm ..

/-- The two kinds of facts on the head's octet. -/
structure Hd12 (c : UInt8) (r : List UInt8) : Prop where
  eq : ∀ h : 0 < (bs (c :: r)).size, (((bs (c :: r))[0]'h).toNat : Int) = (c.toNat : Int)
  sz : (0 : Int) < ((bs (c :: r)).size : Int)

theorem hd12 (c : UInt8) (r : List UInt8) : Hd12 c r := ⟨fun _ => rfl, by rw [bs_size]; simp⟩

theorem u8_eq (c d : UInt8) : ((c.toNat : Int) == (d.toNat : Int)) = decide (c = d) := by
  rw [Bool.eq_iff_iff, beq_iff_eq, decide_eq_true_eq]
  exact ⟨fun h => UInt8.toNat_inj.1 (by omega), fun h => by rw [h]⟩

set_option maxHeartbeats 4000000 in
set_option maxRecDepth 100000 in
/-- A token that another function finds. -/
theorem sfirst_fn (c : UInt8) (r : List UInt8) (w : World) (hl : (c :: r).length ≤ 1000000) (h : digB c = true ∨ lett c = true ∨ c = 39 ∨ c = 35) :
    Calls Tryd.prog 28 #[.string (bs (c :: r))] w (FsP w (tokL (c :: r))) := by
  have B0 := Lib.hid (rb12_new w)
  obtain ⟨w0, hw0⟩ : ∃ w0, w.alloc (.cells #[.int .i64 0, .string ⟨#[]⟩, .int .i64 0, .int .i64 0] 35) = w0 := ⟨_, rfl⟩
  rw [hw0] at B0
  obtain ⟨hg, hsz⟩ := hd12 c r
  have HD := Lib.hid (fun wx => sdig_any c wx)
  have HW := Lib.hid (fun wx => swrd_any c wx)
  have e39 := u8_eq c 39
  have e35 := u8_eq c 35
  have HR : Hid (if digB c = true then (∀ wx, Calls Tryd.prog 36 #[.string (bs (c :: r))] wx (FsP wx (tokL (c :: r)))) else if lett c = true then (∀ wx, Calls Tryd.prog 38 #[.string (bs (c :: r))] wx (FsP wx (tokL (c :: r)))) else
      if c = 39 then (∀ wx, Calls Tryd.prog 39 #[.string (bs (c :: r))] wx (FsP wx (tokL (c :: r)))) else (∀ wx, Calls Tryd.prog 40 #[.string (bs (c :: r))] wx (FsP wx (tokL (c :: r))))) := by
    refine Lib.hid ?_
    have h0 : 0 < (c :: r).length := by simp
    by_cases h1 : digB c = true
    · rw [if_pos h1]
      intro wx
      have ht := tok_dig (l := c :: r) (a := 0) h0 (dig_let h1) h1
      rw [List.drop_zero] at ht
      rw [ht]
      exact snum_any (c :: r) wx hl (by rw [dig_pos h1]; omega)
    · rw [if_neg h1]
      by_cases h2 : lett c = true
      · rw [if_pos h2]
        intro wx
        exact sword_any (c :: r) wx hl h2
      · rw [if_neg h2]
        by_cases h3 : c = 39
        · rw [if_pos h3]
          intro wx
          have ht := tok_str (l := c :: r) (a := 0) h0 h3
          rw [List.drop_zero] at ht
          rw [ht]
          exact squoted_any (c :: r) wx hl (by simp)
        · rw [if_neg h3]
          intro wx
          have h4 : c = 35 := by
            rcases h with h | h | h | h
            · exact (h1 h).elim
            · exact (h2 h).elim
            · exact (h3 h).elim
            · exact h
          have ht := tok_sym (l := c :: r) (a := 0) h0 h4
          rw [List.drop_zero, Nat.zero_add, ← take_cut] at ht
          rw [ht]
          exact ssym_any (c :: r) wx hl (by simp)
  have hwb : wordB c = (lett c || digB c) := rfl
  rw [hwb] at HW
  clear hwb
  generalize tokL (c :: r) = T at *
  generalize bs (c :: r) = s at *
  have fin : ∀ (w2 : World) (t : TK) (m : Int), Kept (fun _ => False) w0 w2 → FsR T t m → FsP w T (.returned (.tuple #[valT t, .int .i64 m])) (setT w2 w.heap.size t) := fun w2 t m hk hr => fsp_in hr ((B0.out.keep hk).fin t)
  have FIN := Lib.hid fin; clear fin
  by_cases h1 : digB c = true
  · rw [h1] at HD HR
    have HN := Lib.hid (show ∀ wx, Calls Tryd.prog 36 #[.string s] wx (FsP wx T) from HR.out)
    clear HR HW e39 e35 h h1
    generalize (c.toNat : Int) = x at *
    go_enter Tryd.func28, Tryd.ntmps28
    go_wp2_with fail
    clear hw0
    refine (HD.out _).mono ?_
    rintro e w1 ⟨rfl, rfl⟩
    go_wp2_with fail
    refine (HN.out _).mono ?_
    rintro e w2 hF
    obtain ⟨t, m, rfl, k2, hr⟩ := fsp_out hF
    have B2 := Lib.hid (B0.out.keep k2)
    have HR := Lib.hid hr; have K2 := Lib.hid k2
    obtain ⟨c0, c1, c2, c3, f0, f1, f2, f3⟩ := B2.out.box
    clear hF hr k2
    unfold valT
    go_wp2
    refine bodyPost_ret (results_box2 rfl rfl (load_tk (B2.out.box.set t))) rfl ?_
    exact FIN.out w2 t m K2.out HR.out
  · have h1f : digB c = false := by simpa using h1
    rw [h1f] at HD HR HW
    rw [Bool.or_false] at HW
    by_cases h2 : lett c = true
    · rw [h2] at HR HW
      have HN := Lib.hid (show ∀ wx, Calls Tryd.prog 38 #[.string s] wx (FsP wx T) from HR.out)
      clear HR e39 e35 h h1 h2 h1f
      generalize (c.toNat : Int) = x at *
      go_enter Tryd.func28, Tryd.ntmps28
      go_wp2_with fail
      clear hw0
      refine (HD.out _).mono ?_
      rintro e w1 ⟨rfl, rfl⟩
      go_wp2_with fail
      refine (HW.out _).mono ?_
      rintro e w1 ⟨rfl, rfl⟩
      go_wp2_with fail
      refine (HN.out _).mono ?_
      rintro e w2 hF
      obtain ⟨t, m, rfl, k2, hr⟩ := fsp_out hF
      have B2 := Lib.hid (B0.out.keep k2)
      have HR := Lib.hid hr; have K2 := Lib.hid k2
      obtain ⟨c0, c1, c2, c3, f0, f1, f2, f3⟩ := B2.out.box
      clear hF hr k2
      unfold valT
      go_wp2
      refine bodyPost_ret (results_box2 rfl rfl (load_tk (B2.out.box.set t))) rfl ?_
      exact FIN.out w2 t m K2.out HR.out
    · have h2f : lett c = false := by simpa using h2
      rw [h2f] at HR HW
      by_cases h3 : c = 39
      · have HN := Lib.hid (show ∀ wx, Calls Tryd.prog 39 #[.string s] wx (FsP wx T) from by
          have := HR.out
          rw [if_neg (by decide), if_neg (by decide), if_pos h3] at this
          exact this)
        have e39 : ((c.toNat : Int) == 39) = true := e39.trans (decide_eq_true h3)
        clear HR e35 h h1 h2 h1f h2f h3
        generalize (c.toNat : Int) = x at *
        go_enter Tryd.func28, Tryd.ntmps28
        go_wp2_with fail
        clear hw0
        refine (HD.out _).mono ?_
        rintro e w1 ⟨rfl, rfl⟩
        go_wp2_with fail
        refine (HW.out _).mono ?_
        rintro e w1 ⟨rfl, rfl⟩
        go_wp2_with fail
        refine (HN.out _).mono ?_
        rintro e w2 hF
        obtain ⟨t, m, rfl, k2, hr⟩ := fsp_out hF
        have B2 := Lib.hid (B0.out.keep k2)
        have HR := Lib.hid hr; have K2 := Lib.hid k2
        obtain ⟨c0, c1, c2, c3, f0, f1, f2, f3⟩ := B2.out.box
        clear hF hr k2
        unfold valT
        go_wp2
        refine bodyPost_ret (results_box2 rfl rfl (load_tk (B2.out.box.set t))) rfl ?_
        exact FIN.out w2 t m K2.out HR.out
      · have h4 : c = 35 := by
          rcases h with h | h | h | h
          · exact (h1 h).elim
          · exact (h2 h).elim
          · exact (h3 h).elim
          · exact h
        have HN := Lib.hid (show ∀ wx, Calls Tryd.prog 40 #[.string s] wx (FsP wx T) from by
          have := HR.out
          rw [if_neg (by decide), if_neg (by decide), if_neg h3] at this
          exact this)
        have e39 : ((c.toNat : Int) == 39) = false := e39.trans (decide_eq_false h3)
        have e35 : ((c.toNat : Int) == 35) = true := e35.trans (decide_eq_true h4)
        clear HR h h1 h2 h1f h2f h3 h4
        generalize (c.toNat : Int) = x at *
        go_enter Tryd.func28, Tryd.ntmps28
        go_wp2_with fail
        clear hw0
        refine (HD.out _).mono ?_
        rintro e w1 ⟨rfl, rfl⟩
        go_wp2_with fail
        refine (HW.out _).mono ?_
        rintro e w1 ⟨rfl, rfl⟩
        go_wp2_with fail
        refine (HN.out _).mono ?_
        rintro e w2 hF
        obtain ⟨t, m, rfl, k2, hr⟩ := fsp_out hF
        have B2 := Lib.hid (B0.out.keep k2)
        have HR := Lib.hid hr; have K2 := Lib.hid k2
        obtain ⟨c0, c1, c2, c3, f0, f1, f2, f3⟩ := B2.out.box
        clear hF hr k2
        unfold valT
        go_wp2
        refine bodyPost_ret (results_box2 rfl rfl (load_tk (B2.out.box.set t))) rfl ?_
        exact FIN.out w2 t m K2.out HR.out

/-- What is asked of a head that is none of these. -/
structure Oh12 (c : UInt8) : Prop where
  d : digB c = false
  w : wordB c = false
  a : ((c.toNat : Int) == 39) = false
  b : ((c.toNat : Int) == 35) = false

theorem oh12 {c : UInt8} (h : ¬ (digB c = true ∨ lett c = true ∨ c = 39 ∨ c = 35)) : Oh12 c := by
  have h1 : digB c = false := by
    cases h1 : digB c with
    | false => rfl
    | true => exact (h (.inl h1)).elim
  have h2 : lett c = false := by
    cases h2 : lett c with
    | false => rfl
    | true => exact (h (.inr (.inl h2))).elim
  exact ⟨h1, by rw [wordB, h1, h2]; rfl, (u8_eq c 39).trans (decide_eq_false (fun e => h (.inr (.inr (.inl e))))), (u8_eq c 35).trans (decide_eq_false (fun e => h (.inr (.inr (.inr e)))))⟩

set_option maxHeartbeats 4000000 in
set_option maxRecDepth 100000 in
/-- := -/
theorem sfirst_asg (r : List UInt8) (w : World) (hl : (58 :: 61 :: r).length ≤ 1000000) :
    Calls Tryd.prog 28 #[.string (bs (58 :: 61 :: r))] w (FsP w (some (7, [58, 61], 0, 2))) := by
  have B0 := Lib.hid (rb12_new w)
  obtain ⟨w0, hw0⟩ : ∃ w0, w.alloc (.cells #[.int .i64 0, .string ⟨#[]⟩, .int .i64 0, .int .i64 0] 35) = w0 := ⟨_, rfl⟩
  rw [hw0] at B0
  obtain ⟨hg, hsz⟩ := hd12 58 (61 :: r)
  have hg2 : ∀ h : 0 < (bs (58 :: 61 :: r)).size, (((bs (58 :: 61 :: r))[0]'h).toNat : Int) = 58 := hg
  have HD := Lib.hid (show ∀ wx, Calls Tryd.prog 35 #[.int .u8 58] wx fun e w' => e = .returned (.bool false) ∧ wx = w' from fun wx => sdig_any 58 wx)
  have HW := Lib.hid (show ∀ wx, Calls Tryd.prog 37 #[.int .u8 58] wx fun e w' => e = .returned (.bool false) ∧ wx = w' from fun wx => swrd_any 58 wx)
  have HP := Lib.hid (show ∀ wx, Calls Tryd.prog 41 #[.string (bs (58 :: 61 :: r)), .string ⟨#[58, 61]⟩] wx fun e w' => e = .returned (.bool true) ∧ wx = w' from fun wx => by
    have h := spre_any (58 :: 61 :: r) [58, 61] wx hl (by decide)
    rw [decide_eq_true (by simp : (58 :: 61 :: r).take ([58, 61] : List UInt8).length = [58, 61])] at h
    exact h)
  have HT := Lib.hid (show ∀ wx, Calls Tryd.prog 42 #[.int .i64 7, .string ⟨#[58, 61]⟩] wx fun e w' => e = .returned (valT ⟨7, [58, 61], 0, 0⟩) ∧ Kept (fun _ => False) wx w' from fun wx => stoken_any 7 [58, 61] wx (by decide))
  clear hg
  generalize bs (58 :: 61 :: r) = s at *
  go_enter Tryd.func28, Tryd.ntmps28
  go_wp2_with fail
  clear hw0
  refine (HD.out _).mono ?_
  rintro e w1 ⟨rfl, rfl⟩
  go_wp2_with fail
  refine (HW.out _).mono ?_
  rintro e w1 ⟨rfl, rfl⟩
  go_wp2_with fail
  refine (HP.out _).mono ?_
  rintro e w1 ⟨rfl, rfl⟩
  go_wp2_with fail
  refine (HT.out _).mono ?_
  rintro e w2 ⟨rfl, k2⟩
  have B2 := Lib.hid (B0.out.keep k2)
  obtain ⟨c0, c1, c2, c3, f0, f1, f2, f3⟩ := B2.out.box
  clear k2
  unfold valT
  go_wp2
  refine bodyPost_ret (results_box2 rfl rfl (load_tk (B2.out.box.set ⟨7, [58, 61], 0, 0⟩))) rfl ?_
  exact ⟨B2.out.fin ⟨7, [58, 61], 0, 0⟩, .inr ⟨7, [58, 61], 0, 2, rfl, rfl⟩⟩

set_option maxHeartbeats 4000000 in
set_option maxRecDepth 100000 in
/-- A mark, or a binary selector, or nothing. -/
theorem sfirst_rest (c : UInt8) (r : List UInt8) (w : World) (hl : (c :: r).length ≤ 1000000) (ho : Oh12 c) (hn : ¬ (c = 58 ∧ r.head? = some 61)) (T : Option (Int × List UInt8 × Int × Nat))
    (hT : T = if ones.contains c = true then some (7, [c], 0, 1) else if biLen (c :: r) = 0 then none else some (3, (c :: r).take (biLen (c :: r)), 0, biLen (c :: r))) :
    Calls Tryd.prog 28 #[.string (bs (c :: r))] w (FsP w T) := by
  have B0 := Lib.hid (rb12_new w)
  obtain ⟨w0, hw0⟩ : ∃ w0, w.alloc (.cells #[.int .i64 0, .string ⟨#[]⟩, .int .i64 0, .int .i64 0] 35) = w0 := ⟨_, rfl⟩
  rw [hw0] at B0
  obtain ⟨hg, hsz⟩ := hd12 c r
  obtain ⟨od, ow, e39, e35⟩ := ho
  have hs : (bs (c :: r)).size = (c :: r).length := bs_size _
  have hpos : 1 ≤ (c :: r).length := by simp
  have HD := Lib.hid (fun wx => sdig_any c wx)
  rw [od] at HD
  have HW := Lib.hid (fun wx => swrd_any c wx)
  rw [ow] at HW
  have HP := Lib.hid (show ∀ wx, Calls Tryd.prog 41 #[.string (bs (c :: r)), .string ⟨#[58, 61]⟩] wx fun e w' => e = .returned (.bool false) ∧ wx = w' from fun wx => by
    have h := spre_any (c :: r) [58, 61] wx hl (by decide)
    rw [decide_eq_false (fun h => hn (by
      cases r with
      | nil => simp at h
      | cons d r =>
        simp only [List.length_cons, List.length_nil, Nat.reduceAdd, List.take_succ_cons, List.take_zero, List.cons.injEq, and_true] at h
        exact ⟨h.1, by rw [List.head?_cons, h.2]⟩) : ¬ (c :: r).take ([58, 61] : List UInt8).length = [58, 61])] at h
    exact h)
  have HX := Lib.hid (show ∀ wx, Calls Tryd.prog 34 #[.string ⟨#[40, 41, 91, 93, 123, 125, 46, 94, 124, 58]⟩, .int .u8 (c.toNat : Int)] wx fun e w' => e = .returned (.int .i64 (firstIdx (bs ones) ((c.toNat : Int).toNat.toUInt8))) ∧ wx = w' from fun wx => ibyte_any (bs ones) (c.toNat : Int) wx)
  have hoi := ones_idx c
  have HT1 := Lib.hid (fun wx => stoken_any 7 [c] wx (by simp))
  have hx1 : (bs (c :: r)).extract 0 1 = bs [c] := by rw [bs_extract]; rfl
  have HB := Lib.hid (fun wx => sbin_any (c :: r) wx hl)
  have hbl : biLen (c :: r) ≤ (c :: r).length := by
    unfold biLen
    split
    · split
      · rename_i h; exact h.2
      · exact hpos
    · exact Nat.zero_le _
  have HT3 := Lib.hid (fun wx => stoken_any 3 ((c :: r).take (biLen (c :: r))) wx (by rw [List.length_take]; omega))
  have hx3 : (bs (c :: r)).extract 0 (biLen (c :: r)) = bs ((c :: r).take (biLen (c :: r))) := by rw [bs_extract, List.drop_zero]
  generalize firstIdx (bs ones) ((c.toNat : Int).toNat.toUInt8) = ix at *
  have HTT := Lib.hid hT
  clear hT hn od ow
  generalize (c :: r).take (biLen (c :: r)) = y at *
  generalize biLen (c :: r) = n at *
  generalize bs (c :: r) = s at *
  generalize (c :: r).length = L at *
  by_cases h1 : ones.contains c = true
  · have hix : 0 ≤ ix := by
      rw [h1] at hoi
      simpa using hoi
    have HTT := Lib.hid (HTT.out.trans (if_pos h1))
    clear hoi h1 hx3 HT3 HB
    generalize (c.toNat : Int) = x at *
    generalize [c] = z at *
    go_enter Tryd.func28, Tryd.ntmps28
    go_wp2_with fail
    clear hw0
    refine (HD.out _).mono ?_
    rintro e w1 ⟨rfl, rfl⟩
    go_wp2_with fail
    refine (HW.out _).mono ?_
    rintro e w1 ⟨rfl, rfl⟩
    go_wp2_with fail
    refine (HP.out _).mono ?_
    rintro e w1 ⟨rfl, rfl⟩
    go_wp2_with fail
    refine (HX.out _).mono ?_
    rintro e w1 ⟨rfl, rfl⟩
    go_wp2_with fail
    refine (HT1.out _).mono ?_
    rintro e w2 ⟨rfl, k2⟩
    have B2 := Lib.hid (B0.out.keep k2)
    obtain ⟨c0, c1, c2, c3, f0, f1, f2, f3⟩ := B2.out.box
    clear k2
    unfold valT
    go_wp2
    refine bodyPost_ret (results_box2 rfl rfl (load_tk (B2.out.box.set ⟨7, z, 0, 0⟩))) rfl ?_
    exact ⟨B2.out.fin ⟨7, z, 0, 0⟩, .inr ⟨7, z, 0, 1, HTT.out, rfl⟩⟩
  · have h1f : ones.contains c = false := by simpa using h1
    have hix : ¬ 0 ≤ ix := by
      rw [h1f] at hoi
      simpa using hoi
    have HTT := Lib.hid (HTT.out.trans (if_neg h1))
    clear hoi h1 h1f hx1 HT1
    generalize (c.toNat : Int) = x at *
    go_enter Tryd.func28, Tryd.ntmps28
    go_wp2_with fail
    clear hw0
    refine (HD.out _).mono ?_
    rintro e w1 ⟨rfl, rfl⟩
    go_wp2_with fail
    refine (HW.out _).mono ?_
    rintro e w1 ⟨rfl, rfl⟩
    go_wp2_with fail
    refine (HP.out _).mono ?_
    rintro e w1 ⟨rfl, rfl⟩
    go_wp2_with fail
    refine (HX.out _).mono ?_
    rintro e w1 ⟨rfl, rfl⟩
    go_wp2_with fail
    refine (HB.out _).mono ?_
    rintro e w1 ⟨rfl, k1⟩
    have B1 := Lib.hid (B0.out.keep k1)
    clear k1
    go_wp2_with fail
    refine (HT3.out _).mono ?_
    rintro e w2 ⟨rfl, k2⟩
    have B2 := Lib.hid (B1.out.keep k2)
    obtain ⟨c0, c1, c2, c3, f0, f1, f2, f3⟩ := B2.out.box
    clear k2
    unfold valT
    go_wp2
    refine bodyPost_ret (results_box2 rfl rfl (load_tk (B2.out.box.set ⟨3, y, 0, 0⟩))) rfl ?_
    refine ⟨B2.out.fin ⟨3, y, 0, 0⟩, ?_⟩
    by_cases h0 : n = 0
    · subst h0
      exact .inl ⟨HTT.out, ⟨3, y, 0, 0⟩, rfl⟩
    · exact .inr ⟨3, y, 0, n, HTT.out.trans (if_neg h0), rfl⟩

theorem sfirst_any (l : List UInt8) (w : World) (hl : l.length ≤ 1000000) (h1 : 1 ≤ l.length) : Calls Tryd.prog 28 #[.string (bs l)] w (FsP w (tokL l)) := by
  cases l with
  | nil => simp at h1
  | cons c r =>
    by_cases h : digB c = true ∨ lett c = true ∨ c = 39 ∨ c = 35
    · exact sfirst_fn c r w hl h
    · have ho := oh12 h
      by_cases hn : c = 58 ∧ r.head? = some 61
      · obtain ⟨rfl, hr⟩ := hn
        cases r with
        | nil => simp at hr
        | cons d r =>
          obtain rfl : d = 61 := by simpa using hr
          rw [tok_assign]
          exact sfirst_asg r w hl
      · refine sfirst_rest c r w hl ho hn (tokL (c :: r)) ?_
        have g1 : lett c = false := by
          cases g : lett c with
          | false => rfl
          | true => exact (h (.inr (.inl g))).elim
        by_cases hc : ones.contains c = true
        · rw [if_pos hc]
          have ht := tok_one (l := c :: r) (a := 0) (by simp) hc (fun hh => hn ⟨hh.1, by
            have := hh.2
            rw [Nat.zero_add, List.getElem?_cons_succ, ← List.head?_eq_getElem?] at this
            exact this⟩)
          rw [List.drop_zero] at ht
          exact ht
        · rw [if_neg hc]
          exact tok_biLen g1 ho.d (fun e => h (.inr (.inr (.inl e)))) (fun e => h (.inr (.inr (.inr e)))) hn (by simpa using hc)

end Go.Proofs.YtofpnlmlenffnaaDoor
