/-
  Lemmas towards the claim of this folder: contracts of the functions that the law reaches; joined texts.
-/
import Derived.Test.YtofpnlmlenffnaaDoorDa12
import Derived.Deep.CutBlock
import Derived.Deep.DeepCutAuto
import Derived.Test.YtofpnlmlenffnaaDoorNc
import Derived.Test.YtofpnlmlenffnaaDoorPzb
import Derived.Shelf.Strconv.Atoi
/-
  CONTRACTS of package scan: binary, selector.
-/
namespace Go.Proofs.YtofpnlmlenffnaaDoor
open Go.RowKit Go.Mk

set_option maxHeartbeats 1000000 in
theorem sbin_any (l : List UInt8) (w : World) (hl : l.length ≤ 1000000) : Calls Tryd.prog 43 #[.string (bs l)] w fun e w' => e = .returned (.int .i64 (biLen l : Int)) ∧ Kept (fun _ => False) w w' := by
  have hs : (bs l).size = l.length := bs_size l
  go_enter Tryd.func43, Tryd.ntmps43
  go_wp2
  go_loopg [3] l.length (fun k v wr => ∃ n : Nat, k = l.length - n ∧ v = .int .i64 (n : Int) ∧ n ≤ l.length ∧ (n = 0 ∨ isBi (l.take n) = true) ∧ Kept (fun _ => False) w wr)
  case atStart => exact ⟨0, rfl, rfl, Nat.zero_le _, .inl rfl, Kept.refl _ _⟩
  case round =>
    obtain ⟨n, hk, rfl, hn, hb, hkp⟩ := hrel
    have HK := Lib.hid hk; have HB := Lib.hid hb; have HKP := Lib.hid hkp; clear hk hb hkp
    by_cases hlt : n < l.length
    · have hlt1 : (n : Int) < ((bs l).size : Int) := by omega
      have HC := Lib.hid (fun wx => nkind_any (l.take (n + 1)) wx (by rw [List.length_take]; omega))
      have HI := Lib.hid (kindL_bi (l := l.take (n + 1)))
      have hle : kindL (l.take (n + 1)) ≤ 3 := kind_le _
      have hx : (bs l).extract 0 (n + 1) = bs (l.take (n + 1)) := by rw [bs_extract, List.drop_zero]
      generalize kindL (l.take (n + 1)) = kd at *
      by_cases hkd : kd = 2
      · have HY := Lib.hid (HI.out.1 hkd)
        subst hkd
        go_wp2_with fail
        refine (HC.out _).mono ?_
        rintro e w1 ⟨rfl, k1⟩
        have K1 := Lib.hid (HKP.out.trans k1 (fun _ _ h => h)); clear k1
        go_wp2
        go_roundg (l.length - (n + 1))
        case measure => have := HK.out; omega
        case rel => exact ⟨n + 1, rfl, by go_num, by omega, .inr HY.out, K1.out⟩
      · have HE := Lib.hid (biLen_is (by omega) HB.out (fun _ => by
          cases h : isBi (l.take (n + 1)) with
          | false => rfl
          | true => exact (hkd (HI.out.2 h)).elim))
        have hkd2 : ((kd : Int) == 2) = false := by
          rw [beq_eq_false_iff_ne]
          omega
        clear hkd
        go_wp2_with fail
        refine (HC.out _).mono ?_
        rintro e w1 ⟨rfl, k1⟩
        have K1 := Lib.hid (HKP.out.trans k1 (fun _ _ h => h)); clear k1
        go_wp2
        go_ret
        exact ⟨by rw [← HE.out]; rfl, K1.out⟩
    · obtain rfl : n = l.length := by omega
      have hlt1 : ¬ (l.length : Int) < ((bs l).size : Int) := by omega
      have HE := Lib.hid (biLen_is (Nat.le_refl _) HB.out (fun h => by omega))
      go_wp2
      go_ret
      exact ⟨by rw [← HE.out]; rfl, HKP.out⟩

set_option maxHeartbeats 4000000 in
set_option maxRecDepth 100000 in
theorem ssel_any (l : List UInt8) (w : World) (hl : l.length ≤ 1000000) : Calls Tryd.prog 56 #[.string (bs l)] w fun e w' => e = .returned (.int .i64 (selTo l (min l.length 498) : Int)) ∧ Kept (fun _ => False) w w' := by
  have hs : (bs l).size = l.length := bs_size l
  have HW := Lib.hid (fun wx => runw_any l wx hl)
  have hwl := word_le l
  have HZ := Lib.hid (fun (h : wordLen l = 0) => selTo_bi h)
  have HN := Lib.hid (fun (h : wordLen l ≠ 0) (hk : kindL (l.take (wordLen l)) ≠ 1) => selTo_nowordB h hk)
  have HEND := Lib.hid (fun (s e : Nat) (h : SelOk l s e) (hw : wordLen l ≠ 0) hk => selOk_end h hw hk)
  have HST := Lib.hid (fun (hk : kindL (l.take (wordLen l)) = 1) => selOk_zero hk)
  have hx : (bs l).extract 0 (wordLen l) = bs (l.take (wordLen l)) := by rw [bs_extract, List.drop_zero]
  have HC := Lib.hid (fun wx => nkind_any (l.take (wordLen l)) wx (by rw [List.length_take]; omega))
  have hle : kindL (l.take (wordLen l)) ≤ 3 := kind_le _
  generalize selTo l (min l.length 498) = S at *
  by_cases hw : wordLen l = 0
  · have HB := Lib.hid (fun wx => sbin_any l wx hl)
    have HE := Lib.hid (HZ.out hw)
    rw [hw] at HW
    clear hx hw hwl hle HC
    go_enter Tryd.func56, Tryd.ntmps56
    go_wp2_with fail
    refine (HW.out _).mono ?_
    rintro e w1 ⟨rfl, rfl⟩
    go_wp2_with fail
    refine (HB.out _).mono ?_
    rintro e w2 ⟨rfl, k2⟩
    have K2 := Lib.hid k2; clear k2
    go_wp2
    go_ret
    exact ⟨by rw [HE.out]; rfl, K2.out⟩
  · have hw0 : (((wordLen l : Nat) : Int) == 0) = false := by
      rw [beq_eq_false_iff_ne]
      omega
    by_cases hk : kindL (l.take (wordLen l)) = 1
    · have HS0 := Lib.hid (HST.out hk)
      have HWN := Lib.hid hw
      obtain ⟨W0, hW0⟩ : ∃ W0, wordLen l = W0 := ⟨_, rfl⟩
      rw [hk] at HC
      rw [hW0] at HC HW HS0 hx hw0 hwl
      have HW0 := Lib.hid hW0
      clear hk hle hW0 hw
      go_enter Tryd.func56, Tryd.ntmps56
      go_wp2_with fail
      refine (HW.out _).mono ?_
      rintro e w1 ⟨rfl, rfl⟩
      go_wp2_with fail
      refine (HC.out _).mono ?_
      rintro e w2 ⟨rfl, k2⟩
      have K2 := Lib.hid k2; clear k2
      go_wp2
      clear hw0 hx
      go_loopg [3, 4] (l.length - W0) (fun k u v wr => ∃ s e E : Nat, SelOk l s e ∧ E = e + wordLen (l.drop e) ∧ k = l.length - E ∧ u = .int .i64 (s : Int) ∧ v = .int .i64 (E : Int) ∧ E ≤ l.length ∧ s ≤ l.length ∧ Kept (fun _ => False) w wr)
      case atStart => exact ⟨W0, 0, W0, HS0.out, by rw [List.drop_zero, HW0.out]; omega, rfl, rfl, rfl, hwl, hwl, K2.out⟩
      case round =>
        obtain ⟨s, e, E, hso, hE, hkk, rfl, rfl, hEl, hsl, hkp⟩ := hrel
        have HSO := Lib.hid hso; have HEE := Lib.hid hE; have HK := Lib.hid hkk; have HKP := Lib.hid hkp
        clear hso hE hkk hkp
        by_cases hlt : E < l.length
        · have hlt1 : (E : Int) < ((bs l).size : Int) := by omega
          have HC1 := Lib.hid (fun wx => nkind_any (l.take (E + 1)) wx (by rw [List.length_take]; omega))
          have hx1 : (bs l).extract 0 (E + 1) = bs (l.take (E + 1)) := by rw [bs_extract, List.drop_zero]
          have hle1 : kindL (l.take (E + 1)) ≤ 3 := kind_le _
          have HNX := Lib.hid (show kindL (l.take (E + 1)) = 3 → SelOk l (E + 1) (E + 1) from fun h => by
            have h2 := selOk_next HSO.out (by rw [← HEE.out]; exact h) (by rw [← HEE.out]; exact hlt)
            rw [← HEE.out] at h2
            exact h2)
          have HSP := Lib.hid (show kindL (l.take (E + 1)) ≠ 3 → S = s from fun h => HEND.out s e HSO.out HWN.out (fun _ => by rw [← HEE.out]; exact h))
          generalize kindL (l.take (E + 1)) = kd at *
          by_cases hkd : kd = 3
          · subst hkd
            have HNY : Hid (SelOk l (E + 1) (E + 1)) := HNX.out rfl
            clear HNX HSP
            have hx2 : (bs l).extract (E + 1) l.length = bs (l.drop (E + 1)) := by rw [bs_extract, List.take_length]
            have HR := Lib.hid (fun wx => runw_any (l.drop (E + 1)) wx (by rw [List.length_drop]; omega))
            have hr := word_le (l.drop (E + 1))
            rw [List.length_drop] at hr
            obtain ⟨r, hrr⟩ : ∃ r, wordLen (l.drop (E + 1)) = r := ⟨_, rfl⟩
            rw [hrr] at HR hr
            have HRR := Lib.hid hrr
            have hsum : E + 1 + r ≤ l.length := by omega
            clear hrr hr hle1
            go_wp2_with fail
            refine (HC1.out _).mono ?_
            rintro e1 w1 ⟨rfl, k1⟩
            have K1 := Lib.hid (HKP.out.trans k1 (fun _ _ h => h)); clear k1
            go_wp2_with fail
            refine (HR.out _).mono ?_
            rintro e1 w3 ⟨rfl, rfl⟩
            go_wp2
            go_roundg (l.length - (E + 1 + r))
            case measure => have := HK.out; omega
            case rel => exact ⟨E + 1, E + 1, E + 1 + r, HNY.out, by rw [HRR.out], rfl, by go_num, by go_num, by omega, by omega, K1.out⟩
          · have HE := Lib.hid (HSP.out hkd)
            have hkd2 : ((kd : Int) == 3) = false := by
              rw [beq_eq_false_iff_ne]
              omega
            clear hkd
            go_wp2_with fail
            refine (HC1.out _).mono ?_
            rintro e1 w1 ⟨rfl, k1⟩
            have K1 := Lib.hid (HKP.out.trans k1 (fun _ _ h => h)); clear k1
            go_wp2
            go_ret
            exact ⟨by rw [HE.out]; rfl, K1.out⟩
        · have hlt1 : ¬ (E : Int) < ((bs l).size : Int) := by omega
          have HE := Lib.hid (HEND.out s e HSO.out HWN.out (fun h => by rw [← HEE.out] at h; omega))
          go_wp2
          go_ret
          exact ⟨by rw [HE.out]; rfl, HKP.out⟩
    · have HE := Lib.hid (HN.out hw hk)
      have hk1 : (((kindL (l.take (wordLen l)) : Nat) : Int) != 1) = true := by
        rw [bne_iff_ne]
        omega
      obtain ⟨W0, hW0⟩ : ∃ W0, wordLen l = W0 := ⟨_, rfl⟩
      rw [hW0] at HC HW hx hw0 hwl hk1 hle
      generalize kindL (l.take W0) = kd at *
      clear hk hle hW0 hw
      go_enter Tryd.func56, Tryd.ntmps56
      go_wp2_with fail
      refine (HW.out _).mono ?_
      rintro e w1 ⟨rfl, rfl⟩
      go_wp2_with fail
      refine (HC.out _).mono ?_
      rintro e w2 ⟨rfl, k2⟩
      have K2 := Lib.hid k2; clear k2
      go_wp2
      go_ret
      exact ⟨by rw [HE.out]; rfl, K2.out⟩

end Go.Proofs.YtofpnlmlenffnaaDoor

/-
  CONTRACT of strconv.Atoi (the library's own, at this program) at a row of one to nine digits.
-/
namespace Go.Proofs.YtofpnlmlenffnaaDoor
open Go.RowKit Go.Mk

def atoiRen : Go.Shelf.Ren := ⟨fun | 129 => 103 | 171 => 91 | 172 => 53 | 205 => 90 | 243 => 95 | 244 => 66 | 245 => 67 | 246 => 97 | 247 => 81 | 279 => 82 | 280 => 83 | 281 => 84 | 282 => 85 | 283 => 98 | 284 => 99 | 285 => 100 | 286 => 101 | 287 => 89 | 316 => 29 | 317 => 102 | 318 => 104 | 319 => 105 | 320 => 106 | 321 => 93 | 322 => 94 | 337 => 107 | 338 => 108 | n => n,
  fun | 0 => 0 | 2 => 2 | 3 => 3 | 4 => 4 | 5 => 5 | 9 => 9 | 20 => 20 | 21 => 21 | 37 => 45 | 46 => 79 | 51 => 91 | 53 => 94 | 75 => 64 | 76 => 65 | 80 => 69 | 85 => 85 | 127 => 57 | 143 => 103 | 145 => 105 | 167 => 84 | 168 => 87 | 171 => 107 | 173 => 110 | 175 => 95 | 210 => 98 | 212 => 113 | 213 => 114 | 232 => 118 | 233 => 119 | n => n, fun | 15 => 3 | 16 => 4 | 17 => 5 | 18 => 6 | 19 => 7 | n => n⟩

theorem atoiLays : Go.Proofs.Lays.n172 Tryd.prog atoiRen := {
  mixed := by kernel_rfl
  f129 := Tryd.func103.trans (congrArg some (by kernel_rfl))
  f171 := Tryd.func91.trans (congrArg some (by kernel_rfl))
  f172 := Tryd.func53.trans (congrArg some (by kernel_rfl))
  f205 := Tryd.func90.trans (congrArg some (by kernel_rfl))
  f243 := Tryd.func95.trans (congrArg some (by kernel_rfl))
  f244 := Tryd.func66.trans (congrArg some (by kernel_rfl))
  f245 := Tryd.func67.trans (congrArg some (by kernel_rfl))
  f246 := Tryd.func97.trans (congrArg some (by kernel_rfl))
  f247 := Tryd.func81.trans (congrArg some (by kernel_rfl))
  f279 := Tryd.func82.trans (congrArg some (by kernel_rfl))
  f280 := Tryd.func83.trans (congrArg some (by kernel_rfl))
  f281 := Tryd.func84.trans (congrArg some (by kernel_rfl))
  f282 := Tryd.func85.trans (congrArg some (by kernel_rfl))
  f283 := Tryd.func98.trans (congrArg some (by kernel_rfl))
  f284 := Tryd.func99.trans (congrArg some (by kernel_rfl))
  f285 := Tryd.func100.trans (congrArg some (by kernel_rfl))
  f286 := Tryd.func101.trans (congrArg some (by kernel_rfl))
  f287 := Tryd.func89.trans (congrArg some (by kernel_rfl))
  f316 := Tryd.func29.trans (congrArg some (by kernel_rfl))
  f317 := Tryd.func102.trans (congrArg some (by kernel_rfl))
  f318 := Tryd.func104.trans (congrArg some (by kernel_rfl))
  f319 := Tryd.func105.trans (congrArg some (by kernel_rfl))
  f320 := Tryd.func106.trans (congrArg some (by kernel_rfl))
  f321 := Tryd.func93.trans (congrArg some (by kernel_rfl))
  f322 := Tryd.func94.trans (congrArg some (by kernel_rfl))
  f337 := Tryd.func107.trans (congrArg some (by kernel_rfl))
  f338 := Tryd.func108.trans (congrArg some (by kernel_rfl))
  t0 := Tryd.underlying0
  a0 := Tryd.isAgg0
  z0 := Tryd.sizeOf0
  v0 := Tryd.zeroValue0
  t2 := Tryd.underlying2
  a2 := Tryd.isAgg2
  z2 := Tryd.sizeOf2
  v2 := Tryd.zeroValue2
  t3 := Tryd.underlying3
  a3 := Tryd.isAgg3
  z3 := Tryd.sizeOf3
  v3 := Tryd.zeroValue3
  t4 := Tryd.underlying4
  a4 := Tryd.isAgg4
  z4 := Tryd.sizeOf4
  v4 := Tryd.zeroValue4
  t5 := Tryd.underlying5
  a5 := Tryd.isAgg5
  z5 := Tryd.sizeOf5
  v5 := Tryd.zeroValue5
  t9 := Tryd.underlying9
  a9 := Tryd.isAgg9
  z9 := Tryd.sizeOf9
  v9 := Tryd.zeroValue9
  t20 := Tryd.underlying20
  a20 := Tryd.isAgg20
  z20 := Tryd.sizeOf20
  v20 := Tryd.zeroValue20
  t21 := Tryd.underlying21
  a21 := Tryd.isAgg21
  z21 := Tryd.sizeOf21
  v21 := Tryd.zeroValue21
  t37 := Tryd.underlying45
  a37 := Tryd.isAgg45
  z37 := Tryd.sizeOf45
  v37 := Tryd.zeroValue45
  t46 := Tryd.underlying79
  a46 := Tryd.isAgg79
  z46 := Tryd.sizeOf79
  v46 := Tryd.zeroValue79
  t51 := Tryd.underlying91
  a51 := Tryd.isAgg91
  z51 := Tryd.sizeOf91
  v51 := Tryd.zeroValue91
  t53 := Tryd.underlying94
  a53 := Tryd.isAgg94
  z53 := Tryd.sizeOf94
  v53 := Tryd.zeroValue94
  t75 := Tryd.underlying64
  a75 := Tryd.isAgg64
  z75 := Tryd.sizeOf64
  v75 := Tryd.zeroValue64
  t76 := Tryd.underlying65
  a76 := Tryd.isAgg65
  z76 := Tryd.sizeOf65
  v76 := Tryd.zeroValue65
  t85 := Tryd.underlying85
  a85 := Tryd.isAgg85
  z85 := Tryd.sizeOf85
  v85 := Tryd.zeroValue85
  t127 := Tryd.underlying57
  a127 := Tryd.isAgg57
  z127 := Tryd.sizeOf57
  v127 := Tryd.zeroValue57
  t143 := Tryd.underlying103
  a143 := Tryd.isAgg103
  z143 := Tryd.sizeOf103
  v143 := Tryd.zeroValue103
  t145 := Tryd.underlying105
  a145 := Tryd.isAgg105
  z145 := Tryd.sizeOf105
  v145 := Tryd.zeroValue105
  t167 := Tryd.underlying84
  a167 := Tryd.isAgg84
  z167 := Tryd.sizeOf84
  v167 := Tryd.zeroValue84
  t168 := Tryd.underlying87
  a168 := Tryd.isAgg87
  z168 := Tryd.sizeOf87
  v168 := Tryd.zeroValue87
  t171 := Tryd.underlying107
  a171 := Tryd.isAgg107
  z171 := Tryd.sizeOf107
  v171 := Tryd.zeroValue107
  t173 := Tryd.underlying110
  a173 := Tryd.isAgg110
  z173 := Tryd.sizeOf110
  v173 := Tryd.zeroValue110
  t175 := Tryd.underlying95
  a175 := Tryd.isAgg95
  z175 := Tryd.sizeOf95
  v175 := Tryd.zeroValue95
  t210 := Tryd.underlying98
  a210 := Tryd.isAgg98
  z210 := Tryd.sizeOf98
  v210 := Tryd.zeroValue98
  t212 := Tryd.underlying113
  a212 := Tryd.isAgg113
  z212 := Tryd.sizeOf113
  v212 := Tryd.zeroValue113
  t213 := Tryd.underlying114
  a213 := Tryd.isAgg114
  z213 := Tryd.sizeOf114
  t232 := Tryd.underlying118
  a232 := Tryd.isAgg118
  z232 := Tryd.sizeOf118
  v232 := Tryd.zeroValue118
  t233 := Tryd.underlying119
  a233 := Tryd.isAgg119
  z233 := Tryd.sizeOf119
  v233 := Tryd.zeroValue119
  g15 := by kernel_rfl
  g16 := by kernel_rfl
  g17 := by kernel_rfl
  g18 := by kernel_rfl
  g19 := by kernel_rfl }

theorem kept_bytesWorld (w : World) (ty : TypeId) (t : ByteArray) : Kept (fun _ => False) w (Lib.bytesWorld w ty t) :=
  kept_of_below ⟨rfl, rfl, rfl, by rw [Lib.bytesWorld_size]; omega, fun k hk => Lib.bytesWorld_at_old w ty t k hk⟩

theorem satoi_any (l : List UInt8) (w : World) (hne : l ≠ []) (hd : ∀ b ∈ l, digB b = true) (hl : l.length ≤ 18) :
    Calls Tryd.prog 53 #[.string (bs l)] w fun e w' => e = .returned (.tuple #[.int .i64 (numL l), .nilIface]) ∧ Kept (fun _ => False) w w' := by
  refine (Any.strconv_Atoi atoiLays (bs l) (numL l) (by rw [bs_size]; exact hl) (by rw [bs_toList]; exact atoi_num hne hd) w).mono ?_
  rintro e w' ⟨rfl, t, rfl⟩
  exact ⟨rfl, kept_bytesWorld _ _ _⟩

end Go.Proofs.YtofpnlmlenffnaaDoor
