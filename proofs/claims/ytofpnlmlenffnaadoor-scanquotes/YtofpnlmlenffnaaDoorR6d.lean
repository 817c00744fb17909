/-
  CONTRACTS of the reference of layer 6: Kind, Args, Parts.
-/
import Derived.Test.YtofpnlmlenffnaaDoorGR6b
import Derived.Test.YtofpnlmlenffnaaDoorGNe
import Derived.Deep.CutBlock
import Derived.Deep.DeepCutAuto
namespace Go.Proofs.YtofpnlmlenffnaaDoor
open Go.RowKit Go.Mk

def marksS : List (List UInt8) := marks.map (fun b => [b])
theorem marksS_contains (b : UInt8) : marksS.contains [b] = marks.contains b := by
  unfold marksS
  rw [Bool.eq_iff_iff, List.contains_iff_mem, List.contains_iff_mem, List.mem_map]
  constructor
  · rintro ⟨c, hc, h⟩
    cases h
    exact hc
  · intro h
    exact ⟨b, h, rfl⟩

theorem un_parts {l : List UInt8} (h : isUn l = true) : ∃ c t, l = c :: t ∧ isNm l = true ∧ lowI c.toNat = true := by
  cases l with
  | nil => cases h
  | cons c t =>
    unfold isUn at h
    rw [Bool.and_eq_true] at h
    exact ⟨c, t, rfl, h.1, h.2⟩

set_option maxHeartbeats 1000000 in
theorem rkind_un (l : List UInt8) (w : World) (h : isUn l = true) : Calls Tryd.prog 24 #[.string (bs l)] w fun e w' => e = .returned (.int .i64 1) ∧ Kept (fun _ => False) w w' := by
  obtain ⟨c, t, rfl, hn, hlow⟩ := un_parts h
  have hI := ris_any (c :: t) w
  obtain ⟨h1, h2, h3, _⟩ := txt_cons c t
  have hd := txt_hd c t
  have hL := rlow_any c.toNat w
  rw [hn] at hI
  rw [hlow] at hL
  have HI := Lib.hid hI; have HL := Lib.hid hL; clear hI hL hn hlow h
  generalize bs (c :: t) = s at *
  go_enter Tryd.func24, Tryd.ntmps24
  go_wp2_with fail
  refine HI.out.mono ?_
  rintro e w1 ⟨rfl, rfl⟩
  go_wp2_with fail
  refine HL.out.mono ?_
  rintro e w1 ⟨rfl, rfl⟩
  go_wp2
  go_ret
  exact ⟨rfl, Kept.refl _ _⟩

/-- The reference's Kind where the text is not unary. -/
def restKind (l : List UInt8) : Nat := if isBi l = true then 2 else if kwL l = [] then 0 else 3

set_option maxHeartbeats 2000000 in
theorem rkind_rest (l : List UInt8) (w : World) (hl : l.length ≤ 1099511627776) (h : isUn l = false) : Calls Tryd.prog 24 #[.string (bs l)] w fun e w' => e = .returned (.int .i64 (restKind l : Int)) ∧ Kept (fun _ => False) w w' := by
  have hs : (bs l).size = l.length := bs_size l
  have hI := ris_any l w
  have HKW := Lib.hid (fun w => rkw_any l w hl)
  have HU := Lib.hid h; clear h
  go_enter Tryd.func24, Tryd.ntmps24
  go_upto_region 1 with fail
  go_cut [11] (fun v wx => v = .bool false ∧ w = wx)
  case first =>
    cases hn : isNm l with
    | false =>
      rw [hn] at hI
      have HI := Lib.hid hI; clear hI
      go_wp2_with fail
      refine HI.out.mono ?_
      rintro e w1 ⟨rfl, rfl⟩
      go_wp2_with fail
      go_meet
      case rel => exact ⟨rfl, rfl⟩
    | true =>
      rw [hn] at hI
      cases l with
      | nil => cases hn
      | cons c t =>
        obtain ⟨h1, h2, h3, _⟩ := txt_cons c t
        have hd := txt_hd c t
        have hL := rlow_any c.toNat w
        have hlow : lowI c.toNat = false := by
          have hg := HU.out
          unfold isUn at hg
          rw [hn, Bool.true_and] at hg
          exact hg
        rw [hlow] at hL
        have HI := Lib.hid hI; have HL := Lib.hid hL; clear hI hL hlow hn
        go_wp2_with fail
        refine HI.out.mono ?_
        rintro e w1 ⟨rfl, rfl⟩
        go_wp2_with fail
        refine HL.out.mono ?_
        rintro e w1 ⟨rfl, rfl⟩
        go_wp2_with fail
        go_meet
        case rel => exact ⟨rfl, rfl⟩
  case rest =>
    obtain ⟨rfl, rfl⟩ := hcut
    clear hI
    have hEnd : ∀ W, Kept (fun _ => False) w W → isBi l = false → Calls Tryd.prog 33 #[.string (bs l)] W fun e w' => (∃ ao n cap, e = .returned (.slice ao n cap) ∧ (((0 : Int) < (n : Int) ∧ restKind l = 3) ∨ (n = 0 ∧ restKind l = 0))) ∧ Kept (fun _ => False) w w' := by
      intro W hk hb
      refine (HKW.out W).mono ?_
      rintro e w' ⟨ao, cap, rfl, _, hk2⟩
      refine ⟨⟨ao, _, cap, rfl, ?_⟩, hk.trans hk2 (fun _ _ h => h)⟩
      unfold restKind
      rw [hb]
      by_cases h3 : kwL l = []
      · right
        simp [h3]
      · left
        have : (kwL l).length ≠ 0 := by simpa using h3
        simp [h3]
        omega
    have HEND := Lib.hid hEnd; clear hEnd
    by_cases hn : l.length = 1 ∨ l.length = 2
    · have hb : isBi l = l.all marks.contains := by
        unfold isBi lenIn
        have e : (decide (1 ≤ l.length) && decide (l.length ≤ 2)) = true := by simp; omega
        rw [e, Bool.true_and]
      have HB := Lib.hid hb; clear hb
      have hcase : ((l.length : Int) == 1) = true ∨ (((l.length : Int) == 1) = false ∧ ((l.length : Int) == 2) = true) := by
        rcases hn with h | h
        · left; rw [beq_iff_eq]; omega
        · right; refine ⟨?_, ?_⟩
          · rw [beq_eq_false_iff_ne]; omega
          · rw [beq_iff_eq]; omega
      go_upto_region 3 with fail
      go_cut [19] (fun v wx => v = .bool true ∧ w = wx)
      case first =>
        rcases hcase with h | ⟨h, h'⟩
        · go_wp2_with fail
          go_meet
          case rel => exact ⟨rfl, rfl⟩
        · go_wp2_with fail
          go_meet
          case rel => exact ⟨rfl, rfl⟩
      case rest =>
        obtain ⟨rfl, rfl⟩ := hcut
        clear hcase hn
        go_wp2_with fail
        go_loopg [3, 4] l.length (fun k v i wr => ∃ j : Nat, k = l.length - j ∧ v = .bool ((l.take j).all marks.contains) ∧ i = .int .i64 (j : Int) ∧ j ≤ l.length ∧ Kept (fun _ => False) w wr)
        case atStart => exact ⟨0, rfl, rfl, rfl, Nat.zero_le _, Kept.refl _ _⟩
        case round =>
          obtain ⟨j, hk, rfl, rfl, hj, hkp⟩ := hrel
          have HK := Lib.hid hk; have HKP := Lib.hid hkp; clear hk hkp
          by_cases hlt : j < l.length
          · have i1 : (j : Int) < ((bs l).size : Int) := by omega
            have i2 : (j : Int) ≤ (j : Int) + 1 := by omega
            have i3 : (j : Int) + 1 ≤ ((bs l).size : Int) := by omega
            have hx : (bs l).extract j (j + 1) = bs [l[j]'hlt] := by
              rw [bs_extract]
              congr 1
              rw [List.take_add_one, List.getElem?_eq_getElem hlt, List.drop_append_of_le_length (by rw [List.length_take]; omega), List.drop_of_length_le (by rw [List.length_take]; omega)]
              rfl
            have htk : (l.take (j + 1)).all marks.contains = ((l.take j).all marks.contains && marks.contains (l[j]'hlt)) := by
              have e : l.take (j + 1) = l.take j ++ [l[j]'hlt] := by rw [List.take_add_one, List.getElem?_eq_getElem hlt]; rfl
              rw [e, List.all_append]
              congr 1
              rw [List.all_cons, List.all_nil, Bool.and_true]
            have hIn := rin_any (some ⟨wr.heap.size, 0, none⟩) 12 marksS [l[j]'hlt] _ (wr.alloc (.cells (strs marksS).toArray 9)) (lies_new wr (strs marksS) 9) (by decide)
            rw [marksS_contains] at hIn
            have HIN := Lib.hid hIn; have HTK := Lib.hid htk; clear hIn htk
            generalize (l.take j).all marks.contains = ok at *
            generalize marks.contains (l[j]'hlt) = r at *
            generalize bs [l[j]'hlt] = p at *
            cases ok with
            | true =>
              go_wp2_with fail
              refine HIN.out.mono ?_
              rintro e w2 ⟨rfl, rfl⟩
              go_wp2_with fail
              go_roundg (l.length - (j + 1))
              case measure => have := HK.out; omega
              case rel => exact ⟨j + 1, rfl, by rw [HTK.out, Bool.true_and], by go_num, by omega, HKP.out.alloc _⟩
            | false =>
              go_wp2_with fail
              go_roundg (l.length - (j + 1))
              case measure => have := HK.out; omega
              case rel => exact ⟨j + 1, rfl, by rw [HTK.out, Bool.false_and], by go_num, by omega, HKP.out⟩
          · obtain rfl : j = l.length := by omega
            rw [List.take_length]
            cases hok : l.all marks.contains with
            | true =>
              have E : Hid (restKind l = 2) := by
                show restKind l = 2
                unfold restKind
                rw [HB.out, hok]
                rfl
              clear hok
              go_wp2_with fail
              go_ret
              exact ⟨by rw [E.out]; rfl, HKP.out⟩
            | false =>
              have HX := Lib.hid (HEND.out wr HKP.out (by rw [HB.out, hok]))
              clear hok
              go_wp2_with fail
              refine HX.out.mono ?_
              rintro e w2 ⟨⟨ao, n, cap, rfl, ⟨h0, hr⟩ | ⟨rfl, hr⟩⟩, hk2⟩
              · have HR := Lib.hid hr; clear hr
                go_wp2_with fail
                go_ret
                exact ⟨by rw [HR.out]; rfl, hk2⟩
              · have HR := Lib.hid hr; clear hr
                go_wp2_with fail
                go_ret
                exact ⟨by rw [HR.out]; rfl, hk2⟩
    · have hb : isBi l = false := by
        unfold isBi lenIn
        have e : (decide (1 ≤ l.length) && decide (l.length ≤ 2)) = false := by simp; omega
        rw [e, Bool.false_and]
      have HX := Lib.hid (HEND.out w (Kept.refl _ _) hb)
      have h1 : ((l.length : Int) == 1) = false := by rw [beq_eq_false_iff_ne]; omega
      have h2 : ((l.length : Int) == 2) = false := by rw [beq_eq_false_iff_ne]; omega
      clear hn hb
      go_wp2_with fail
      refine HX.out.mono ?_
      rintro e w2 ⟨⟨ao, n, cap, rfl, ⟨h0, hr⟩ | ⟨rfl, hr⟩⟩, hk2⟩
      · have HR := Lib.hid hr; clear hr
        go_wp2_with fail
        go_ret
        exact ⟨by rw [HR.out]; rfl, hk2⟩
      · have HR := Lib.hid hr; clear hr
        go_wp2_with fail
        go_ret
        exact ⟨by rw [HR.out]; rfl, hk2⟩

theorem rkind_any (l : List UInt8) (w : World) (hl : l.length ≤ 1099511627776) : Calls Tryd.prog 24 #[.string (bs l)] w fun e w' => e = .returned (.int .i64 (kindL l : Int)) ∧ Kept (fun _ => False) w w' := by
  cases h : isUn l with
  | true =>
    rw [kind_un h]
    exact rkind_un l w h
  | false =>
    have e : kindL l = restKind l := by unfold kindL restKind; rw [h]; simp
    rw [e]
    exact rkind_rest l w hl h

end Go.Proofs.YtofpnlmlenffnaaDoor
