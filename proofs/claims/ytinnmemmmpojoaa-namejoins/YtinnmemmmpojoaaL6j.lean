/-
  NameJoins: the walk.
-/
import Derived.Test.YtinnmemmmpojoaaL6
import Derived.Test.YtinnmemmmpojoaaR6d
import Derived.Test.YtinnmemmmpojoaaNg
import Derived.Test.YtinnmemmmpojoaaFits
import Derived.Deep.CutBlock
import Derived.Deep.DeepCutAuto
namespace Go.Proofs.Ytinnmemmmpojoaa
open Go.RowKit Go.Mk

/-- A []string that came in. -/
theorem strs_of {w : World} {B : Nat} {cs : List Value} {v : (Ty.slice .str).Val} (h : Fits w B (.slice .str) cs v) :
    ∃ (ao : Option Addr) (cap : Nat) (la : List (List UInt8)), cs = [.slice ao la.length cap] ∧ Lies w B ao (strs la) ∧ la.length ≤ maxLen := by
  obtain ⟨ao, cap, l, -, h1, h2, h3, _, h5, _⟩ := fits_strs h
  refine ⟨ao, cap, l.map (fun b => b.data.toList), by rw [List.length_map]; exact h1, ?_, by rw [List.length_map]; omega⟩
  have e : strs (l.map (fun b => b.data.toList)) = l.map .string := by
    unfold strs
    rw [List.map_map]
    rfl
  rw [e]
  exact h5

theorem flat_le (ls : List (List UInt8)) (h : ∀ t ∈ ls, t.length ≤ 100) : ls.flatten.length ≤ 100 * ls.length := by
  induction ls with
  | nil => simp
  | cons t ls ih =>
    have h1 := h t (by simp)
    have h2 := ih (fun x hx => h x (by simp [hx]))
    rw [List.flatten_cons, List.length_append, List.length_cons]
    omega

set_option maxHeartbeats 2000000 in
theorem joins_walk (aa : Option Addr) (ca : Nat) (la : List (List UInt8)) (w : World) (hA : Lies w w.heap.size aa (strs la)) : Calls Try.prog 5 #[.slice aa la.length ca] w fun e w' => e = .returned (.bool true) ∧ Below w.heap.size w w' := by
  have HW := Lib.hid (fun w => awake6_any w)
  have HA := Lib.hid hA; clear hA
  by_cases h : 20 < la.length
  · have h1 : (20 : Int) < (la.length : Int) := by omega
    clear h
    go_enter Try.func5, Try.ntmps5
    go_wp2_with fail
    refine (HW.out _).mono ?_
    rintro e w1 ⟨rfl, k1⟩
    go_wp2_with fail
    refine (HW.out _).mono ?_
    rintro e w2 ⟨rfl, k2⟩
    go_wp2
    go_ret
    exact ⟨rfl, keeps_below (k1.trans k2 (fun _ _ h => h))⟩
  · have h1 : ¬ (20 : Int) < (la.length : Int) := by omega
    have HL := Lib.hid (show la.length ≤ 20 by omega)
    clear h
    go_enter Try.func5, Try.ntmps5
    go_wp2_with fail
    refine (HW.out _).mono ?_
    rintro e w1 ⟨rfl, k1⟩
    have HK1 := Lib.hid k1; clear k1
    go_wp2_with fail
    go_loopg [3, 4] la.length (fun k s i wr => ∃ j : Nat, k = la.length - j ∧ s = .string (bs (la.take j).flatten) ∧ i = .int .i64 (j : Int) ∧ j ≤ la.length ∧ (∀ t ∈ la.take j, t.length ≤ 100) ∧ w1 = wr)
    case atStart => exact ⟨0, rfl, rfl, rfl, Nat.zero_le _, by simp, rfl⟩
    case round =>
      obtain ⟨j, hk, rfl, rfl, hj, hall, rfl⟩ := hrel
      have HK := Lib.hid hk; have HALL := Lib.hid hall; clear hk hall
      by_cases hlt : j < la.length
      · obtain ⟨xb, xo, rfl, hxb, hc⟩ := (HA.out.kept HK1.out (fun _ _ _ h => h)) (by intro h; simp [strs] at h; rw [h] at hlt; simp at hlt)
        have hx : w1.cell? ⟨xb, xo + j, none⟩ = some (.string (bs (la[j]'hlt))) := hc j _ (by simp [strs, hlt])
        clear hc
        have i1 : (j : Int) < (la.length : Int) := by omega
        have e1 : la.take (j + 1) = la.take j ++ [la[j]'hlt] := by rw [List.take_add_one, List.getElem?_eq_getElem hlt]; rfl
        have htk : (la.take (j + 1)).flatten = (la.take j).flatten ++ la[j]'hlt := by
          rw [e1]
          simp only [List.flatten_append, List.flatten_cons, List.flatten_nil, List.append_nil]
        have hall2 : (la[j]'hlt).length ≤ 100 → ∀ t ∈ la.take (j + 1), t.length ≤ 100 := fun h t ht => by
          rw [e1] at ht
          rcases List.mem_append.1 ht with ht | ht
          · exact HALL.out t ht
          · simp at ht; subst ht; exact h
        have hfl := flat_le _ HALL.out
        have hln := HL.out
        rw [List.length_take] at hfl
        have hap := bs_append (la.take j).flatten (la[j]'hlt)
        rw [← htk] at hap
        have hsz : (bs (la[j]'hlt)).size = (la[j]'hlt).length := bs_size _
        have hsz2 : (bs (la.take j).flatten).size = (la.take j).flatten.length := bs_size _
        have HALL2 := Lib.hid hall2; clear hall2 htk e1
        generalize la[j]'hlt = x at *
        by_cases h100 : 100 < x.length
        · have i2 : (100 : Int) < ((bs x).size : Int) := by omega
          go_wp2_with fail
          go_ret
          exact ⟨rfl, keeps_below HK1.out⟩
        · have i2 : ¬ (100 : Int) < ((bs x).size : Int) := by omega
          have HA2 := Lib.hid (HALL2.out (by omega))
          obtain ⟨sn, hsn⟩ : ∃ sn, sn = bs (la.take (j + 1)).flatten := ⟨_, rfl⟩
          rw [← hsn] at hap
          have HSN := Lib.hid hsn; clear hsn
          go_wp2_with fail
          go_roundg (la.length - (j + 1))
          case measure => have := HK.out; omega
          case rel => exact ⟨j + 1, rfl, by rw [HSN.out], by go_num, by omega, HA2.out, rfl⟩
      · obtain rfl : j = la.length := by omega
        have hall := HALL.out
        rw [List.take_length] at hall
        rw [List.take_length]
        have hfl := flat_le _ hall
        have hln := HL.out
        have hflen : la.flatten.length ≤ 1099511627776 := by omega
        have HRP := Lib.hid (fun w => rparts_any la.flatten w hflen)
        have HNP := Lib.hid (fun w => nparts_any la.flatten w hflen)
        have HNK := Lib.hid (fun w => nkind_any la.flatten w hflen)
        have HJ := Lib.hid (fun w hA => njoin_any aa ca la w hA (by omega) hflen)
        have hpl := parts_len la.flatten
        have HJ2 : Hid (∀ ao cap w, kindL la.flatten ≠ 0 → Lies w w.heap.size ao (strs (partsL la.flatten)) → Calls Try.prog 22 #[.slice ao (partsL la.flatten).length cap] w fun e w' => e = .returned (.string (bs la.flatten)) ∧ Kept (fun _ => False) w w') := by
          intro ao cap w hk hL
          have hpf : (partsL la.flatten).flatten = la.flatten := (kind_parts la.flatten).2 hk
          have := njoin_any ao cap (partsL la.flatten) w hL (by omega) (by rw [hpf]; exact hflen)
          rw [join_parts hk] at this
          exact this
        have b1 := bs_list la.flatten
        have b2 := bs_list ([] : List UInt8)
        have hjd : joinL la = if partsL la.flatten = la then la.flatten else [] := rfl
        have HJD := Lib.hid hjd
        clear hall hfl hflen hjd
        go_wp2_with fail
        refine (HRP.out _).mono ?_
        rintro e w2 ⟨ao2, cap2, rfl, hL2, k2⟩
        have HL2 := Lib.hid hL2; have HK2 := Lib.hid (HK1.out.trans k2 (fun _ _ h => h)); clear hL2 k2
        have HS := Lib.hid (same_any ao2 cap2 (partsL la.flatten) aa ca la w2.heap.size w2 HL2.out ((HA.out.kept HK2.out (fun _ _ _ h => h)).mono HK2.out.size) (by omega) (by omega))
        go_wp2_with fail
        refine HS.out.mono ?_
        rintro e w3 ⟨rfl, k3⟩
        have HK3 := Lib.hid (HK2.out.trans k3 (fun _ _ h => h)); clear k3
        go_upto_if 37 with fail
        go_cut [5] (fun v wx => v = .string (bs (joinL la)) ∧ w3 = wx)
        case first =>
          by_cases he : partsL la.flatten = la
          · have hE : (partsL la.flatten == la) = true := by rw [beq_iff_eq]; exact he
            have EJ := HJD.out
            rw [if_pos he] at EJ
            rw [hE]
            have EJH := Lib.hid EJ; clear hE he EJ
            go_wp2_with fail
            go_meet
            case rel => exact ⟨by rw [EJH.out], rfl⟩
          · have hE : (partsL la.flatten == la) = false := by rw [beq_eq_false_iff_ne]; exact he
            have EJ := HJD.out
            rw [if_neg he] at EJ
            rw [hE]
            have EJH := Lib.hid EJ; clear hE he EJ
            go_wp2_with fail
            go_meet
            case rel => exact ⟨by rw [EJH.out]; rfl, rfl⟩
        case rest =>
          obtain ⟨rfl, rfl⟩ := hcut
          have HJW := Lib.hid (HJ.out w3 ((HA.out.kept HK3.out (fun _ _ _ h => h)).mono HK3.out.size))
          have b3 := bs_list (joinL la)
          clear HJD HJ b2
          generalize joinL la = jl at *
          have hjj : (jl == jl) = true := by simp
          have hss : (la.flatten == la.flatten) = true := by simp
          go_wp2_with fail
          refine HJW.out.mono ?_
          rintro e w4 ⟨rfl, k4⟩
          have HK4 := Lib.hid (HK3.out.trans k4 (fun _ _ h => h)); clear k4
          go_wp2_with fail
          refine (HNK.out _).mono ?_
          rintro e w5 ⟨rfl, k5⟩
          have HK5 := Lib.hid (HK4.out.trans k5 (fun _ _ h => h)); clear k5
          by_cases hz : kindL la.flatten = 0
          · rw [hz]
            go_wp2_with fail
            go_ret
            exact ⟨rfl, keeps_below HK5.out⟩
          · have hz1 : ((kindL la.flatten : Int) == 0) = false := by rw [beq_eq_false_iff_ne]; omega
            have HJ3 := Lib.hid (fun ao cap w => HJ2.out ao cap w hz)
            clear HJ2 hz
            generalize kindL la.flatten = kd at *
            generalize partsL la.flatten = ps at *
            go_wp2_with fail
            refine (HNP.out _).mono ?_
            rintro e w6 ⟨ao6, cap6, rfl, hL6, k6⟩
            have HK6 := Lib.hid (HK5.out.trans k6 (fun _ _ h => h)); clear k6
            have HX := Lib.hid (HJ3.out ao6 cap6 w6 hL6); clear hL6
            go_wp2_with fail
            refine HX.out.mono ?_
            rintro e w7 ⟨rfl, k7⟩
            have HK7 := Lib.hid (HK6.out.trans k7 (fun _ _ h => h)); clear k7
            go_wp2_with fail
            go_ret
            exact ⟨by first | rfl | simp, keeps_below HK7.out⟩

end Go.Proofs.Ytinnmemmmpojoaa
