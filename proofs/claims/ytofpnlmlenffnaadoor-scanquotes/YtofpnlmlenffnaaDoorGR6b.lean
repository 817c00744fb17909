/-
  Lemmas towards the claim of this folder: contracts of the functions that the law reaches; joined texts.
-/
import Derived.Test.YtofpnlmlenffnaaDoorGTk12
import Derived.Test.YtofpnlmlenffnaaDoorNd
/-
  CONTRACTS of the reference of layer 6: In, Class, Var, Always.
-/
namespace Go.Proofs.YtofpnlmlenffnaaDoor
open Go.RowKit Go.Mk

set_option maxHeartbeats 400000 in
theorem rin_any (aa : Option Addr) (ca : Nat) (la : List (List UInt8)) (l : List UInt8) (B : Nat) (w : World) (hA : Lies w B aa (strs la)) (hl : la.length ≤ 1099511627776) :
    Calls Tryd.prog 26 #[.slice aa la.length ca, .string (bs l)] w fun e w' => e = .returned (.bool (la.contains l)) ∧ w = w' := by
  have HA := Lib.hid hA; clear hA
  go_enter Tryd.func26, Tryd.ntmps26
  go_wp2
  go_loopg [5] la.length (fun k v wr => ∃ j : Nat, k = la.length - j ∧ v = .int .i64 (j : Int) ∧ j ≤ la.length ∧ (la.take j).contains l = false ∧ w = wr)
  case atStart => exact ⟨0, rfl, rfl, Nat.zero_le _, rfl, rfl⟩
  case round =>
    obtain ⟨j, hk, rfl, hj, hev, rfl⟩ := hrel
    have HK := Lib.hid hk; have HEV := Lib.hid hev; clear hk hev
    by_cases hlt : j < la.length
    · obtain ⟨xb, xo, rfl, hxb, hc⟩ := HA.out (by intro h; simp [strs] at h; rw [h] at hlt; simp at hlt)
      have hx : w.cell? ⟨xb, xo + j, none⟩ = some (.string (bs la[j])) := hc j _ (by simp [strs, hlt])
      clear hc
      have i1 : (j : Int) < (la.length : Int) := by omega
      have b1 := bs_list la[j]
      have b2 := bs_list l
      have htk : (la.take (j + 1)).contains l = (la[j] == l) := by
        have e : la.take (j + 1) = la.take j ++ [la[j]] := by rw [List.take_add_one, List.getElem?_eq_getElem hlt]; rfl
        have h := HEV.out
        rw [e, List.contains_eq_any_beq, List.any_append, ← List.contains_eq_any_beq, h]
        simp [Bool.beq_comm]
      have hyes : (la[j] == l) = true → la.contains l = true := fun h => by
        rw [List.contains_iff_mem]
        have := List.getElem_mem hlt
        rwa [eq_of_beq h] at this
      have HTK := Lib.hid htk; have HY := Lib.hid hyes; clear htk hyes
      generalize la[j] = x at *
      cases hxy : x == l with
      | true =>
        have E := Lib.hid (HY.out hxy)
        go_wp2
        go_ret
        exact ⟨by rw [E.out]; rfl, rfl⟩
      | false =>
        rw [hxy] at HTK
        go_wp2
        go_roundg (la.length - (j + 1))
        case measure => have := HK.out; omega
        case rel => exact ⟨j + 1, rfl, by go_num, by omega, HTK.out, rfl⟩
    · obtain rfl : j = la.length := by omega
      have E := Lib.hid HEV.out
      rw [List.take_length] at E
      go_wp2
      go_ret
      exact ⟨by rw [E.out]; rfl, rfl⟩

theorem nm_upp {c : UInt8} {t : List UInt8} (h : isNm (c :: t) = true) : uppI c.toNat = !lowI c.toNat := by
  simp only [isNm, Bool.and_eq_true] at h
  have h2 := h.1.2
  have h3 : (lowI c.toNat || uppI c.toNat) = true := h2
  have h4 : ¬ (lowI c.toNat = true ∧ uppI c.toNat = true) := by
    simp [lowI, uppI]
    omega
  cases hl : lowI c.toNat with
  | false => rw [hl] at h3; simpa using h3
  | true =>
    cases hu : uppI c.toNat with
    | false => rfl
    | true => exact (h4 ⟨hl, hu⟩).elim

end Go.Proofs.YtofpnlmlenffnaaDoor

/-
  CONTRACTS of the reference of layer 6: Keywords.
-/
namespace Go.Proofs.YtofpnlmlenffnaaDoor
open Go.RowKit Go.Mk

/-- The reference's Keywords, so far. -/
def RkAt (l : List UInt8) (w : World) (j : Nat) (v : Value) (st : Nat) (wr : World) : Prop :=
  j ≤ l.length ∧ (cutL (l.take j)).1.flatten.length = st ∧ (cutL (l.take j)).1.length ≤ j ∧ (cutL (l.take j)).1.all goodP = true ∧
    wr.ownsRow w.heap.size 9 1 v (cutL (l.take j)).1.length (strs (cutL (l.take j)).1)

theorem rkat_step {l : List UInt8} {w : World} {j : Nat} {v : Value} {st : Nat} {wr : World} (hat : RkAt l w j v st wr) (hj : j < l.length) (hne : l[j]'hj ≠ 58) : RkAt l w (j + 1) v st wr := by
  obtain ⟨h1, h2, h3, h4, h5⟩ := hat
  have e := cutL_take l j hj
  unfold cutS at e
  rw [if_neg hne] at e
  refine ⟨by omega, ?_, ?_, ?_, ?_⟩
  · rw [e]; exact h2
  · rw [e]; show (cutL (l.take j)).1.length ≤ j + 1; omega
  · rw [e]; exact h4
  · rw [e]; exact h5

theorem rkat_bad {l : List UInt8} {w : World} {j : Nat} {v : Value} {st : Nat} {wr : World} (hat : RkAt l w j v st wr) (hj : j < l.length) (hc : l[j]'hj = 58) (hb : isUn ((l.take j).drop st) = false) : kwL l = [] := by
  obtain ⟨h1, h2, h3, h4, h5⟩ := hat
  have e := cutL_take l j hj
  unfold cutS at e
  rw [if_pos hc] at e
  rw [cut_open l j st h2] at hb
  refine kw_bad (j + 1) ((cutL (l.take j)).2 ++ [58]) ?_ ?_
  · rw [e]; simp
  · unfold goodP; rw [List.dropLast_concat]; exact hb

theorem rkat_more {l : List UInt8} {w : World} {j : Nat} {v : Value} {st : Nat} {wr : World} (hat : RkAt l w j v st wr) (hj : j < l.length) (hc : l[j]'hj = 58) (hg : isUn ((l.take j).drop st) = true) :
    ∃ ao n cap, v = .slice ao n cap ∧ n ≤ j ∧ wr.ownsRow w.heap.size 9 1 (.slice ao n cap) n (strs (cutL (l.take j)).1) ∧ (l.take (j + 1)).drop st = (l.take j).drop st ++ [58] ∧
      ∀ v' wz, wz.ownsRow w.heap.size 9 1 v' (n + 1) (strs (cutL (l.take j)).1 ++ [.string (bs ((l.take j).drop st ++ [58]))]) → RkAt l w (j + 1) v' (j + 1) wz := by
  obtain ⟨h1, h2, h3, h4, h5⟩ := hat
  have e := cutL_take l j hj
  unfold cutS at e
  rw [if_pos hc] at e
  have hco := cut_open l j st h2
  obtain ⟨ao, cap, rfl⟩ := owns_slice h5
  have htk : l.take (j + 1) = l.take j ++ [58] := by rw [List.take_add_one, List.getElem?_eq_getElem hj, hc]; rfl
  have hle := cut_le l j
  rw [h2] at hle
  refine ⟨ao, _, cap, rfl, h3, h5, ?_, fun v' wz hz => ⟨by omega, ?_, ?_, ?_, ?_⟩⟩
  · rw [htk, List.drop_append_of_le_length hle]
  · rw [e]
    have := congrArg List.length (cutL_flat (l.take j))
    rw [List.length_append, List.length_take] at this
    simp only [List.flatten_append, List.flatten_cons, List.flatten_nil, List.append_nil, List.length_append, List.length_cons, List.length_nil]
    omega
  · rw [e]; simp; omega
  · rw [e]
    simp only [List.all_append, h4, Bool.true_and, List.all_cons, List.all_nil, Bool.and_true]
    unfold goodP
    rw [List.dropLast_concat, ← hco]
    exact hg
  · rw [e]
    rw [hco] at hz
    simpa [strs_app, strs] using hz

set_option maxHeartbeats 1000000 in
theorem rkw_any (l : List UInt8) (w : World) (hl : l.length ≤ 1099511627776) : Calls Tryd.prog 33 #[.string (bs l)] w (NewTexts w (kwL l)) := by
  obtain ⟨i0, hi, hz0, hz1, hz2⟩ := info_parts Tryd.infoStr
  have hs : (bs l).size = l.length := bs_size l
  go_enter Tryd.func33, Tryd.ntmps33
  go_wp2
  go_loopg [3, 4, 5] l.length (fun k v c i wr => ∃ j st : Nat, k = l.length - j ∧ c = .int .i64 (st : Int) ∧ i = .int .i64 (j : Int) ∧ st ≤ j ∧ RkAt l w j v st wr ∧ Kept (fun _ => False) w wr)
  case atStart => exact ⟨0, 0, rfl, rfl, rfl, Nat.le_refl _, ⟨Nat.zero_le _, rfl, Nat.zero_le _, rfl, World.ownsRow_nil _ _ _ _⟩, Kept.refl _ w⟩
  case round =>
    obtain ⟨j, st, hk, rfl, rfl, hst, hat, hkp⟩ := hrel
    have HK := Lib.hid hk; have HKP := Lib.hid hkp; have HAT := Lib.hid hat; clear hk hkp hat
    by_cases hlt : j < l.length
    · have hlt1 : (j : Int) < ((bs l).size : Int) := by omega
      have i1 : (st : Int) ≤ (j : Int) := by omega
      have i2 : (j : Int) ≤ ((bs l).size : Int) := by omega
      have i3 : (j : Int) + 1 ≤ ((bs l).size : Int) := by omega
      have i4 : (st : Int) ≤ (j : Int) + 1 := by omega
      have hgj : ∀ h : j < (bs l).size, (((bs l)[j]'h).toNat : Int) = ((l[j]'hlt).toNat : Int) := fun h => by rw [bs_get l j hlt]
      by_cases hc : l[j]'hlt = 58
      · have hg2 : ((l[j]'hlt).toNat : Int) = 58 := by rw [hc]; rfl
        rw [hg2] at hgj
        have hx1 : (bs l).extract st j = bs ((l.take j).drop st) := bs_extract l st j
        have hx2 : (bs l).extract st (j + 1) = bs ((l.take (j + 1)).drop st) := bs_extract l st (j + 1)
        have hI := ris_any ((l.take j).drop st) wr
        cases hg : isUn ((l.take j).drop st) with
        | false =>
          have E := Lib.hid (rkat_bad HAT.out hlt hc hg)
          cases hn : isNm ((l.take j).drop st) with
          | false =>
            rw [hn] at hI
            have HI := Lib.hid hI; clear hI hx2 hg hn hg2
            generalize (l.take j).drop st = cur at *
            go_wp2_with (go_at_call 31; refine HI.out.mono ?_; rintro e w3 ⟨rfl, rfl⟩)
            go_ret
            refine ⟨none, 0, by rw [E.out]; rfl, ?_, HKP.out⟩
            rw [E.out]
            exact Lies.nil _ _ _
          | true =>
            rw [hn] at hI
            have HI := Lib.hid hI; clear hI hx2 hg2
            generalize (l.take j).drop st = cur at *
            cases cur with
            | nil => cases hn
            | cons c t =>
              obtain ⟨h1, h2, h3, _⟩ := txt_cons c t
              have hd := txt_hd c t
              have hL := rlow_any c.toNat wr
              have hlow : lowI c.toNat = false := by
                unfold isUn at hg
                rw [hn, Bool.true_and] at hg
                exact hg
              rw [hlow] at hL
              have HL := Lib.hid hL; clear hL hlow hn hg
              generalize bs (c :: t) = p at *
              go_wp2_with fail
              refine HI.out.mono ?_
              rintro e w3 ⟨rfl, rfl⟩
              go_wp2_with fail
              refine HL.out.mono ?_
              rintro e w3 ⟨rfl, rfl⟩
              go_wp2_with fail
              go_ret
              refine ⟨none, 0, by rw [E.out]; rfl, ?_, HKP.out⟩
              rw [E.out]
              exact Lies.nil _ _ _
        | true =>
          obtain ⟨ao, n, cap, rfl, hnj, ho, hdr, hnew⟩ := rkat_more HAT.out hlt hc hg
          rw [hdr] at hx2
          have HO := Lib.hid ho; have HNEW := Lib.hid hnew
          clear ho hnew hdr hg2
          generalize (cutL (l.take j)).1 = ps at *
          generalize (l.take j).drop st = cur at *
          have hn : isNm cur = true := by
            unfold isUn at hg
            rw [Bool.and_eq_true] at hg
            exact hg.1
          rw [hn] at hI
          have HI := Lib.hid hI; clear hI
          have HQ : Hid (∃ p : ByteArray, p = bs (cur ++ [58])) := ⟨_, rfl⟩
          obtain ⟨q, hq⟩ := HQ.out
          rw [← hq] at hx2 HNEW
          clear HQ hq
          cases cur with
          | nil => cases hn
          | cons c t =>
            obtain ⟨h1, h2, h3, _⟩ := txt_cons c t
            have hd := txt_hd c t
            have hL := rlow_any c.toNat wr
            have hlow : lowI c.toNat = true := by
              unfold isUn at hg
              rw [hn, Bool.true_and] at hg
              exact hg
            rw [hlow] at hL
            have HL := Lib.hid hL; clear hL hlow hn hg
            generalize bs (c :: t) = p at *
            go_wp2_with fail
            refine HI.out.mono ?_
            rintro e w3 ⟨rfl, rfl⟩
            go_wp2_with fail
            refine HL.out.mono ?_
            rintro e w3 ⟨rfl, rfl⟩
            go_wp2_with (at_builtin; refine wpList_app _ rfl (.tmp 30) (.tmp 36) 51 51 rfl 9 i0 (.string ⟨#[]⟩) 1 16 Tryd.underlying51 hi hz0 hz1 hz2 rfl _ _ _ rfl (owns_base (HO.out.alloc _) (fun _ _ => Nat.zero_le _)) (.slice (some ⟨wr.heap.size, 0, none⟩) 1 1) 1 [.string q] rfl (src_one Tryd.underlying51 wr _ _ rfl) ?b1 ?b2 ?next)
            case b1 => unfold maxLen; omega
            case b2 => omega
            case next =>
              intro v' w5 ho5 hg5 hb5 _
              have hlt5 := owns_lt HO.out
              have hsz := HKP.out.size
              have H1 := Lib.hid (owns_base (base' := w.heap.size) ho5 (fun k hk => by
                rcases hb5 with hb | hb
                · rw [hb] at hk; exact (hlt5 k hk).1
                · rw [hb] at hk
                  simp at hk
                  omega))
              have H3 := Lib.hid ((HKP.out.alloc (.cells #[.string q] 9)).grown hg5 (fun k hk hl => by have := (hlt5 k hk).1; omega))
              clear ho5 hg5 hb5 hlt5
              obtain ⟨ao5, cap5, rfl⟩ := owns_slice H1.out
              go_wp2
              go_roundg (l.length - (j + 1))
              case measure => have := HK.out; omega
              case rel => exact ⟨j + 1, j + 1, rfl, by go_num, by go_num, Nat.le_refl _, HNEW.out _ _ H1.out, H3.out⟩
      · have hne : (((l[j]'hlt).toNat : Int) == 58) = false := by
          rw [beq_eq_false_iff_ne]
          intro h
          exact hc (UInt8.toNat_inj.1 (by show (l[j]'hlt).toNat = 58; omega))
        have HAT2 := Lib.hid (rkat_step HAT.out hlt hc)
        generalize ((l[j]'hlt).toNat : Int) = x at *
        have hne2 : (x != 58) = true := by simp [bne, hne]
        go_wp2_with fail
        go_roundg (l.length - (j + 1))
        case measure => have := HK.out; omega
        case rel => exact ⟨j + 1, st, rfl, rfl, by go_num, by omega, HAT2.out, HKP.out⟩
    · obtain ⟨h1, h2, h3, h4, h5⟩ := HAT.out
      obtain rfl : j = l.length := by omega
      rw [List.take_length] at h2 h3 h4 h5
      obtain ⟨ao, cap, rfl⟩ := owns_slice h5
      have hf := congrArg List.length (cutL_flat l)
      rw [List.length_append, h2] at hf
      by_cases he : (cutL l).2 = []
      · rw [he] at hf
        have hst2 : ((st : Int) == (l.length : Int)) = true := by
          rw [beq_iff_eq]
          simp at hf
          omega
        have hst3 : ((st : Int) != (l.length : Int)) = false := by simp [bne, hst2]
        by_cases h10 : (cutL l).1.length ≤ 10
        · have e := kw_ok he h10 h4
          have i5 : ¬ (10 : Int) < ((cutL l).1.length : Int) := by omega
          have H5 := Lib.hid h5; have E := Lib.hid e; clear h5 e he hf h2 h3 h4 h10
          generalize (cutL l).1 = ps at *
          go_wp2
          go_ret
          refine ⟨ao, cap, by rw [E.out]; rfl, ?_, HKP.out⟩
          rw [E.out]
          exact owns_lies H5.out
        · have e : kwL l = [] := kw_many l.length (by rw [List.take_length]; omega)
          have i5 : (10 : Int) < ((cutL l).1.length : Int) := by omega
          have E := Lib.hid e; clear h5 e he hf h2 h3 h4 h10
          generalize (cutL l).1 = ps at *
          go_wp2
          go_ret
          refine ⟨none, 0, by rw [E.out]; rfl, ?_, HKP.out⟩
          rw [E.out]
          exact Lies.nil _ _ _
      · have e := kw_end he
        have hst2 : ((st : Int) == (l.length : Int)) = false := by
          have : (cutL l).2.length ≠ 0 := by simpa using he
          rw [beq_eq_false_iff_ne]
          omega
        have hst3 : ((st : Int) != (l.length : Int)) = true := by simp [bne, hst2]
        have E := Lib.hid e; clear h5 e he hf h2 h3 h4
        generalize (cutL l).1 = ps at *
        go_wp2
        go_ret
        refine ⟨none, 0, by rw [E.out]; rfl, ?_, HKP.out⟩
        rw [E.out]
        exact Lies.nil _ _ _

end Go.Proofs.YtofpnlmlenffnaaDoor
