/-
  CONTRACT of package name's keywords.
-/
import Derived.Test.YtofpnlmlenffnaaDoorNa
import Derived.Test.YtofpnlmlenffnaaDoorNc
namespace Go.Proofs.YtofpnlmlenffnaaDoor
open Go.RowKit Go.Mk

/-- What a call that returns new texts leaves. -/
def NewTexts (w : World) (ps : List (List UInt8)) (e : Ending) (w' : World) : Prop :=
  ∃ ao cap, e = .returned (.slice ao ps.length cap) ∧ Lies w' w'.heap.size ao (strs ps) ∧ Kept (fun _ => False) w w'

/-- Keywords, so far: at byte j; the pieces stand in v, the open one begins at 'st'. -/
def KwAt (l : List UInt8) (w : World) (j : Nat) (v : Value) (st : Nat) (wr : World) : Prop :=
  (j ≤ l.length ∧ (cutL (l.take j)).1.flatten.length = st ∧ (cutL (l.take j)).1.length ≤ 10 ∧ (cutL (l.take j)).1.all goodP = true ∧
    wr.ownsRow (w.heap.size + 1) 9 1 v (cutL (l.take j)).1.length (strs (cutL (l.take j)).1)) ∨
  (∃ b, st ≤ b ∧ b < j ∧ ∃ h : b < l.length, 128 ≤ l[b].toNat) ∧ ∃ ao n cap, v = .slice ao n cap

theorem cut_le (l : List UInt8) (j : Nat) : (cutL (l.take j)).1.flatten.length ≤ (l.take j).length := by
  have := congrArg List.length (cutL_flat (l.take j))
  rw [List.length_append] at this
  omega

theorem cut_open (l : List UInt8) (j st : Nat) (h : (cutL (l.take j)).1.flatten.length = st) : (l.take j).drop st = (cutL (l.take j)).2 := by
  have := cutL_flat (l.take j)
  calc (l.take j).drop st = ((cutL (l.take j)).1.flatten ++ (cutL (l.take j)).2).drop st := by rw [this]
    _ = (cutL (l.take j)).2 := by rw [← h, List.drop_left]

theorem owns_iter {w wr : World} {v : Value} {n : Nat} {xs : List Value} {e : TypeId} (h : wr.ownsRow (w.heap.size + 1) e 1 v n xs) (s : ByteArray) (pos : Nat) : (wr.iterAt w.heap.size s pos).ownsRow (w.heap.size + 1) e 1 v n xs :=
  owns_kept (S := fun k => k = w.heap.size) h ⟨rfl, rfl, rfl, by rw [Lib.iterAt_size]; exact Nat.le_refl _, fun i _ hn => Lib.iterAt_other wr w.heap.size i s pos hn⟩ (fun k hk e => by have := (owns_lt h k hk).1; omega)

/-- On, over what is no colon. -/
theorem kwat_step {l : List UInt8} {w : World} {j : Nat} {v : Value} {st : Nat} {wr : World} (hat : KwAt l w j v st wr) (hst : st ≤ j) (hj : j < l.length) (hne : l[j] ≠ 58) (d : Nat) (hd : l[j].toNat < 128 → d = 1) (hd1 : 1 ≤ d) (s : ByteArray) (pos : Nat) :
    KwAt l w (j + d) v st (wr.iterAt w.heap.size s pos) := by
  rcases hat with ⟨h1, h2, h3, h4, h5⟩ | ⟨⟨b, b1, b2, b3, b4⟩, h⟩
  · by_cases ha : l[j].toNat < 128
    · obtain rfl := hd ha
      have e := cutL_take l j hj
      unfold cutS at e
      rw [if_neg hne] at e
      refine .inl ⟨by omega, ?_, ?_, ?_, ?_⟩
      · rw [e]; exact h2
      · rw [e]; exact h3
      · rw [e]; exact h4
      · rw [e]; exact owns_iter h5 s pos
    · obtain ⟨ao, cap, rfl⟩ := owns_slice h5
      exact .inr ⟨⟨j, hst, by omega, hj, by omega⟩, ao, _, cap, rfl⟩
  · exact .inr ⟨⟨b, b1, by omega, b3, b4⟩, h⟩

theorem kwat_slice {l : List UInt8} {w : World} {j : Nat} {v : Value} {st : Nat} {wr : World} (hat : KwAt l w j v st wr) : ∃ ao n cap, v = .slice ao n cap := by
  rcases hat with ⟨_, _, _, _, h5⟩ | ⟨_, h⟩
  · obtain ⟨ao, cap, rfl⟩ := owns_slice h5
    exact ⟨ao, _, cap, rfl⟩
  · exact h

/-- A colon: what came before is no name. -/
theorem kwat_nil {l : List UInt8} {w : World} {j : Nat} {ao : Option Addr} {n cap : Nat} {st : Nat} {wr : World} (hat : KwAt l w j (.slice ao n cap) st wr) (hj : j < l.length) (hc : l[j] = 58) (hb : n = 10 ∨ isUn ((l.take j).drop st) = false) : kwL l = [] := by
  rcases hat with ⟨h1, h2, h3, h4, h5⟩ | ⟨⟨b, b1, b2, b3, b4⟩, h⟩
  · have e := cutL_take l j hj
    unfold cutS at e
    rw [if_pos hc] at e
    obtain ⟨ao', cap', e2⟩ := owns_slice h5
    cases e2
    rcases hb with hb | hb
    · refine kw_many (j + 1) ?_
      rw [e]
      simp
      omega
    · rw [cut_open l j st h2] at hb
      refine kw_bad (j + 1) ((cutL (l.take j)).2 ++ [58]) ?_ ?_
      · rw [e]; simp
      · unfold goodP; rw [List.dropLast_concat]; exact hb
  · exact kw_high l[b] (List.getElem_mem b3) b4

/-- A colon: one name more. -/
theorem kwat_more {l : List UInt8} {w : World} {j : Nat} {ao : Option Addr} {n cap : Nat} {st : Nat} {wr : World} (hat : KwAt l w j (.slice ao n cap) st wr) (hj : j < l.length) (hc : l[j] = 58) (hn : n ≠ 10) (hg : isUn ((l.take j).drop st) = true) :
    wr.ownsRow (w.heap.size + 1) 9 1 (.slice ao n cap) n (strs (cutL (l.take j)).1) ∧ n ≤ 10 ∧ (l.take (j + 1)).drop st = (l.take j).drop st ++ [58] ∧
      ∀ v' wz, wz.ownsRow (w.heap.size + 1) 9 1 v' (n + 1) (strs (cutL (l.take j)).1 ++ [.string (bs ((l.take j).drop st ++ [58]))]) → KwAt l w (j + 1) v' (j + 1) wz := by
  rcases hat with ⟨h1, h2, h3, h4, h5⟩ | ⟨⟨b, b1, b2, b3, b4⟩, h⟩
  · have e := cutL_take l j hj
    unfold cutS at e
    rw [if_pos hc] at e
    have hco := cut_open l j st h2
    obtain ⟨ao', cap', e2⟩ := owns_slice h5
    cases e2
    have htk : l.take (j + 1) = l.take j ++ [58] := by rw [List.take_add_one, List.getElem?_eq_getElem hj, hc]; rfl
    have hle := cut_le l j
    rw [h2] at hle
    refine ⟨h5, h3, ?_, fun v' wz hz => .inl ⟨by omega, ?_, ?_, ?_, ?_⟩⟩
    · rw [htk, List.drop_append_of_le_length hle]
    · rw [e]
      have := congrArg List.length (cutL_flat (l.take j))
      rw [List.length_append, List.length_take] at this
      simp only [List.flatten_append, List.flatten_cons, List.flatten_nil, List.append_nil, List.length_append, List.length_cons, List.length_nil]
      omega
    · rw [e]; simp; omega
    · rw [e]
      simp only [List.all_append, h4, Bool.true_and, List.all_cons, List.all_nil, Bool.and_true]
      unfold goodP
      rw [List.dropLast_concat, ← hco]
      exact hg
    · rw [e]
      rw [hco] at hz
      simpa [strs_app, strs] using hz
  · have := isUn_all hg l[b] (by
      have hm : b - st < ((l.take j).drop st).length := by rw [List.length_drop, List.length_take]; omega
      have e : ((l.take j).drop st)[b - st] = l[b] := by
        rw [List.getElem_drop, List.getElem_take]
        congr 1
        omega
      rw [← e]
      exact List.getElem_mem _)
    rw [aln_128 b4] at this
    cases this

/-- The iterator's block, and what was there, behind an append onto the pieces. -/
theorem iter_grown {w w' : World} {k : Nat} {s : ByteArray} {pos : Nat} {row : Option Nat} (hit : w.heap[k]? = some (.stringIter s pos)) (hg : w.grownBy w' row) (hr : row ≠ some k) : w'.heap[k]? = some (.stringIter s pos) :=
  (hg.block k (Array.getElem?_eq_some_iff.1 hit).1 (fun e => hr e.symm)).trans hit

set_option maxHeartbeats 1000000 in
theorem nkw_any (l : List UInt8) (w : World) (hl : l.length ≤ 1099511627776) : Calls Tryd.prog 75 #[.string (bs l)] w (NewTexts w (kwL l)) := by
  obtain ⟨i0, hi, hz0, hz1, hz2⟩ := info_parts Tryd.infoStr
  have hs : (bs l).size = l.length := bs_size l
  go_enter Tryd.func75, Tryd.ntmps75
  go_wp2
  go_loopg [3, 4] l.length (fun k v c wr => ∃ j st : Nat, k = l.length - j ∧ c = .int .i64 (st : Int) ∧ st ≤ j ∧ wr.heap[w.heap.size]? = some (.stringIter (bs l) j) ∧ KwAt l w j v st wr ∧ Kept (fun _ => False) w wr)
  case atStart => exact ⟨0, 0, rfl, rfl, Nat.le_refl _, World.iter_heap w _ 0, .inl ⟨Nat.zero_le _, rfl, Nat.zero_le _, rfl, World.ownsRow_nil _ _ _ _⟩, (Kept.refl _ w).alloc _⟩
  case round =>
    obtain ⟨j, st, hk, rfl, hst, hit, hat, hkp⟩ := hrel
    have HK := Lib.hid hk; have HKP := Lib.hid hkp; have HIT := Lib.hid hit; have HAT := Lib.hid hat; clear hk hkp hit hat
    by_cases hlt : j < l.length
    · have hlt' : j < (bs l).size := by rw [hs]; exact hlt
      by_cases hc : l[j]'hlt = 58
      · have hnx : ∀ ty, (Instr.next (.pointer (some ⟨w.heap.size, 0, none⟩)) true ty).run Tryd.prog wr = _ := fun ty => Lib.run_next_ascii_at wr w.heap.size (bs l) j ty HIT.out hlt' (by rw [bs_get l j hlt, hc]; decide)
        rw [bs_get l j hlt, hc] at hnx
        rw [show (((58 : UInt8).toNat : Nat) : Int) = 58 from rfl] at hnx
        have HIT2 := Lib.hid (Lib.iterAt_heap wr w.heap.size (bs l) j (j + 1) HIT.out)
        have HKP2 := Lib.hid (kept_iterAt HKP.out (Nat.le_refl _) (bs l) (j + 1))
        obtain ⟨ao, n, cap, rfl⟩ := kwat_slice HAT.out
        have hx1 : (bs l).extract st j = bs ((l.take j).drop st) := bs_extract l st j
        have hx2 : (bs l).extract st (j + 1) = bs ((l.take (j + 1)).drop st) := bs_extract l st (j + 1)
        have hU := nun_any ((l.take j).drop st)
        by_cases hn : n = 10
        · have E := Lib.hid (kwat_nil HAT.out hlt hc (.inl hn))
          subst hn
          generalize wr.iterAt w.heap.size (bs l) (j + 1) = w2 at *
          have HU := Lib.hid hU; clear hU hx1 hx2
          go_wp2_with fail
          go_ret
          refine ⟨none, 0, by rw [E.out]; rfl, ?_, HKP2.out⟩
          rw [E.out]
          exact Lies.nil _ _ _
        · have hn1 : ((n : Int) == 10) = false := by rw [beq_eq_false_iff_ne]; omega
          have i1 : (st : Int) ≤ (j : Int) := by omega
          have i2 : (j : Int) ≤ ((bs l).size : Int) := by omega
          cases hg : isUn ((l.take j).drop st) with
          | false =>
            have E := Lib.hid (kwat_nil HAT.out hlt hc (.inr hg))
            rw [hg] at hU
            generalize wr.iterAt w.heap.size (bs l) (j + 1) = w2 at *
            have HU := Lib.hid (hU w2); clear hU hx2 hg
            generalize (l.take j).drop st = cur at *
            go_wp2_with fail
            refine HU.out.mono ?_
            rintro e w3 ⟨rfl, hk3⟩
            have HK3 := Lib.hid hk3; clear hk3
            go_wp2_with fail
            go_ret
            refine ⟨none, 0, by rw [E.out]; rfl, ?_, HKP2.out.trans HK3.out (fun _ _ h => h)⟩
            rw [E.out]
            exact Lies.nil _ _ _
          | true =>
            obtain ⟨ho, hn10, hdr, hnew⟩ := kwat_more HAT.out hlt hc hn hg
            have ho2 := owns_iter ho (bs l) (j + 1)
            rw [hg] at hU
            rw [hdr] at hx2
            generalize wr.iterAt w.heap.size (bs l) (j + 1) = w2 at *
            have HU := Lib.hid (hU w2); have HO := Lib.hid ho2; have HNEW := Lib.hid hnew
            have hlc : ((l.take j).drop st ++ [58]).length ≤ 1099511627776 := by
              rw [List.length_append, List.length_drop, List.length_take]
              simp
              omega
            have HC := Lib.hid (fun w => sclone_any ((l.take j).drop st ++ [58]) w hlc)
            clear hU ho ho2 hnew hg hdr hlc
            generalize (cutL (l.take j)).1 = ps at *
            generalize (l.take j).drop st = cur at *
            go_wp2_with fail
            refine HU.out.mono ?_
            rintro e w3 ⟨rfl, hk3⟩
            have HK3 := Lib.hid hk3; clear hk3
            go_wp2_with fail
            refine (HC.out _).mono ?_
            rintro e w4 ⟨rfl, hk4⟩
            have HK4 := Lib.hid (HK3.out.trans hk4 (fun _ _ h => h)); clear hk4
            have HO4 := Lib.hid (owns_kept HO.out HK4.out (fun _ _ h => h))
            have hsz : w.heap.size ≤ w4.heap.size := Nat.le_trans HKP2.out.size HK4.out.size
            have hszs : w.heap.size < w4.heap.size := Nat.lt_of_lt_of_le (Array.getElem?_eq_some_iff.1 HIT2.out).1 HK4.out.size
            have HSZ := Lib.hid hszs; clear hsz hszs
            go_wp2_with (at_builtin; refine wpList_app _ rfl (.tmp 26) (.tmp 33) 51 51 rfl 9 i0 (.string ⟨#[]⟩) 1 16 Tryd.underlying51 hi hz0 hz1 hz2 rfl _ _ _ rfl (owns_base (HO4.out.alloc _) (fun _ _ => Nat.zero_le _)) (.slice (some ⟨w4.heap.size, 0, none⟩) 1 1) 1 [.string (bs (cur ++ [58]))] rfl (src_one Tryd.underlying51 w4 _ _ rfl) ?b1 ?b2 ?next)
            case b1 => unfold maxLen; omega
            case b2 => omega
            case next =>
              intro v' w5 ho5 hg5 hb5 _
              have hlt5 := owns_lt HO4.out
              have H1 := Lib.hid (owns_base (base' := w.heap.size + 1) ho5 (fun k hk => by
                rcases hb5 with hb | hb
                · rw [hb] at hk; exact (hlt5 k hk).1
                · rw [hb] at hk
                  have := HSZ.out
                  simp at hk
                  omega))
              have H2 := Lib.hid (iter_grown (iter_kept (iter_kept HIT2.out HK4.out (fun h => h)) ((Kept.refl (fun _ => False) w4).alloc (.cells #[.string (bs (cur ++ [58]))] 9)) (fun h => h)) hg5 (fun e => by have := (hlt5 _ e).1; omega))
              have H3 := Lib.hid (((HKP2.out.trans HK4.out (fun _ _ h => h)).alloc (.cells #[.string (bs (cur ++ [58]))] 9)).grown hg5 (fun k hk hl => by have := (hlt5 k hk).1; omega))
              clear ho5 hg5 hb5 hlt5
              obtain ⟨ao5, cap5, rfl⟩ := owns_slice H1.out
              go_wp2
              go_roundg (l.length - (j + 1))
              case measure => have := HK.out; omega
              case rel => exact ⟨j + 1, j + 1, rfl, by go_num, Nat.le_refl _, H2.out, HNEW.out _ _ H1.out, H3.out⟩
      · have hat2 := kwat_step HAT.out hst hlt hc (Utf8.decode (bs l) j).2 (fun h => by rw [decode_ascii (bs l) j hlt' h]) (width_pos (bs l) j hlt') (bs l) (j + (Utf8.decode (bs l) j).2)
        have hnx : ∀ ty, (Instr.next (.pointer (some ⟨w.heap.size, 0, none⟩)) true ty).run Tryd.prog wr = _ := fun ty => Lib.run_next_any_at wr w.heap.size (bs l) j ty HIT.out hlt'
        have HIT2 := Lib.hid (Lib.iterAt_heap wr w.heap.size (bs l) j (j + (Utf8.decode (bs l) j).2) HIT.out)
        have HKP2 := Lib.hid (kept_iterAt HKP.out (Nat.le_refl _) (bs l) (j + (Utf8.decode (bs l) j).2))
        have hw1 := width_pos (bs l) j hlt'
        have hne : (((Utf8.decode (bs l) j).1 : Int) == 58) = false := by
          rw [beq_eq_false_iff_ne]
          by_cases ha : (l[j]'hlt).toNat < 128
          · rw [decode_ascii (bs l) j hlt' ha, bs_get l j hlt]
            intro h
            exact hc (UInt8.toNat_inj.1 (by show (l[j]'hlt).toNat = 58; omega))
          · have := (decode_high (bs l) j hlt' (by rw [bs_get l j hlt]; omega)).1
            omega
        have HAT2 := Lib.hid hat2; clear hat2
        generalize wr.iterAt w.heap.size (bs l) (j + (Utf8.decode (bs l) j).2) = w2 at *
        generalize ((Utf8.decode (bs l) j).1 : Int) = c at *
        generalize (Utf8.decode (bs l) j).2 = d at *
        have hne2 : (c != 58) = true := by simp [bne, hne]
        go_wp2_with fail
        go_roundg (l.length - (j + d))
        case measure => have := HK.out; omega
        case rel => exact ⟨j + d, st, rfl, rfl, by omega, HIT2.out, HAT2.out, HKP2.out⟩
    · have hnx : ∀ ty, (Instr.next (.pointer (some ⟨w.heap.size, 0, none⟩)) true ty).run Tryd.prog wr = _ := fun ty => Lib.run_next_end_at wr w.heap.size (bs l) j ty HIT.out (by rw [hs]; omega)
      rcases HAT.out with ⟨h1, h2, h3, h4, h5⟩ | ⟨⟨b, b1, b2, b3, b4⟩, ao, n, cap, rfl⟩
      · obtain rfl : j = l.length := by omega
        rw [List.take_length] at h2 h3 h4 h5
        obtain ⟨ao, cap, rfl⟩ := owns_slice h5
        have hf := congrArg List.length (cutL_flat l)
        rw [List.length_append, h2] at hf
        by_cases he : (cutL l).2 = []
        · have e := kw_ok he h3 h4
          rw [he] at hf
          have hst2 : ¬ ((st : Int) < (l.length : Int)) := by simp at hf; omega
          have H5 := Lib.hid h5; have E := Lib.hid e; clear h5 e he hf h2 h3 h4
          go_wp2
          go_ret
          refine ⟨ao, cap, by rw [E.out]; rfl, ?_, HKP.out⟩
          rw [E.out]
          exact owns_lies H5.out
        · have e := kw_end he
          have hst2 : (st : Int) < (l.length : Int) := by
            have : (cutL l).2.length ≠ 0 := by simpa using he
            omega
          have E := Lib.hid e; clear h5 e he hf h2 h3 h4
          go_wp2
          go_ret
          refine ⟨none, 0, by rw [E.out]; rfl, ?_, HKP.out⟩
          rw [E.out]
          exact Lies.nil _ _ _
      · have E := Lib.hid (kw_high l[b] (List.getElem_mem b3) b4)
        have hst2 : (st : Int) < (l.length : Int) := by omega
        clear b4
        go_wp2
        go_ret
        refine ⟨none, 0, by rw [E.out]; rfl, ?_, HKP.out⟩
        rw [E.out]
        exact Lies.nil _ _ _

end Go.Proofs.YtofpnlmlenffnaaDoor
