/-
  CONTRACTS of package name: the characters, every, Is, isUnary, Class.
-/
import Derived.Test.YtofpnlmlenffnaaDoorRows
import Derived.Test.YtofpnlmlenffnaaDoorGNm
import Derived.Lib.OthersKept
namespace Go.Mk
open Go.RowKit

theorem kept_iterAt {S : Nat → Prop} {a w : World} (h : Kept S a w) {k : Nat} (hk : a.heap.size ≤ k) (s : ByteArray) (pos : Nat) : Kept S a (w.iterAt k s pos) :=
  h.trans (S' := fun i => i = k) ⟨rfl, rfl, rfl, by rw [Lib.iterAt_size]; exact Nat.le_refl _, fun i _ hn => Lib.iterAt_other w k i s pos hn⟩ (fun i hi e => by omega)

theorem iter_kept {S : Nat → Prop} {w w' : World} {k : Nat} {s : ByteArray} {pos : Nat} (hit : w.heap[k]? = some (.stringIter s pos)) (h : Kept S w w') (hn : ¬ S k) : w'.heap[k]? = some (.stringIter s pos) :=
  (h.block k (Array.getElem?_eq_some_iff.1 hit).1 hn).trans hit

theorem bs_get (l : List UInt8) (j : Nat) (h : j < l.length) : (bs l)[j]'(by rw [bs_size]; exact h) = l[j] := rfl

theorem width_pos (s : ByteArray) (pos : Nat) (h : pos < s.size) : 1 ≤ (Utf8.decode s pos).2 := by
  by_cases ha : (s[pos]'h).toNat < 128
  · rw [decode_ascii s pos h ha]
    exact Nat.le_refl _
  · exact (decode_high s pos h (by omega)).2

end Go.Mk
namespace Go.Proofs.YtofpnlmlenffnaaDoor
open Go.RowKit Go.Mk

theorem nlow_any (c : Int) (w : World) : Calls Tryd.prog 71 #[.int .i32 c] w fun e w' => e = .returned (.bool (lowI c)) ∧ w = w' := by
  unfold lowI
  by_cases h : 97 ≤ c
  · go_enter Tryd.func71, Tryd.ntmps71
    go_wp2
    go_ret
    exact ⟨by simp [h], rfl⟩
  · go_enter Tryd.func71, Tryd.ntmps71
    go_wp2
    go_ret
    exact ⟨by simp; omega, rfl⟩

theorem nupp_any (c : Int) (w : World) : Calls Tryd.prog 72 #[.int .i32 c] w fun e w' => e = .returned (.bool (uppI c)) ∧ w = w' := by
  unfold uppI
  by_cases h : 65 ≤ c
  · go_enter Tryd.func72, Tryd.ntmps72
    go_wp2
    go_ret
    exact ⟨by simp [h], rfl⟩
  · go_enter Tryd.func72, Tryd.ntmps72
    go_wp2
    go_ret
    exact ⟨by simp; omega, rfl⟩

theorem ndig_any (c : Int) (w : World) : Calls Tryd.prog 68 #[.int .i32 c] w fun e w' => e = .returned (.bool (digI c)) ∧ w = w' := by
  unfold digI
  by_cases h : 48 ≤ c
  · go_enter Tryd.func68, Tryd.ntmps68
    go_wp2
    go_ret
    exact ⟨by simp [h], rfl⟩
  · go_enter Tryd.func68, Tryd.ntmps68
    go_wp2
    go_ret
    exact ⟨by simp; omega, rfl⟩

set_option maxHeartbeats 400000 in
theorem naln_any (c : Int) (w : World) : Calls Tryd.prog 70 #[.int .i32 c] w fun e w' => e = .returned (.bool (alnI c)) ∧ Kept (fun _ => False) w w' := by
  have hL := nlow_any c
  have hU := nupp_any c
  have hD := ndig_any c
  unfold alnI
  generalize lowI c = a at *
  generalize uppI c = b at *
  generalize digI c = d at *
  have HL := Lib.hid hL; have HU := Lib.hid hU; have HD := Lib.hid hD; clear hL hU hD
  cases a <;> cases b
  all_goals
    go_enter Tryd.func70, Tryd.ntmps70
    go_wp2_with (first
      | (go_at_call 71; refine (HL.out _).mono ?_; rintro e w1 ⟨rfl, rfl⟩)
      | (go_at_call 72; refine (HU.out _).mono ?_; rintro e w1 ⟨rfl, rfl⟩)
      | (go_at_call 68; refine (HD.out _).mono ?_; rintro e w1 ⟨rfl, rfl⟩))
    go_ret
    exact ⟨rfl, Kept.refl _ _⟩

/-- All bytes are ASCII, and fit. -/
def evL (f : Int → Bool) (l : List UInt8) : Bool := l.all (fun b => f b.toNat)

set_option maxHeartbeats 400000 in
theorem every_any (k : Nat) (f : Int → Bool) (l : List UInt8) (w : World) (hk : ∀ args w, (callFunc k args).run Tryd.prog w = .ok (.enter k args) w)
    (hf : ∀ (c : Int) (w : World), 0 ≤ c → c ≤ 2147483647 → Calls Tryd.prog k #[.int .i32 c] w fun e w' => e = .returned (.bool (f c)) ∧ Kept (fun _ => False) w w') (hg : ∀ c, 128 ≤ c → f c = false) :
    Calls Tryd.prog 69 #[.string (bs l), .func (.func k) #[] #[]] w fun e w' => e = .returned (.bool (evL f l)) ∧ Kept (fun _ => False) w w' := by
  have HF := Lib.hid hf; have HG := Lib.hid hg; clear hf hg
  go_enter Tryd.func69, Tryd.ntmps69
  go_wp2
  go_loopg [] l.length (fun k wr => ∃ j, k = l.length - j ∧ j ≤ l.length ∧ wr.heap[w.heap.size]? = some (.stringIter (bs l) j) ∧ evL f (l.take j) = true ∧ Kept (fun _ => False) w wr)
  case atStart => exact ⟨0, rfl, Nat.zero_le _, World.iter_heap w _ 0, rfl, (Kept.refl _ w).alloc _⟩
  case round =>
    obtain ⟨j, hkj, hj, hit, hev, hkp⟩ := hrel
    have HK := Lib.hid hkj; have HEV := Lib.hid hev; have HKP := Lib.hid hkp; have HIT := Lib.hid hit; clear hkj hev hkp hit
    by_cases hlt : j < l.length
    · have hlt' : j < (bs l).size := by rw [bs_size]; exact hlt
      have htk : evL f (l.take (j + 1)) = f l[j].toNat := by
        have e : l.take (j + 1) = l.take j ++ [l[j]] := by rw [List.take_add_one, List.getElem?_eq_getElem hlt]; rfl
        have := HEV.out
        unfold evL at this ⊢
        rw [e, List.all_append, this]
        simp
      have hbad : f l[j].toNat = false → evL f l = false := fun h => by
        unfold evL
        rw [List.all_eq_false]
        exact ⟨l[j], List.getElem_mem _, by rw [h]; simp⟩
      have HTK := Lib.hid htk; have HBAD := Lib.hid hbad; clear htk hbad
      by_cases ha : (l[j]).toNat < 128
      · have hnx : ∀ ty, (Instr.next (.pointer (some ⟨w.heap.size, 0, none⟩)) true ty).run Tryd.prog wr = _ := fun ty => Lib.run_next_ascii_at wr w.heap.size (bs l) j ty HIT.out hlt' ha
        rw [bs_get l j hlt] at hnx
        have hc := HF.out (l[j].toNat : Int) (wr.iterAt w.heap.size (bs l) (j + 1)) (by omega) (by omega)
        have HIT2 := Lib.hid (Lib.iterAt_heap wr w.heap.size (bs l) j (j + 1) HIT.out)
        have HKP2 := Lib.hid (kept_iterAt HKP.out (Nat.le_refl _) (bs l) (j + 1))
        have HC := Lib.hid hc; clear hc
        generalize hfj : f (l[j].toNat : Int) = r at *
        have HFJ := Lib.hid hfj; clear hfj
        generalize wr.iterAt w.heap.size (bs l) (j + 1) = w2 at *
        cases r with
        | true =>
          go_wp2_with fail
          refine HC.out.mono ?_
          rintro e w3 ⟨rfl, hk3⟩
          have HK3 := Lib.hid hk3; clear hk3
          go_wp2
          go_roundg (l.length - (j + 1))
          case measure => have := HK.out; omega
          case rel => exact ⟨j + 1, rfl, by omega, iter_kept HIT2.out HK3.out (fun h => h), HTK.out, HKP2.out.trans HK3.out (fun _ _ h => h)⟩
        | false =>
          go_wp2_with fail
          refine HC.out.mono ?_
          rintro e w3 ⟨rfl, hk3⟩
          have HK3 := Lib.hid hk3; clear hk3
          go_wp2
          go_ret
          exact ⟨by rw [HBAD.out (by first | rfl | trivial)]; rfl, HKP2.out.trans HK3.out (fun _ _ h => h)⟩
      · have hd := decode_high (bs l) j hlt' (by rw [bs_get l j hlt]; omega)
        have hdl := decode_le (bs l) j
        have hnx : ∀ ty, (Instr.next (.pointer (some ⟨w.heap.size, 0, none⟩)) true ty).run Tryd.prog wr = _ := fun ty => Lib.run_next_any_at wr w.heap.size (bs l) j ty HIT.out hlt'
        have hc := HF.out ((Utf8.decode (bs l) j).1 : Int) (wr.iterAt w.heap.size (bs l) (j + (Utf8.decode (bs l) j).2)) (by omega) (by omega)
        rw [HG.out _ (by omega)] at hc
        have HKP2 := Lib.hid (kept_iterAt HKP.out (Nat.le_refl _) (bs l) (j + (Utf8.decode (bs l) j).2))
        have HB := Lib.hid (HBAD.out (HG.out _ (by omega)))
        have HC := Lib.hid hc; clear hc
        generalize wr.iterAt w.heap.size (bs l) (j + (Utf8.decode (bs l) j).2) = w2 at *
        generalize (Utf8.decode (bs l) j).1 = c at *
        go_wp2_with fail
        refine HC.out.mono ?_
        rintro e w3 ⟨rfl, hk3⟩
        have HK3 := Lib.hid hk3; clear hk3
        go_wp2
        go_ret
        exact ⟨by rw [HB.out]; rfl, HKP2.out.trans HK3.out (fun _ _ h => h)⟩
    · obtain rfl : j = l.length := by omega
      have hnx : ∀ ty, (Instr.next (.pointer (some ⟨w.heap.size, 0, none⟩)) true ty).run Tryd.prog wr = _ := fun ty => Lib.run_next_end_at wr w.heap.size (bs l) l.length ty HIT.out (by rw [bs_size]; omega)
      go_wp2
      go_ret
      have := HEV.out
      rw [List.take_length] at this
      exact ⟨by rw [this]; rfl, HKP.out⟩

theorem nm_cons (c : UInt8) (t : List UInt8) (h : (c :: t).length ≤ 40) (hd : digI c.toNat = false) : isNm (c :: t) = evL alnI (c :: t) := by
  have e : alnI c.toNat = lett c := by simp [alnI, lett, low, upp, hd]
  have e2 : lenIn (c :: t) 40 = true := by simp [lenIn] at *; omega
  simp only [isNm, e2, Bool.true_and, List.headD_cons, evL, List.all_cons, aln, e]
  cases lett c
  · rfl
  · simp only [Bool.true_and]
    rfl

theorem nm_dig (c : UInt8) (t : List UInt8) (hd : digI c.toNat = true) : isNm (c :: t) = false := by
  have e : lett c = false := by
    simp [digI, lett, low, upp, lowI, uppI] at *
    omega
  simp [isNm, e]

theorem nm_nil : isNm [] = false := rfl
theorem nm_long (l : List UInt8) (h : 40 < l.length) : isNm l = false := by
  have e : lenIn l 40 = false := by simp [lenIn]; omega
  simp [isNm, e]

theorem alnI_128 (c : Int) (h : 128 ≤ c) : alnI c = false := by
  simp [alnI, lowI, uppI, digI]
  omega

/-- The forms in which a walk asks for a text's length and its first byte. -/
structure Txt (l : List UInt8) (c : UInt8) : Prop where
  ne : ¬ bs l = ByteArray.empty
  n0 : (((bs l).size : Int) == 0) = false
  pos : 0 < (bs l).size
  hd : ∀ h : 0 < (bs l).size, wrap32 (((bs l)[0]'h).toNat : Int) = (c.toNat : Int)

theorem txt_cons (c : UInt8) (t : List UInt8) : Txt (c :: t) c := by
  refine ⟨fun h => ?_, ?_, ?_, fun h => ?_⟩
  · have := congrArg ByteArray.size h
    rw [bs_size] at this
    simp at this
  · rw [bs_size, beq_eq_false_iff_ne]
    simp
    omega
  · rw [bs_size]; simp
  · have e : (bs (c :: t))[0]'h = c := rfl
    rw [e]
    have := c.toNat_lt
    unfold wrap32
    omega

set_option maxHeartbeats 400000 in
theorem nis_any (l : List UInt8) (w : World) : Calls Tryd.prog 54 #[.string (bs l)] w fun e w' => e = .returned (.bool (isNm l)) ∧ Kept (fun _ => False) w w' := by
  cases l with
  | nil =>
    go_enter Tryd.func54, Tryd.ntmps54
    go_wp2
    go_ret
    exact ⟨rfl, Kept.refl _ _⟩
  | cons c t =>
    obtain ⟨h1, h2, h3, h4⟩ := txt_cons c t
    by_cases h40 : 40 < (c :: t).length
    · rw [nm_long _ h40]
      rw [← bs_size] at h40
      have h41 : (40 : Int) < ((bs (c :: t)).size : Int) := by omega
      clear h40
      generalize bs (c :: t) = s at *
      go_enter Tryd.func54, Tryd.ntmps54
      go_wp2
      go_ret
      exact ⟨rfl, Kept.refl _ _⟩
    · have h41 : ((bs (c :: t)).size : Int) ≤ 40 := by rw [bs_size]; omega
      have hD := ndig_any c.toNat
      have hE := every_any 70 alnI (c :: t) w Tryd.call70 (fun c w _ _ => naln_any c w) alnI_128
      cases hd : digI c.toNat with
      | true =>
        rw [nm_dig c t hd]
        rw [hd] at hD
        have HD := Lib.hid hD; clear hD hE hd h40
        generalize bs (c :: t) = s at *
        go_enter Tryd.func54, Tryd.ntmps54
        go_wp2_with fail
        refine (HD.out _).mono ?_
        rintro e w1 ⟨rfl, rfl⟩
        go_wp2
        go_ret
        exact ⟨rfl, Kept.refl _ _⟩
      | false =>
        rw [nm_cons c t (by omega) hd]
        rw [hd] at hD
        have HD := Lib.hid hD; have HE := Lib.hid hE; clear hD hE hd h40
        generalize evL alnI (c :: t) = r at *
        generalize bs (c :: t) = s at *
        go_enter Tryd.func54, Tryd.ntmps54
        go_wp2_with fail
        refine (HD.out _).mono ?_
        rintro e w1 ⟨rfl, rfl⟩
        go_wp2_with fail
        refine HE.out.mono ?_
        rintro e w1 ⟨rfl, hk⟩
        go_wp2
        go_ret
        exact ⟨rfl, hk⟩

set_option maxHeartbeats 400000 in
theorem nun_any (l : List UInt8) (w : World) : Calls Tryd.prog 73 #[.string (bs l)] w fun e w' => e = .returned (.bool (isUn l)) ∧ Kept (fun _ => False) w w' := by
  have hI := nis_any l w
  unfold isUn
  cases hn : isNm l with
  | false =>
    rw [hn] at hI
    have HI := Lib.hid hI; clear hI hn
    go_enter Tryd.func73, Tryd.ntmps73
    go_wp2_with fail
    refine HI.out.mono ?_
    rintro e w1 ⟨rfl, hk⟩
    go_wp2
    go_ret
    exact ⟨rfl, hk⟩
  | true =>
    cases l with
    | nil => cases hn
    | cons c t =>
      rw [hn] at hI
      obtain ⟨h1, h2, h3, h4⟩ := txt_cons c t
      have hL := nlow_any c.toNat
      show Calls _ _ _ _ (fun e w' => e = .returned (.bool (true && lowI c.toNat)) ∧ _)
      rw [Bool.true_and]
      generalize lowI c.toNat = r at *
      have HI := Lib.hid hI; have HL := Lib.hid hL; clear hI hL hn
      generalize bs (c :: t) = s at *
      go_enter Tryd.func73, Tryd.ntmps73
      go_wp2_with fail
      refine HI.out.mono ?_
      rintro e w1 ⟨rfl, hk⟩
      go_wp2_with fail
      refine (HL.out _).mono ?_
      rintro e w2 ⟨rfl, rfl⟩
      go_wp2
      go_ret
      exact ⟨rfl, hk⟩

end Go.Proofs.YtofpnlmlenffnaaDoor
