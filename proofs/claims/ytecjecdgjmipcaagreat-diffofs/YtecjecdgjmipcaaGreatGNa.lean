/-
  Lemmas towards the claim of this folder: contracts of the functions that the law reaches; joined texts.
-/
import Derived.Test.YtecjecdgjmipcaaGreatRows
import Derived.Test.YtecjecdgjmipcaaGreatGNm
import Derived.Lib.OthersKept
import Derived.Laws.Runes
import Derived.WalkMore
import Derived.Scope
import Derived.BigQuiet
import Derived.Deep.RegionWith
import Derived.Deep.QuietTactic
/-
  CONTRACTS of package name: the characters, every, Is, isUnary, Class.
-/
namespace Go.Mk
open Go.RowKit

theorem kept_iterAt {S : Nat → Prop} {a w : World} (h : Kept S a w) {k : Nat} (hk : a.heap.size ≤ k) (s : ByteArray) (pos : Nat) : Kept S a (w.iterAt k s pos) :=
  h.trans (S' := fun i => i = k) ⟨rfl, rfl, rfl, by rw [Lib.iterAt_size]; exact Nat.le_refl _, fun i _ hn => Lib.iterAt_other w k i s pos hn⟩ (fun i hi e => by omega)

theorem iter_kept {S : Nat → Prop} {w w' : World} {k : Nat} {s : ByteArray} {pos : Nat} (hit : w.heap[k]? = some (.stringIter s pos)) (h : Kept S w w') (hn : ¬ S k) : w'.heap[k]? = some (.stringIter s pos) :=
  (h.block k (Array.getElem?_eq_some_iff.1 hit).1 hn).trans hit

theorem bs_get (l : List UInt8) (j : Nat) (h : j < l.length) : (bs l)[j]'(by rw [bs_size]; exact h) = l[j] := rfl

theorem width_pos (s : ByteArray) (pos : Nat) (h : pos < s.size) : 1 ≤ (Utf8.decode s pos).2 := by
  by_cases ha : (s[pos]'h).toNat < 128
  · rw [decode_ascii s pos h ha]
    exact Nat.le_refl _
  · exact (decode_high s pos h (by omega)).2

end Go.Mk
namespace Go.Proofs.YtecjecdgjmipcaaGreat
open Go.RowKit Go.Mk

theorem nlow_any (c : Int) (w : World) : Calls Tryz.prog 133 #[.int .i32 c] w fun e w' => e = .returned (.bool (lowI c)) ∧ w = w' := by
  unfold lowI
  by_cases h : 97 ≤ c
  · go_enter Tryz.func133, Tryz.ntmps133
    go_wp2
    go_ret
    exact ⟨by simp [h], rfl⟩
  · go_enter Tryz.func133, Tryz.ntmps133
    go_wp2
    go_ret
    exact ⟨by simp; omega, rfl⟩

theorem nupp_any (c : Int) (w : World) : Calls Tryz.prog 119 #[.int .i32 c] w fun e w' => e = .returned (.bool (uppI c)) ∧ w = w' := by
  unfold uppI
  by_cases h : 65 ≤ c
  · go_enter Tryz.func119, Tryz.ntmps119
    go_wp2
    go_ret
    exact ⟨by simp [h], rfl⟩
  · go_enter Tryz.func119, Tryz.ntmps119
    go_wp2
    go_ret
    exact ⟨by simp; omega, rfl⟩

theorem ndig_any (c : Int) (w : World) : Calls Tryz.prog 130 #[.int .i32 c] w fun e w' => e = .returned (.bool (digI c)) ∧ w = w' := by
  unfold digI
  by_cases h : 48 ≤ c
  · go_enter Tryz.func130, Tryz.ntmps130
    go_wp2
    go_ret
    exact ⟨by simp [h], rfl⟩
  · go_enter Tryz.func130, Tryz.ntmps130
    go_wp2
    go_ret
    exact ⟨by simp; omega, rfl⟩

set_option maxHeartbeats 400000 in
theorem naln_any (c : Int) (w : World) : Calls Tryz.prog 132 #[.int .i32 c] w fun e w' => e = .returned (.bool (alnI c)) ∧ Kept (fun _ => False) w w' := by
  have hL := nlow_any c
  have hU := nupp_any c
  have hD := ndig_any c
  unfold alnI
  generalize lowI c = a at *
  generalize uppI c = b at *
  generalize digI c = d at *
  have HL := Lib.hid hL; have HU := Lib.hid hU; have HD := Lib.hid hD; clear hL hU hD
  cases a <;> cases b
  all_goals
    go_enter Tryz.func132, Tryz.ntmps132
    go_wp2_with (first
      | (go_at_call 133; refine (HL.out _).mono ?_; rintro e w1 ⟨rfl, rfl⟩)
      | (go_at_call 119; refine (HU.out _).mono ?_; rintro e w1 ⟨rfl, rfl⟩)
      | (go_at_call 130; refine (HD.out _).mono ?_; rintro e w1 ⟨rfl, rfl⟩))
    go_ret
    exact ⟨rfl, Kept.refl _ _⟩

/-- All bytes are ASCII, and fit. -/
def evL (f : Int → Bool) (l : List UInt8) : Bool := l.all (fun b => f b.toNat)

set_option maxHeartbeats 400000 in
theorem every_any (k : Nat) (f : Int → Bool) (l : List UInt8) (w : World) (hk : ∀ args w, (callFunc k args).run Tryz.prog w = .ok (.enter k args) w)
    (hf : ∀ (c : Int) (w : World), 0 ≤ c → c ≤ 2147483647 → Calls Tryz.prog k #[.int .i32 c] w fun e w' => e = .returned (.bool (f c)) ∧ Kept (fun _ => False) w w') (hg : ∀ c, 128 ≤ c → f c = false) :
    Calls Tryz.prog 131 #[.string (bs l), .func (.func k) #[] #[]] w fun e w' => e = .returned (.bool (evL f l)) ∧ Kept (fun _ => False) w w' := by
  have HF := Lib.hid hf; have HG := Lib.hid hg; clear hf hg
  go_enter Tryz.func131, Tryz.ntmps131
  go_wp2
  go_loopg [] l.length (fun k wr => ∃ j, k = l.length - j ∧ j ≤ l.length ∧ wr.heap[w.heap.size]? = some (.stringIter (bs l) j) ∧ evL f (l.take j) = true ∧ Kept (fun _ => False) w wr)
  case atStart => exact ⟨0, rfl, Nat.zero_le _, World.iter_heap w _ 0, rfl, (Kept.refl _ w).alloc _⟩
  case round =>
    obtain ⟨j, hkj, hj, hit, hev, hkp⟩ := hrel
    have HK := Lib.hid hkj; have HEV := Lib.hid hev; have HKP := Lib.hid hkp; have HIT := Lib.hid hit; clear hkj hev hkp hit
    by_cases hlt : j < l.length
    · have hlt' : j < (bs l).size := by rw [bs_size]; exact hlt
      have htk : evL f (l.take (j + 1)) = f l[j].toNat := by
        have e : l.take (j + 1) = l.take j ++ [l[j]] := by rw [List.take_add_one, List.getElem?_eq_getElem hlt]; rfl
        have := HEV.out
        unfold evL at this ⊢
        rw [e, List.all_append, this]
        simp
      have hbad : f l[j].toNat = false → evL f l = false := fun h => by
        unfold evL
        rw [List.all_eq_false]
        exact ⟨l[j], List.getElem_mem _, by rw [h]; simp⟩
      have HTK := Lib.hid htk; have HBAD := Lib.hid hbad; clear htk hbad
      by_cases ha : (l[j]).toNat < 128
      · have hnx : ∀ ty, (Instr.next (.pointer (some ⟨w.heap.size, 0, none⟩)) true ty).run Tryz.prog wr = _ := fun ty => Lib.run_next_ascii_at wr w.heap.size (bs l) j ty HIT.out hlt' ha
        rw [bs_get l j hlt] at hnx
        have hc := HF.out (l[j].toNat : Int) (wr.iterAt w.heap.size (bs l) (j + 1)) (by omega) (by omega)
        have HIT2 := Lib.hid (Lib.iterAt_heap wr w.heap.size (bs l) j (j + 1) HIT.out)
        have HKP2 := Lib.hid (kept_iterAt HKP.out (Nat.le_refl _) (bs l) (j + 1))
        have HC := Lib.hid hc; clear hc
        generalize hfj : f (l[j].toNat : Int) = r at *
        have HFJ := Lib.hid hfj; clear hfj
        generalize wr.iterAt w.heap.size (bs l) (j + 1) = w2 at *
        cases r with
        | true =>
          go_wp2_with fail
          refine HC.out.mono ?_
          rintro e w3 ⟨rfl, hk3⟩
          have HK3 := Lib.hid hk3; clear hk3
          go_wp2
          go_roundg (l.length - (j + 1))
          case measure => have := HK.out; omega
          case rel => exact ⟨j + 1, rfl, by omega, iter_kept HIT2.out HK3.out (fun h => h), HTK.out, HKP2.out.trans HK3.out (fun _ _ h => h)⟩
        | false =>
          go_wp2_with fail
          refine HC.out.mono ?_
          rintro e w3 ⟨rfl, hk3⟩
          have HK3 := Lib.hid hk3; clear hk3
          go_wp2
          go_ret
          exact ⟨by rw [HBAD.out (by first | rfl | trivial)]; rfl, HKP2.out.trans HK3.out (fun _ _ h => h)⟩
      · have hd := decode_high (bs l) j hlt' (by rw [bs_get l j hlt]; omega)
        have hdl := decode_le (bs l) j
        have hnx : ∀ ty, (Instr.next (.pointer (some ⟨w.heap.size, 0, none⟩)) true ty).run Tryz.prog wr = _ := fun ty => Lib.run_next_any_at wr w.heap.size (bs l) j ty HIT.out hlt'
        have hc := HF.out ((Utf8.decode (bs l) j).1 : Int) (wr.iterAt w.heap.size (bs l) (j + (Utf8.decode (bs l) j).2)) (by omega) (by omega)
        rw [HG.out _ (by omega)] at hc
        have HKP2 := Lib.hid (kept_iterAt HKP.out (Nat.le_refl _) (bs l) (j + (Utf8.decode (bs l) j).2))
        have HB := Lib.hid (HBAD.out (HG.out _ (by omega)))
        have HC := Lib.hid hc; clear hc
        generalize wr.iterAt w.heap.size (bs l) (j + (Utf8.decode (bs l) j).2) = w2 at *
        generalize (Utf8.decode (bs l) j).1 = c at *
        go_wp2_with fail
        refine HC.out.mono ?_
        rintro e w3 ⟨rfl, hk3⟩
        have HK3 := Lib.hid hk3; clear hk3
        go_wp2
        go_ret
        exact ⟨by rw [HB.out]; rfl, HKP2.out.trans HK3.out (fun _ _ h => h)⟩
    · obtain rfl : j = l.length := by omega
      have hnx : ∀ ty, (Instr.next (.pointer (some ⟨w.heap.size, 0, none⟩)) true ty).run Tryz.prog wr = _ := fun ty => Lib.run_next_end_at wr w.heap.size (bs l) l.length ty HIT.out (by rw [bs_size]; omega)
      go_wp2
      go_ret
      have := HEV.out
      rw [List.take_length] at this
      exact ⟨by rw [this]; rfl, HKP.out⟩

theorem nm_cons (c : UInt8) (t : List UInt8) (h : (c :: t).length ≤ 40) (hd : digI c.toNat = false) : isNm (c :: t) = evL alnI (c :: t) := by
  have e : alnI c.toNat = lett c := by simp [alnI, lett, low, upp, hd]
  have e2 : lenIn (c :: t) 40 = true := by simp [lenIn] at *; omega
  simp only [isNm, e2, Bool.true_and, List.headD_cons, evL, List.all_cons, aln, e]
  cases lett c
  · rfl
  · simp only [Bool.true_and]
    rfl

theorem nm_dig (c : UInt8) (t : List UInt8) (hd : digI c.toNat = true) : isNm (c :: t) = false := by
  have e : lett c = false := by
    simp [digI, lett, low, upp, lowI, uppI] at *
    omega
  simp [isNm, e]

theorem nm_nil : isNm [] = false := rfl
theorem nm_long (l : List UInt8) (h : 40 < l.length) : isNm l = false := by
  have e : lenIn l 40 = false := by simp [lenIn]; omega
  simp [isNm, e]

theorem alnI_128 (c : Int) (h : 128 ≤ c) : alnI c = false := by
  simp [alnI, lowI, uppI, digI]
  omega

/-- The forms in which a walk asks for a text's length and its first byte. -/
structure Txt (l : List UInt8) (c : UInt8) : Prop where
  ne : ¬ bs l = ByteArray.empty
  n0 : (((bs l).size : Int) == 0) = false
  pos : 0 < (bs l).size
  hd : ∀ h : 0 < (bs l).size, wrap32 (((bs l)[0]'h).toNat : Int) = (c.toNat : Int)

theorem txt_cons (c : UInt8) (t : List UInt8) : Txt (c :: t) c := by
  refine ⟨fun h => ?_, ?_, ?_, fun h => ?_⟩
  · have := congrArg ByteArray.size h
    rw [bs_size] at this
    simp at this
  · rw [bs_size, beq_eq_false_iff_ne]
    simp
    omega
  · rw [bs_size]; simp
  · have e : (bs (c :: t))[0]'h = c := rfl
    rw [e]
    have := c.toNat_lt
    unfold wrap32
    omega

set_option maxHeartbeats 400000 in
theorem nis_any (l : List UInt8) (w : World) : Calls Tryz.prog 118 #[.string (bs l)] w fun e w' => e = .returned (.bool (isNm l)) ∧ Kept (fun _ => False) w w' := by
  cases l with
  | nil =>
    go_enter Tryz.func118, Tryz.ntmps118
    go_wp2
    go_ret
    exact ⟨rfl, Kept.refl _ _⟩
  | cons c t =>
    obtain ⟨h1, h2, h3, h4⟩ := txt_cons c t
    by_cases h40 : 40 < (c :: t).length
    · rw [nm_long _ h40]
      rw [← bs_size] at h40
      have h41 : (40 : Int) < ((bs (c :: t)).size : Int) := by omega
      clear h40
      generalize bs (c :: t) = s at *
      go_enter Tryz.func118, Tryz.ntmps118
      go_wp2
      go_ret
      exact ⟨rfl, Kept.refl _ _⟩
    · have h41 : ((bs (c :: t)).size : Int) ≤ 40 := by rw [bs_size]; omega
      have hD := ndig_any c.toNat
      have hE := every_any 132 alnI (c :: t) w Tryz.call132 (fun c w _ _ => naln_any c w) alnI_128
      cases hd : digI c.toNat with
      | true =>
        rw [nm_dig c t hd]
        rw [hd] at hD
        have HD := Lib.hid hD; clear hD hE hd h40
        generalize bs (c :: t) = s at *
        go_enter Tryz.func118, Tryz.ntmps118
        go_wp2_with fail
        refine (HD.out _).mono ?_
        rintro e w1 ⟨rfl, rfl⟩
        go_wp2
        go_ret
        exact ⟨rfl, Kept.refl _ _⟩
      | false =>
        rw [nm_cons c t (by omega) hd]
        rw [hd] at hD
        have HD := Lib.hid hD; have HE := Lib.hid hE; clear hD hE hd h40
        generalize evL alnI (c :: t) = r at *
        generalize bs (c :: t) = s at *
        go_enter Tryz.func118, Tryz.ntmps118
        go_wp2_with fail
        refine (HD.out _).mono ?_
        rintro e w1 ⟨rfl, rfl⟩
        go_wp2_with fail
        refine HE.out.mono ?_
        rintro e w1 ⟨rfl, hk⟩
        go_wp2
        go_ret
        exact ⟨rfl, hk⟩

set_option maxHeartbeats 400000 in
theorem nun_any (l : List UInt8) (w : World) : Calls Tryz.prog 134 #[.string (bs l)] w fun e w' => e = .returned (.bool (isUn l)) ∧ Kept (fun _ => False) w w' := by
  have hI := nis_any l w
  unfold isUn
  cases hn : isNm l with
  | false =>
    rw [hn] at hI
    have HI := Lib.hid hI; clear hI hn
    go_enter Tryz.func134, Tryz.ntmps134
    go_wp2_with fail
    refine HI.out.mono ?_
    rintro e w1 ⟨rfl, hk⟩
    go_wp2
    go_ret
    exact ⟨rfl, hk⟩
  | true =>
    cases l with
    | nil => cases hn
    | cons c t =>
      rw [hn] at hI
      obtain ⟨h1, h2, h3, h4⟩ := txt_cons c t
      have hL := nlow_any c.toNat
      show Calls _ _ _ _ (fun e w' => e = .returned (.bool (true && lowI c.toNat)) ∧ _)
      rw [Bool.true_and]
      generalize lowI c.toNat = r at *
      have HI := Lib.hid hI; have HL := Lib.hid hL; clear hI hL hn
      generalize bs (c :: t) = s at *
      go_enter Tryz.func134, Tryz.ntmps134
      go_wp2_with fail
      refine HI.out.mono ?_
      rintro e w1 ⟨rfl, hk⟩
      go_wp2_with fail
      refine (HL.out _).mono ?_
      rintro e w2 ⟨rfl, rfl⟩
      go_wp2
      go_ret
      exact ⟨rfl, hk⟩

set_option maxHeartbeats 400000 in
theorem ncl_any (l : List UInt8) (w : World) : Calls Tryz.prog 101 #[.string (bs l)] w fun e w' => e = .returned (.bool (isCl l)) ∧ Kept (fun _ => False) w w' := by
  have hI := nis_any l w
  unfold isCl
  cases hn : isNm l with
  | false =>
    rw [hn] at hI
    have HI := Lib.hid hI; clear hI hn
    go_enter Tryz.func101, Tryz.ntmps101
    go_wp2_with fail
    refine HI.out.mono ?_
    rintro e w1 ⟨rfl, hk⟩
    go_wp2
    go_ret
    exact ⟨rfl, hk⟩
  | true =>
    cases l with
    | nil => cases hn
    | cons c t =>
      rw [hn] at hI
      obtain ⟨h1, h2, h3, h4⟩ := txt_cons c t
      have hL := nupp_any c.toNat
      show Calls _ _ _ _ (fun e w' => e = .returned (.bool (true && uppI c.toNat)) ∧ _)
      rw [Bool.true_and]
      generalize uppI c.toNat = r at *
      have HI := Lib.hid hI; have HL := Lib.hid hL; clear hI hL hn
      generalize bs (c :: t) = s at *
      go_enter Tryz.func101, Tryz.ntmps101
      go_wp2_with fail
      refine HI.out.mono ?_
      rintro e w1 ⟨rfl, hk⟩
      go_wp2_with fail
      refine (HL.out _).mono ?_
      rintro e w2 ⟨rfl, rfl⟩
      go_wp2
      go_ret
      exact ⟨rfl, hk⟩

end Go.Proofs.YtecjecdgjmipcaaGreat

/-
  CONTRACTS of package name: Var, Always; strings.ContainsRune at the binary characters; isBinary.
-/
namespace Go.Proofs.YtecjecdgjmipcaaGreat
open Go.RowKit Go.Mk

theorem clash {p : Prop} (b : Bool) (h : b = true) (h' : b = false) : p := by rw [h] at h'; cases h'

set_option maxHeartbeats 400000 in
theorem nalw_any (l : List UInt8) (w : World) : Calls Tryz.prog 117 #[.string (bs l)] w fun e w' => e = .returned (.bool (builtins.contains l)) ∧ Kept (fun _ => False) w w' := by
  have hl := bs_list l
  go_enter Tryz.func117, Tryz.ntmps117
  go_wp2
  all_goals clear hl
  all_goals
    first
      | (refine clash _ (by assumption) (by assumption))
      | (go_ret
         have E : builtins.contains l = true := by simp only [builtins, List.contains_cons, *, Bool.true_or, Bool.or_true]
         exact ⟨by rw [E]; rfl, Kept.refl _ _⟩)
      | (go_ret
         have E : builtins.contains l = false := by simp only [builtins, List.contains_cons, *, Bool.or_false, List.contains_nil]
         exact ⟨by rw [E]; rfl, Kept.refl _ _⟩)

set_option maxHeartbeats 400000 in
theorem nvar_any (l : List UInt8) (w : World) : Calls Tryz.prog 120 #[.string (bs l)] w fun e w' => e = .returned (.bool (isVa l)) ∧ Kept (fun _ => False) w w' := by
  have hl := bs_list l
  have HU := Lib.hid (nun_any l w)
  go_enter Tryz.func120, Tryz.ntmps120
  go_wp2_with (go_at_call 134; refine HU.out.mono ?_; rintro e w1 ⟨rfl, hk⟩)
  all_goals clear hl
  all_goals
    first
      | (refine clash _ (by assumption) (by assumption))
      | (go_ret
         have E : resv.contains l = true := by simp only [resv, List.contains_cons, *, Bool.true_or, Bool.or_true]
         exact ⟨by rw [isVa, E]; simp, Kept.refl _ _⟩)
      | (go_ret
         have E : resv.contains l = false := by simp only [resv, List.contains_cons, *, Bool.or_false, List.contains_nil]
         exact ⟨by rw [isVa, E]; simp, by assumption⟩)

theorem ext_ibyte (s : ByteArray) (c : Int) (w : World) : (callFunc 165 #[.string s, .int .u8 c]).run Tryz.prog w = .ok (.value (.int .i64 (firstIdx s c.toNat.toUInt8))) w := by
  rw [run_callFunc_extern Tryz.func165 (by kernel_rfl) (by kernel_rfl) (by kernel_rfl) (e := Extern.BytealgIndexByte.indexByte) (by kernel_rfl), run_indexByte_string]
  rfl

theorem ibyte_any (s : ByteArray) (c : Int) (w : World) : Calls Tryz.prog 167 #[.string s, .int .u8 c] w fun e w' => e = .returned (.int .i64 (firstIdx s c.toNat.toUInt8)) ∧ w = w' := by
  have hx := ext_ibyte s c
  go_enter Tryz.func167, Tryz.ntmps167
  go_wp2
  go_ret
  exact ⟨rfl, rfl⟩

theorem valid_any (c : Int) (w : World) : Calls Tryz.prog 168 #[.int .i32 c] w fun e w' => e = .returned (.bool (Utf8.valid c)) ∧ w = w' := by
  rw [validRune_eq]
  go_enter Tryz.func168, Tryz.ntmps168
  go_wp2
  all_goals
    go_ret
    refine ⟨?_, rfl⟩
    simp [validRune]
    try omega

theorem marks_ascii : ∀ b ∈ marks, b.toNat < 128 := by decide
theorem marks_at (j : Nat) (h : j < (bs marks).size) : ((bs marks)[j]'h).toNat < 128 := marks_ascii _ (List.getElem_mem (l := marks) h)

set_option maxHeartbeats 1000000 in
set_option maxRecDepth 100000 in
theorem irune_err (w : World) : Calls Tryz.prog 163 #[.string (bs marks), .int .i32 65533] w fun e w' => e = .returned (.int .i64 (-1)) ∧ Kept (fun _ => False) w w' := by
  have hsz : (bs marks).size = 12 := rfl
  have HM := Lib.hid marks_at
  generalize bs marks = s at *
  go_enter Tryz.func163, Tryz.ntmps163
  go_wp2
  go_loopg [] 12 (fun k wr => ∃ j, k = 12 - j ∧ j ≤ 12 ∧ wr.heap[w.heap.size]? = some (.stringIter s j) ∧ Kept (fun _ => False) w wr)
  case atStart => exact ⟨0, rfl, Nat.zero_le _, World.iter_heap w _ 0, (Kept.refl _ w).alloc _⟩
  case round =>
    obtain ⟨j, hkj, hj, hit, hkp⟩ := hrel
    have HK := Lib.hid hkj; have HKP := Lib.hid hkp; have HIT := Lib.hid hit; clear hkj hkp hit
    by_cases hlt : j < 12
    · have hlt' : j < s.size := by rw [hsz]; exact hlt
      have ha := HM.out j hlt'
      have hnx : ∀ ty, (Instr.next (.pointer (some ⟨w.heap.size, 0, none⟩)) true ty).run Tryz.prog wr = _ := fun ty => Lib.run_next_ascii_at wr w.heap.size s j ty HIT.out hlt' ha
      have HIT2 := Lib.hid (Lib.iterAt_heap wr w.heap.size s j (j + 1) HIT.out)
      have HKP2 := Lib.hid (kept_iterAt HKP.out (Nat.le_refl _) s (j + 1))
      have hne : (((s[j]'hlt').toNat : Int) == 65533) = false := by rw [beq_eq_false_iff_ne]; omega
      generalize wr.iterAt w.heap.size s (j + 1) = w2 at *
      generalize ((s[j]'hlt').toNat : Int) = c at *
      go_wp2
      go_roundg (12 - (j + 1))
      case measure => have := HK.out; omega
      case rel => exact ⟨j + 1, rfl, by omega, HIT2.out, HKP2.out⟩
    · obtain rfl : j = 12 := by omega
      have hnx : ∀ ty, (Instr.next (.pointer (some ⟨w.heap.size, 0, none⟩)) true ty).run Tryz.prog wr = _ := fun ty => Lib.run_next_end_at wr w.heap.size s 12 ty HIT.out (by rw [hsz]; omega)
      go_wp2
      go_ret
      exact ⟨rfl, HKP.out⟩

set_option maxHeartbeats 1000000 in
set_option maxRecDepth 100000 in
/-- strings.IndexRune of what is no ASCII, in a text of ASCII. -/
theorem irune_high (r : Int) (w : World) (h : 128 ≤ r) : Calls Tryz.prog 163 #[.string (bs marks), .int .i32 r] w fun e w' => e = .returned (.int .i64 (-1)) ∧ Kept (fun _ => False) w w' := by
  have h0 : ¬ r < 128 := by omega
  by_cases he : r = 65533
  · subst he
    exact irune_err w
  · have hne : (r == 65533) = false := by rw [beq_eq_false_iff_ne]; exact he
    have HV := Lib.hid (valid_any r w)
    cases hv : Utf8.valid r with
    | false =>
      rw [hv] at HV
      go_enter Tryz.func163, Tryz.ntmps163
      go_wp2_with fail
      refine HV.out.mono ?_
      rintro e w1 ⟨rfl, rfl⟩
      go_wp2
      go_ret
      exact ⟨rfl, Kept.refl _ _⟩
    | true =>
      rw [hv] at HV
      obtain ⟨s2, s4, sl⟩ := encode_facts r hv h
      have hcv := fun (w : World) (src dst : TypeId) => run_convert_int_string (P := Tryz.prog) w src dst .i32 r
      have hI := fun (a e : Nat) => ibyte_any ((bs marks).extract a e)
      have hF := fun (a e : Nat) (c : UInt8) => firstIdx_ascii (bs marks) a e c marks_ascii
      have HM := Lib.hid marks_at; have HI := Lib.hid hI; have HF := Lib.hid hF; have HE := Lib.hid sl; clear hI hF sl
      have hsz : (bs marks).size = 12 := rfl
      generalize Utf8.encode r = E at *
      generalize bs marks = s at *
      obtain hn | hn | hn : E.size = 2 ∨ E.size = 3 ∨ E.size = 4 := by omega
      · go_enter Tryz.func163, Tryz.ntmps163
        go_wp2_with fail
        refine HV.out.mono ?_
        rintro e w1 ⟨rfl, rfl⟩
        go_wp2_with fail
        go_step3
        go_wp2_with fail
        go_loopg [9] 1 (fun k c wr => c = .int .i64 1 ∧ wr = w)
        case atStart => exact ⟨rfl, rfl⟩
        case round =>
          obtain ⟨rfl, rfl⟩ := hrel
          have i1 : 1 < E.size := by omega
          have i2 : 1 < s.size := by omega
          have e1 : 128 ≤ (E[1]'i1).toNat := by
            have := HE.out (by omega)
            simp only [hn] at this
            exact this
          have e2 := HM.out 1 i2
          have e3 : (((s[1]'i2).toNat : Int) == ((E[1]'i1).toNat : Int)) = false := by rw [beq_eq_false_iff_ne]; omega
          have e4 : (((s[1]'i2).toNat : Int) != ((E[1]'i1).toNat : Int)) = true := by simp [bne, e3]
          have HX := Lib.hid (HI.out 2 12 ((E[1]'i1).toNat : Int))
          have e5 : Hid (firstIdx (s.extract 2 12) (((E[1]'i1).toNat : Int).toNat.toUInt8) = -1) := HF.out 2 12 _ (by
            rw [Int.toNat_natCast, show ((E[1]'i1).toNat.toUInt8) = (E[1]'i1) from UInt8.ofNat_toNat]
            exact e1)
          go_wp2_with fail
          go_step3
          go_wp2_with fail
          go_quiet (fail)
          go_wp2_with fail
          go_region_with (go_at_call 167; refine (HX.out _).mono ?_; rintro e w1 ⟨rfl, rfl⟩; rw [e5.out])
          all_goals go_wp2_with fail
          all_goals
            simp only [Exit.noGoto, Exit.inBlock, Exit.then]
            go_ret
            exact ⟨rfl, ⟨rfl, rfl, rfl, Nat.le_refl _, fun _ _ _ => rfl⟩⟩
      · go_enter Tryz.func163, Tryz.ntmps163
        go_wp2_with fail
        refine HV.out.mono ?_
        rintro e w1 ⟨rfl, rfl⟩
        go_wp2_with fail
        go_step3
        go_wp2_with fail
        go_loopg [9] 1 (fun k c wr => c = .int .i64 2 ∧ wr = w)
        case atStart => exact ⟨rfl, rfl⟩
        case round =>
          obtain ⟨rfl, rfl⟩ := hrel
          have i1 : 2 < E.size := by omega
          have i2 : 2 < s.size := by omega
          have e1 : 128 ≤ (E[2]'i1).toNat := by
            have := HE.out (by omega)
            simp only [hn] at this
            exact this
          have e2 := HM.out 2 i2
          have e3 : (((s[2]'i2).toNat : Int) == ((E[2]'i1).toNat : Int)) = false := by rw [beq_eq_false_iff_ne]; omega
          have e4 : (((s[2]'i2).toNat : Int) != ((E[2]'i1).toNat : Int)) = true := by simp [bne, e3]
          have HX := Lib.hid (HI.out 3 12 ((E[2]'i1).toNat : Int))
          have e5 : Hid (firstIdx (s.extract 3 12) (((E[2]'i1).toNat : Int).toNat.toUInt8) = -1) := HF.out 3 12 _ (by
            rw [Int.toNat_natCast, show ((E[2]'i1).toNat.toUInt8) = (E[2]'i1) from UInt8.ofNat_toNat]
            exact e1)
          go_wp2_with fail
          go_step3
          go_wp2_with fail
          go_quiet (fail)
          go_wp2_with fail
          go_region_with (go_at_call 167; refine (HX.out _).mono ?_; rintro e w1 ⟨rfl, rfl⟩; rw [e5.out])
          all_goals go_wp2_with fail
          all_goals
            simp only [Exit.noGoto, Exit.inBlock, Exit.then]
            go_ret
            exact ⟨rfl, ⟨rfl, rfl, rfl, Nat.le_refl _, fun _ _ _ => rfl⟩⟩
      · go_enter Tryz.func163, Tryz.ntmps163
        go_wp2_with fail
        refine HV.out.mono ?_
        rintro e w1 ⟨rfl, rfl⟩
        go_wp2_with fail
        go_step3
        go_wp2_with fail
        go_loopg [9] 1 (fun k c wr => c = .int .i64 3 ∧ wr = w)
        case atStart => exact ⟨rfl, rfl⟩
        case round =>
          obtain ⟨rfl, rfl⟩ := hrel
          have i1 : 3 < E.size := by omega
          have i2 : 3 < s.size := by omega
          have e1 : 128 ≤ (E[3]'i1).toNat := by
            have := HE.out (by omega)
            simp only [hn] at this
            exact this
          have e2 := HM.out 3 i2
          have e3 : (((s[3]'i2).toNat : Int) == ((E[3]'i1).toNat : Int)) = false := by rw [beq_eq_false_iff_ne]; omega
          have e4 : (((s[3]'i2).toNat : Int) != ((E[3]'i1).toNat : Int)) = true := by simp [bne, e3]
          have HX := Lib.hid (HI.out 4 12 ((E[3]'i1).toNat : Int))
          have e5 : Hid (firstIdx (s.extract 4 12) (((E[3]'i1).toNat : Int).toNat.toUInt8) = -1) := HF.out 4 12 _ (by
            rw [Int.toNat_natCast, show ((E[3]'i1).toNat.toUInt8) = (E[3]'i1) from UInt8.ofNat_toNat]
            exact e1)
          go_wp2_with fail
          go_step3
          go_wp2_with fail
          go_quiet (fail)
          go_wp2_with fail
          go_region_with (go_at_call 167; refine (HX.out _).mono ?_; rintro e w1 ⟨rfl, rfl⟩; rw [e5.out])
          all_goals go_wp2_with fail
          all_goals
            simp only [Exit.noGoto, Exit.inBlock, Exit.then]
            go_ret
            exact ⟨rfl, ⟨rfl, rfl, rfl, Nat.le_refl _, fun _ _ _ => rfl⟩⟩

set_option maxHeartbeats 1000000 in
set_option maxRecDepth 100000 in
theorem irune_low (c : Int) (w : World) (h0 : 0 ≤ c) (h1 : c < 128) : Calls Tryz.prog 163 #[.string (bs marks), .int .i32 c] w fun e w' => e = .returned (.int .i64 (firstIdx (bs marks) c.toNat.toUInt8)) ∧ w = w' := by
  have HB := Lib.hid (ibyte_any (bs marks) c)
  generalize firstIdx (bs marks) c.toNat.toUInt8 = r at *
  go_enter Tryz.func163, Tryz.ntmps163
  go_wp2_with (go_at_call 167; refine (HB.out _).mono ?_; rintro e w1 ⟨rfl, rfl⟩)
  go_ret
  exact ⟨rfl, rfl⟩

/-- A character of binary selectors. -/
def mrkI (c : Int) : Bool := decide (c < 128) && marks.contains c.toNat.toUInt8

set_option maxHeartbeats 400000 in
theorem crune_any (c : Int) (w : World) (h0 : 0 ≤ c) : Calls Tryz.prog 152 #[.string (bs marks), .int .i32 c] w fun e w' => e = .returned (.bool (mrkI c)) ∧ Kept (fun _ => False) w w' := by
  by_cases h1 : c < 128
  · have HB := Lib.hid (irune_low c w h0 h1)
    have e : mrkI c = decide (0 ≤ firstIdx (bs marks) c.toNat.toUInt8) := by
      rw [firstIdx_nonneg, mrkI, decide_eq_true h1, Bool.true_and, bs_toList, List.contains_eq_any_beq]
      congr 1
      funext x
      exact Bool.beq_comm ..
    rw [e]
    generalize firstIdx (bs marks) c.toNat.toUInt8 = r at *
    clear e
    go_enter Tryz.func152, Tryz.ntmps152
    go_wp2_with (go_at_call 163; refine HB.out.mono ?_; rintro e w1 ⟨rfl, rfl⟩)
    go_ret
    exact ⟨rfl, Kept.refl _ _⟩
  · have HB := Lib.hid (irune_high c w (by omega))
    have e : mrkI c = false := by rw [mrkI, decide_eq_false h1, Bool.false_and]
    rw [e]
    go_enter Tryz.func152, Tryz.ntmps152
    go_wp2_with (go_at_call 163; refine HB.out.mono ?_; rintro e w1 ⟨rfl, hk⟩)
    go_ret
    exact ⟨rfl, hk⟩

theorem nmrk_any (c : Int) (w : World) (h0 : 0 ≤ c) : Calls Tryz.prog 151 #[.int .i32 c] w fun e w' => e = .returned (.bool (mrkI c)) ∧ Kept (fun _ => False) w w' := by
  have HB := Lib.hid (crune_any c w h0)
  generalize mrkI c = r at *
  go_enter Tryz.func151, Tryz.ntmps151
  go_wp2_with (go_at_call 152; refine HB.out.mono ?_; rintro e w1 ⟨rfl, hk⟩)
  go_ret
  exact ⟨rfl, hk⟩

theorem mrkI_128 (c : Int) (h : 128 ≤ c) : mrkI c = false := by rw [mrkI, decide_eq_false (by omega), Bool.false_and]
theorem mrk_fun : (fun b : UInt8 => mrkI (b.toNat : Int)) = fun b => marks.contains b := by
  funext b
  unfold mrkI
  rw [Int.toNat_natCast, show b.toNat.toUInt8 = b from UInt8.ofNat_toNat]
  cases h : marks.contains b with
  | false => rw [Bool.and_false]
  | true =>
    have := marks_ascii b (List.contains_iff_mem.1 h)
    rw [Bool.and_true, decide_eq_true_iff]
    omega
theorem mrk_ev (l : List UInt8) : evL mrkI l = l.all marks.contains := by
  unfold evL
  rw [mrk_fun]

set_option maxHeartbeats 400000 in
theorem nbi_any (l : List UInt8) (w : World) : Calls Tryz.prog 136 #[.string (bs l)] w fun e w' => e = .returned (.bool (isBi l)) ∧ Kept (fun _ => False) w w' := by
  cases l with
  | nil =>
    go_enter Tryz.func136, Tryz.ntmps136
    go_wp2
    go_ret
    exact ⟨rfl, Kept.refl _ _⟩
  | cons c t =>
    obtain ⟨h1, h2, h3, h4⟩ := txt_cons c t
    unfold isBi
    rw [← mrk_ev]
    by_cases h40 : 2 < (c :: t).length
    · have e : lenIn (c :: t) 2 = false := by simp [lenIn] at *; omega
      rw [e, Bool.false_and]
      rw [← bs_size] at h40
      have h41 : (2 : Int) < ((bs (c :: t)).size : Int) := by omega
      clear h40 e
      generalize bs (c :: t) = s at *
      go_enter Tryz.func136, Tryz.ntmps136
      go_wp2
      go_ret
      exact ⟨rfl, Kept.refl _ _⟩
    · have e : lenIn (c :: t) 2 = true := by simp [lenIn] at *; omega
      rw [e, Bool.true_and]
      have h41 : ((bs (c :: t)).size : Int) ≤ 2 := by rw [bs_size]; omega
      have HE := Lib.hid (every_any 151 mrkI (c :: t) w Tryz.call151 (fun c w h _ => nmrk_any c w h) mrkI_128)
      clear h40 e
      generalize evL mrkI (c :: t) = r at *
      generalize bs (c :: t) = s at *
      go_enter Tryz.func136, Tryz.ntmps136
      go_wp2_with fail
      refine HE.out.mono ?_
      rintro e w1 ⟨rfl, hk⟩
      go_wp2
      go_ret
      exact ⟨rfl, hk⟩

end Go.Proofs.YtecjecdgjmipcaaGreat
