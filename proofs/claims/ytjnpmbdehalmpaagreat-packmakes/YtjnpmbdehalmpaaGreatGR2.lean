/-
  Lemmas towards the claim of this folder: contracts of the functions that the law reaches; joined texts.
-/
import Derived.Test.YtjnpmbdehalmpaaGreatGCr
import Derived.Test.YtjnpmbdehalmpaaGreatGPq8
import Derived.Test.YtjnpmbdehalmpaaGreatGRs
/-
  CONTRACTS of the reference of layer 2.
-/
namespace Go.Proofs.YtjnpmbdehalmpaaGreat
open Go.RowKit Go.Mk

theorem ref_step (R C : Nat) : sh (R ^^^ C) = (if (C + R) % 2 = 1 then R / 2 ^^^ cpoly else R / 2) ^^^ C / 2 := by
  unfold sh
  rw [xor_mod2, xor_div2, Nat.add_comm C R]
  split
  · rw [Nat.xor_assoc, Nat.xor_assoc, Nat.xor_comm (C / 2)]
  · rfl

set_option maxHeartbeats 400000 in
theorem rsum2_any (l : List UInt8) (w : World) (hl : l.length ≤ 1099511627776) :
    Calls Tryz.prog 88 #[.string (bs l)] w fun e w' => e = .returned (.int .u32 (sumN l)) ∧ w = w' := by
  have es : (bs l).size = l.length := rfl
  have hs : (bs l).size ≤ 1099511627776 := hl
  have ES := Lib.hid es; clear es
  go_enter Tryz.func88, Tryz.ntmps88
  go_wp2
  go_loopg [3, 4] l.length (fun k r c wr => ∃ j, k = l.length - j ∧ j ≤ l.length ∧ c = .int .i64 (j : Int) ∧ r = .int .u32 (regN (l.take j) ones) ∧ w = wr)
  case atStart => exact ⟨0, rfl, Nat.zero_le _, rfl, rfl, rfl⟩
  case round =>
    obtain ⟨j, hk, hj, rfl, rfl, rfl⟩ := hrel
    have HK := Lib.hid hk; clear hk
    have hR := regN_lt (l.take j) (r := ones) (by decide)
    by_cases hlt : j < l.length
    · have hlt2 : j < (bs l).size := hlt
      have hst : regN (l.take (j + 1)) ones = stepN (regN (l.take j) ones) (bs l)[j] := by
        rw [← List.take_append_getElem hlt, regN_append]
        rfl
      generalize regN (l.take j) ones = r at *
      have hx := (bs l)[j].toNat_lt
      have hsd : stepN r (bs l)[j] = shN 8 (r ^^^ (bs l)[j].toNat) := rfl
      have HST := Lib.hid hst; have HSD := Lib.hid hsd; clear hst hsd
      go_wp2
      generalize (bs l)[j] = x at *
      go_loopg [3, 5, 6] 8 (fun m q c i wr => ∃ n R, m = 8 - n ∧ n ≤ 8 ∧ i = .int .i64 (n : Int) ∧ q = .int .u32 (R : Nat) ∧ c = .int .u8 ((x.toNat / 2 ^ n : Nat) : Int) ∧ R < 4294967296 ∧ R ^^^ x.toNat / 2 ^ n = shN n (r ^^^ x.toNat) ∧ w = wr)
      case atStart => exact ⟨0, r, rfl, by omega, rfl, rfl, by simp, hR, by simp [shN], rfl⟩
      case round =>
        obtain ⟨n, R, hm, hn, rfl, rfl, rfl, hRR, hxr, rfl⟩ := hrel
        by_cases hn8 : n < 8
        · have hnx : R ^^^ x.toNat / 2 ^ n = shN n (r ^^^ x.toNat) → (if (x.toNat / 2 ^ n + R) % 2 = 1 then R / 2 ^^^ cpoly else R / 2) ^^^ x.toNat / 2 ^ (n + 1) = shN (n + 1) (r ^^^ x.toNat) := by
            intro h
            rw [shN_succ, ← h, ref_step, Nat.pow_succ, Nat.div_div_eq_div_mul]
          have hnx := hnx hxr
          have hle : x.toNat / 2 ^ n ≤ x.toNat := Nat.div_le_self _ _
          have hd : x.toNat / 2 ^ (n + 1) = x.toNat / 2 ^ n / 2 := by rw [Nat.pow_succ, Nat.div_div_eq_div_mul]
          generalize x.toNat / 2 ^ n = C at *
          have HM := Lib.hid hm; have HNX := Lib.hid hnx; have HD := Lib.hid hd; clear hm hnx hd hxr
          by_cases hb : (C + R) % 2 = 1
          · rw [if_pos hb] at HNX
            have hb' : (((C : Int) + (R : Int)) % 4294967296 % 2 == 1) = true := by simp; omega
            have hxx : bits .xor .u32 ((R : Int) / 2) 3988292384 = ((R / 2 ^^^ cpoly : Nat) : Int) := u32_xor_nat (R / 2) 3988292384 (by omega) (by decide)
            have hlx : R / 2 ^^^ cpoly < 4294967296 := Nat.xor_lt_two_pow (n := 32) (by omega) (by decide)
            have HXX := Lib.hid hxx; clear hxx
            go_wp2
            go_roundg (8 - (n + 1))
            case measure => have := HM.out; omega
            case rel => exact ⟨n + 1, R / 2 ^^^ cpoly, rfl, by omega, by go_num, by rw [← HXX.out], by rw [HD.out]; rfl, hlx, HNX.out, rfl⟩
          · rw [if_neg hb] at HNX
            have hb' : (((C : Int) + (R : Int)) % 4294967296 % 2 == 1) = false := by simp; omega
            go_wp2
            go_roundg (8 - (n + 1))
            case measure => have := HM.out; omega
            case rel => exact ⟨n + 1, R / 2, rfl, by omega, by go_num, rfl, by rw [HD.out]; rfl, by omega, HNX.out, rfl⟩
        · obtain rfl : n = 8 := by omega
          have e : R = stepN r x := by
            have : x.toNat / 2 ^ 8 = 0 := Nat.div_eq_of_lt hx
            rw [this, Nat.xor_zero] at hxr
            rw [HSD.out, hxr]
          have E := Lib.hid e; clear e hxr
          go_wp2
          go_roundg (l.length - (j + 1))
          case measure => have := HK.out; omega
          case rel => exact ⟨j + 1, rfl, by omega, by go_num, by rw [HST.out, E.out], rfl⟩
    · have hge : (bs l).size ≤ j := by have := ES.out; omega
      obtain rfl : j = l.length := by omega
      have e : ((4294967295 : Int) - ((regN l ones : Nat) : Int)) % 4294967296 = ((sumN l : Nat) : Int) := by
        have h := sumN_eq l
        rw [List.take_length] at hR
        unfold ones at *
        omega
      have E := Lib.hid e; clear e
      go_wp2
      go_ret
      exact ⟨by rw [← E.out]; rfl, rfl⟩

set_option maxHeartbeats 400000 in
theorem rseal2_any (l : List UInt8) (w : World) (hl : l.length ≤ 1073741824) :
    Calls Tryz.prog 45 #[.string (bs l)] w fun e w' => e = .returned (.string (bs (sealL l))) ∧ Below w.heap.size w w' := by
  have es : (bs l).size = l.length := rfl
  have hs : (bs l).size ≤ 1073741824 := hl
  have ES := Lib.hid es; clear es
  have hsu := sumN_lt l
  go_enter Tryz.func45, Tryz.ntmps45
  go_wp2_with fail
  refine (rsum2_any l w (by omega)).mono ?_
  rintro e w1 ⟨rfl, rfl⟩
  have hcv := run_string_new (P := Tryz.prog) 28 9 5 Tryz.underlying28 Tryz.underlying5 Tryz.underlying9 w (le4 (sumN l)) 4 rfl 5
  have hle : (le4 (sumN l)).map bv = [.int .u8 ((sumN l : Int) % 256), .int .u8 ((sumN l : Int) / 256 % 256), .int .u8 ((sumN l : Int) / 65536 % 256), .int .u8 ((sumN l : Int) / 16777216)] := by
    simp only [le4, List.map, bv, UInt8.toNat_ofNat']
    have e4 : ((sumN l / 16777216 % 2 ^ 8 : Nat) : Int) = (sumN l : Int) / 16777216 := by omega
    rw [e4]
    rfl
  rw [hle] at hcv
  have z4 : (bs (le4 (sumN l))).size = 4 := rfl
  clear hle
  go_wp2
  go_ret
  refine ⟨by rw [bs_append]; rfl, (Below.refl _ _).alloc (Nat.le_refl _) _⟩

/-- What is sealed is opened, and nothing else. -/
theorem sealed_eq (l : List UInt8) (h : 4 ≤ l.length) : sealL (l.take (l.length - 4)) = l ↔ leN (l.drop (l.length - 4)) = sumN (l.take (l.length - 4)) := by
  have hd : (l.drop (l.length - 4)).length = 4 := by rw [List.length_drop]; omega
  constructor
  · intro e
    have e1 : le4 (sumN (l.take (l.length - 4))) = l.drop (l.length - 4) := by
      have e2 := congrArg (List.drop (l.length - 4)) e
      rw [sealL, List.drop_append_of_le_length (by rw [List.length_take]; omega), List.drop_of_length_le (by rw [List.length_take]; omega), List.nil_append] at e2
      exact e2
    rw [← e1, leN_le4 (sumN_lt _)]
  · intro e
    have e1 : le4 (sumN (l.take (l.length - 4))) = l.drop (l.length - 4) := leN_inj (by rw [hd]; rfl) (by rw [leN_le4 (sumN_lt _), e])
    rw [sealL, e1, List.take_append_drop]

theorem bs_take (l : List UInt8) (k : Nat) : (bs l).extract 0 k = bs (l.take k) := by
  apply ByteArray.ext
  simp [bs, ByteArray.data_extract]

set_option maxHeartbeats 400000 in
theorem ropen2_any (l : List UInt8) (w : World) (hl : l.length ≤ 1073741824) :
    Calls Tryz.prog 51 #[.string (bs l)] w fun e w' => e = .returned (.tuple #[.string (bs (openB l).1), .int .i64 (openB l).2]) ∧ Below w.heap.size w w' := by
  have es : (bs l).size = l.length := rfl
  have hs : (bs l).size ≤ 1073741824 := hl
  by_cases h4 : l.length < 4
  · have e : openB l = ([], 10) := by rw [openB, if_pos h4]
    rw [e]
    clear e
    have h4' : (bs l).size < 4 := h4
    clear es
    go_enter Tryz.func51, Tryz.ntmps51
    go_wp2
    go_ret2
    exact ⟨rfl, Below.refl _ _⟩
  · have hse := sealed_eq l (by omega)
    have e : openB l = if leN (l.drop (l.length - 4)) = sumN (l.take (l.length - 4)) then (l.take (l.length - 4), 0) else ([], 12) := by rw [openB, if_neg h4]
    have h4' : 4 ≤ (bs l).size := by rw [es]; omega
    obtain ⟨k, hk⟩ : ∃ k, l.length = k + 4 := ⟨l.length - 4, by omega⟩
    rw [show l.length - 4 = k by omega] at e hse
    have ht : (bs l).extract 0 ((bs l).size - 4) = bs (l.take k) := by rw [bs_size, hk, Nat.add_sub_cancel, bs_take]
    have E := Lib.hid e; have HSE := Lib.hid hse; have ES := Lib.hid es; have HT := Lib.hid ht; clear e hse es ht
    go_enter Tryz.func51, Tryz.ntmps51
    go_wp2_with fail
    rw [HT.out]
    refine (rseal2_any (l.take k) w (by simp; omega)).mono ?_
    rintro e w1 ⟨rfl, b1⟩
    have B1 := Lib.hid b1; clear b1
    by_cases hq : sealL (l.take k) = l
    · have hq' : ((bs (sealL (l.take k))).toList == (bs l).toList) = true := by rw [hq]; simp
      have e : openB l = (l.take k, 0) := by rw [E.out, if_pos (HSE.out.1 hq)]
      have EE := Lib.hid e; clear e hq
      go_wp2
      go_ret2
      rw [EE.out]
      exact ⟨by rw [HT.out]; rfl, B1.out⟩
    · have hq' : ((bs (sealL (l.take k))).toList == (bs l).toList) = false := by rw [bs_list, bs_list]; simpa using hq
      have e : openB l = ([], 12) := by rw [E.out, if_neg (fun h => hq (HSE.out.2 h))]
      have EE := Lib.hid e; clear e hq
      go_wp2
      go_ret2
      rw [EE.out]
      exact ⟨rfl, B1.out⟩

end Go.Proofs.YtjnpmbdehalmpaaGreat

/-
  PACKAGES over lists (plain): valid ones, their octets, what octets are parsed to.
-/
namespace Go.Proofs.YtjnpmbdehalmpaaGreat
open Go.RowKit Go.Mk Go.Maps

structure PD where
  n : List UInt8
  v : Int
  ns : List (List UInt8)
  ds : List DD
deriving DecidableEq

def zeroP : PD := ⟨[], 0, [], []⟩

def needAt (p : PD) (i : Nat) : Bool := isCl (p.ns.getD i []) && !(p.ns.getD i [] == p.n) && (decide (i = 0) || decide (p.ns.getD (i - 1) [] < p.ns.getD i []))
def needsTo (p : PD) (n : Nat) : Bool := (List.range n).all (needAt p)
def defAt (l : List DD) (i : Nat) : Bool := rightD (l.getD i zeroD) && (decide (i = 0) || decide (keyD (l.getD (i - 1) zeroD) < keyD (l.getD i zeroD)))
def defsTo (l : List DD) (n : Nat) : Bool := (List.range n).all (defAt l)
def headP (p : PD) : Bool := isCl p.n && decide (1 ≤ p.v) && decide (p.v ≤ 2147483647) && decide (p.ns.length ≤ 20) && decide (p.ds.length ≤ 500)
def rightPk (p : PD) : Bool := headP p && needsTo p p.ns.length && defsTo p.ds p.ds.length

theorem needsTo_succ (p : PD) (n : Nat) : needsTo p (n + 1) = (needsTo p n && needAt p n) := by unfold needsTo; rw [List.range_succ, List.all_append]; simp
theorem defsTo_succ (l : List DD) (n : Nat) : defsTo l (n + 1) = (defsTo l n && defAt l n) := by unfold defsTo; rw [List.range_succ, List.all_append]; simp
theorem needs_no {p : PD} {i : Nat} (h : i < p.ns.length) (hn : needAt p i = false) : needsTo p p.ns.length = false := by
  unfold needsTo
  rw [List.all_eq_false]
  exact ⟨i, List.mem_range.2 h, by simp [hn]⟩
theorem defs_no {l : List DD} {i : Nat} (h : i < l.length) (hn : defAt l i = false) : defsTo l l.length = false := by
  unfold defsTo
  rw [List.all_eq_false]
  exact ⟨i, List.mem_range.2 h, by simp [hn]⟩

theorem getD_at {α : Type} (l : List α) (z : α) (i : Nat) (h : i < l.length) : l.getD i z = l[i] := by rw [List.getD_eq_getElem?_getD, List.getElem?_eq_getElem h]; rfl

theorem needAt_zero {p : PD} (h : 0 < p.ns.length) : needAt p 0 = (isCl p.ns[0] && !(p.ns[0] == p.n)) := by
  unfold needAt
  rw [getD_at _ _ 0 h]
  simp
theorem needAt_pos {p : PD} {i : Nat} (h : i + 1 < p.ns.length) : needAt p (i + 1) = (isCl p.ns[i + 1] && !(p.ns[i + 1] == p.n) && decide (p.ns[i] < p.ns[i + 1])) := by
  unfold needAt
  rw [getD_at _ _ (i + 1) h, Nat.add_sub_cancel, getD_at _ _ i (by omega)]
  simp
theorem defAt_zero {l : List DD} (h : 0 < l.length) : defAt l 0 = rightD l[0] := by
  unfold defAt
  rw [getD_at _ _ 0 h]
  simp
theorem defAt_pos {l : List DD} {i : Nat} (h : i + 1 < l.length) : defAt l (i + 1) = (rightD l[i + 1] && decide (keyD l[i] < keyD l[i + 1])) := by
  unfold defAt
  rw [getD_at _ _ (i + 1) h, Nat.add_sub_cancel, getD_at _ _ i (by omega)]
  simp

theorem rise_steps {α : Type} {key : α → List UInt8} {l : List α} (h : ∀ i (hi : i + 1 < l.length), key l[i] < key l[i + 1]) : Rise key l := by
  unfold Rise
  rw [List.pairwise_iff_getElem]
  have hs : ∀ n i j (_ : j = i + n + 1) (hi : i < l.length) (hj : j < l.length), key l[i] < key l[j] := by
    intro n
    induction n with
    | zero => rintro i j rfl hi hj; exact h i hj
    | succ n ih =>
      rintro i j rfl hi hj
      exact lt_tr (ih i (i + n + 1) rfl hi (by omega)) (h (i + n + 1) hj)
  intro i j hi hj hij
  exact hs (j - i - 1) i j (by omega) hi hj

theorem rise_at {α : Type} {key : α → List UInt8} {l : List α} (h : Rise key l) (i : Nat) (hi : i + 1 < l.length) : key l[i] < key l[i + 1] := by
  unfold Rise at h
  rw [List.pairwise_iff_getElem] at h
  exact h i (i + 1) (by omega) hi (by omega)

theorem needs_iff {p : PD} : needsTo p p.ns.length = true ↔ (∀ x ∈ p.ns, isCl x = true ∧ x ≠ p.n) ∧ Rise id p.ns := by
  unfold needsTo
  rw [List.all_eq_true]
  simp only [List.mem_range]
  constructor
  · intro h
    refine ⟨fun x hx => ?_, rise_steps (fun i hi => ?_)⟩
    · obtain ⟨i, hi, rfl⟩ := List.getElem_of_mem hx
      have h1 := h i hi
      unfold needAt at h1
      rw [getD_at _ _ i hi] at h1
      simp at h1
      exact h1.1
    · have h1 := h (i + 1) hi
      rw [needAt_pos hi] at h1
      simp at h1
      exact h1.2
  · rintro ⟨h1, h2⟩ i hi
    cases i with
    | zero => rw [needAt_zero hi]; have := h1 _ (List.getElem_mem hi); simp [this.1, this.2]
    | succ i => rw [needAt_pos hi]; have h3 := h1 _ (List.getElem_mem hi); have h4 := rise_at h2 i hi; simp only [id] at h4; simp [h3.1, h3.2, h4]

theorem defs_iff {l : List DD} : defsTo l l.length = true ↔ (∀ d ∈ l, rightD d = true) ∧ Rise keyD l := by
  unfold defsTo
  rw [List.all_eq_true]
  simp only [List.mem_range]
  constructor
  · intro h
    refine ⟨fun x hx => ?_, rise_steps (fun i hi => ?_)⟩
    · obtain ⟨i, hi, rfl⟩ := List.getElem_of_mem hx
      have h1 := h i hi
      unfold defAt at h1
      rw [getD_at _ _ i hi] at h1
      simp at h1
      exact h1.1
    · have h1 := h (i + 1) hi
      rw [defAt_pos hi] at h1
      simp at h1
      exact h1.2
  · rintro ⟨h1, h2⟩ i hi
    cases i with
    | zero => rw [defAt_zero hi]; exact h1 _ (List.getElem_mem hi)
    | succ i => rw [defAt_pos hi]; have h3 := h1 _ (List.getElem_mem hi); have h4 := rise_at h2 i hi; simp [h3, h4]

/-- What a valid package is. -/
structure RightP (p : PD) : Prop where
  cl : isCl p.n = true
  v1 : 1 ≤ p.v
  v2 : p.v ≤ 2147483647
  n20 : p.ns.length ≤ 20
  d500 : p.ds.length ≤ 500
  needs : ∀ x ∈ p.ns, isCl x = true ∧ x ≠ p.n
  nrise : Rise id p.ns
  right : ∀ d ∈ p.ds, rightD d = true
  rise : Rise keyD p.ds

theorem rightPk_iff {p : PD} : rightPk p = true ↔ RightP p := by
  unfold rightPk headP
  rw [Bool.and_eq_true, Bool.and_eq_true, needs_iff, defs_iff]
  simp only [Bool.and_eq_true, decide_eq_true_eq]
  constructor
  · rintro ⟨⟨⟨⟨⟨⟨a, b⟩, c⟩, d⟩, e⟩, f, g⟩, h, i⟩
    exact ⟨a, b, c, d, e, f, g, h, i⟩
  · rintro ⟨a, b, c, d, e, f, g, h, i⟩
    exact ⟨⟨⟨⟨⟨⟨a, b⟩, c⟩, d⟩, e⟩, f, g⟩, h, i⟩

/-! ### Octets -/

def hdO (p : PD) : List UInt8 := bigB 4 1297107783 ++ encT p.n ++ bigB 4 p.v.toNat ++ encL p.ns
def octP (p : PD) : List UInt8 := hdO p ++ octS p.ds

def hd1 (l : List UInt8) : RS × Int := (⟨l, 0⟩ : RS).num
def hd2 (l : List UInt8) : RS × List UInt8 := (hd1 l).1.text
def hd3 (l : List UInt8) : RS × Int := (hd2 l).1.num
def hd4 (l : List UInt8) : RS × List (List UInt8) := (hd3 l).1.texts

def ofP (l : List UInt8) : PD := ⟨(hd2 l).2, (hd3 l).2, (hd4 l).2, (parseL (hd4 l).1.rest).2⟩
def parseC (l : List UInt8) : Int × PD :=
  if (hd1 l).1.err = 0 ∧ (hd1 l).2 ≠ 1297107783 then (11, zeroP)
  else if (hd4 l).1.err ≠ 0 then ((hd4 l).1.err, zeroP)
  else if (parseL (hd4 l).1.rest).1 ≠ 0 then ((parseL (hd4 l).1.rest).1, zeroP)
  else if rightPk (ofP l) = true then (0, ofP l) else (2, zeroP)
def parsePk (l : List UInt8) : Int × PD := if (openB l).2 ≠ 0 then ((openB l).2, zeroP) else parseC (openB l).1

theorem open_seal (l : List UInt8) : openB (sealL l) = (l, 0) := by
  have h4 : (le4 (sumN l)).length = 4 := rfl
  have hl : (sealL l).length = l.length + 4 := by unfold sealL; rw [List.length_append, h4]
  unfold openB
  rw [if_neg (by omega), hl, Nat.add_sub_cancel]
  have e1 : (sealL l).take l.length = l := by unfold sealL; rw [List.take_left']; rfl
  have e2 : (sealL l).drop l.length = le4 (sumN l) := by unfold sealL; rw [List.drop_left']; rfl
  rw [e1, e2, leN_le4 (sumN_lt l), if_pos rfl]

theorem open_inv {l c : List UInt8} (h : openB l = (c, 0)) : sealL c = l := by
  unfold openB at h
  split at h
  · cases h
  · rename_i h4
    split at h
    · rename_i he
      cases h
      exact (sealed_eq l (by omega)).2 he
    · cases h

theorem hd_oct {p : PD} (hn : p.n.length ≤ 2147483647) (hv : 0 ≤ p.v) (hv2 : p.v ≤ 2147483647) (hs : p.ns.length ≤ 1000000) (hx : ∀ x ∈ p.ns, x.length ≤ 2147483647) (t : List UInt8) :
    hd1 (hdO p ++ t) = (⟨encT p.n ++ (bigB 4 p.v.toNat ++ (encL p.ns ++ t)), 0⟩, 1297107783) ∧ hd2 (hdO p ++ t) = (⟨bigB 4 p.v.toNat ++ (encL p.ns ++ t), 0⟩, p.n) ∧ hd3 (hdO p ++ t) = (⟨encL p.ns ++ t, 0⟩, p.v) ∧ hd4 (hdO p ++ t) = (⟨t, 0⟩, p.ns) := by
  have e1 : hd1 (hdO p ++ t) = (⟨encT p.n ++ (bigB 4 p.v.toNat ++ (encL p.ns ++ t)), 0⟩, 1297107783) := by
    unfold hd1 hdO
    simp only [List.append_assoc]
    exact read_num 1297107783 _ (by decide)
  have e2 : hd2 (hdO p ++ t) = (⟨bigB 4 p.v.toNat ++ (encL p.ns ++ t), 0⟩, p.n) := by
    unfold hd2
    rw [e1]
    exact read_text p.n _ hn
  have e3 : hd3 (hdO p ++ t) = (⟨encL p.ns ++ t, 0⟩, p.v) := by
    unfold hd3
    rw [e2]
    have := read_num p.v.toNat (encL p.ns ++ t) (by omega)
    rw [show ((p.v.toNat : Nat) : Int) = p.v by omega] at this
    exact this
  refine ⟨e1, e2, e3, ?_⟩
  unfold hd4
  rw [e3]
  exact read_texts p.ns t hs hx

theorem cl_len {l : List UInt8} (h : isCl l = true) : l.length ≤ 40 := by
  simp only [isCl, Bool.and_eq_true] at h
  exact nm_len h.1

theorem parseC_oct {p : PD} (h : RightP p) : parseC (octP p) = (0, p) := by
  obtain ⟨h1, h2, h3, h4⟩ := hd_oct (p := p) (by have := cl_len h.cl; omega) (by have := h.v1; omega) h.v2 (by have := h.n20; omega) (fun x hx => by have := cl_len (h.needs x hx).1; omega) (octS p.ds)
  have h5 := parse_oct h.rise h.right h.d500
  have e : ofP (octP p) = p := by
    unfold ofP octP
    rw [h2, h3, h4, h5]
  unfold parseC
  rw [e, if_pos (rightPk_iff.2 h)]
  unfold octP
  rw [h1, h4, if_neg (by simp), if_neg (by simp), h5, if_neg (by simp)]

theorem parse_seal {p : PD} (h : RightP p) : parsePk (sealL (octP p)) = (0, p) := by
  unfold parsePk
  rw [open_seal, if_neg (by simp)]
  exact parseC_oct h

theorem parseC_inv {l : List UInt8} {p : PD} (h : parseC l = (0, p)) : RightP p ∧ octP p = l := by
  unfold parseC at h
  by_cases h1 : (hd1 l).1.err = 0 ∧ (hd1 l).2 ≠ 1297107783
  · rw [if_pos h1] at h; cases h
  · rw [if_neg h1] at h
    by_cases h2 : (hd4 l).1.err ≠ 0
    · rw [if_pos h2] at h
      exact (h2 (Prod.mk.inj h).1).elim
    · rw [if_neg h2] at h
      by_cases h3 : (parseL (hd4 l).1.rest).1 ≠ 0
      · rw [if_pos h3] at h
        exact (h3 (Prod.mk.inj h).1).elim
      · rw [if_neg h3] at h
        by_cases h4 : rightPk (ofP l) = true
        · rw [if_pos h4] at h
          cases h
          refine ⟨rightPk_iff.1 h4, ?_⟩
          obtain ⟨t1, t2⟩ := texts_inv (s := (hd3 l).1) (by simpa [hd4] using h2)
          obtain ⟨v, v1, v2⟩ := num_inv (s := (hd2 l).1) t2
          have v3 := num_err0 (s := (hd2 l).1) t2
          obtain ⟨x1, x2⟩ := text_inv (s := (hd1 l).1) v3
          obtain ⟨n, n1, n2⟩ := num_inv (s := ⟨l, 0⟩) x2
          have n3 : (hd1 l).2 = 1297107783 := by
            apply Classical.byContradiction
            intro hne
            exact h1 ⟨x2, hne⟩
          have hnn : n = 1297107783 := by
            have : (n : Int) = 1297107783 := n1.symm.trans n3
            omega
          subst hnn
          have hp := (parse_inv (l := (hd4 l).1.rest) (m := (parseL (hd4 l).1.rest).2) (by
            have : (parseL (hd4 l).1.rest).1 = 0 := by simpa using h3
            rw [← this])).1
          have hv : (ofP l).v.toNat = v := by
            show (hd3 l).2.toNat = v
            have : (hd3 l).2 = (v : Int) := v1
            omega
          unfold octP hdO
          rw [hv]
          show bigB 4 1297107783 ++ encT (hd2 l).2 ++ bigB 4 v ++ encL (hd4 l).2 ++ octS (parseL (hd4 l).1.rest).2 = l
          rw [hp]
          simp only [List.append_assoc]
          have q1 : (hd3 l).1.rest = encL (hd4 l).2 ++ (hd4 l).1.rest := t1
          have q2 : (hd2 l).1.rest = bigB 4 v ++ (hd3 l).1.rest := v2
          have q3 : (hd1 l).1.rest = encT (hd2 l).2 ++ (hd2 l).1.rest := x1
          have q4 : l = bigB 4 1297107783 ++ (hd1 l).1.rest := n2
          rw [← q1, ← q2, ← q3, ← q4]
        · rw [if_neg h4] at h; cases h

theorem parsePk_inv {l : List UInt8} {p : PD} (h : parsePk l = (0, p)) : RightP p ∧ sealL (octP p) = l := by
  unfold parsePk at h
  by_cases h1 : (openB l).2 ≠ 0
  · rw [if_pos h1] at h
    exact (h1 (Prod.mk.inj h).1).elim
  · rw [if_neg h1] at h
    obtain ⟨h2, h3⟩ := parseC_inv h
    refine ⟨h2, ?_⟩
    rw [h3]
    exact open_inv (by have : (openB l).2 = 0 := by simpa using h1
                       rw [← this])

end Go.Proofs.YtjnpmbdehalmpaaGreat
