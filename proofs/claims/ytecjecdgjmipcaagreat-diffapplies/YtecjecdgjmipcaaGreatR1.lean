/-
  CONTRACTS of the reference of layer 1: what encodings are.
-/
import Derived.Test.YtecjecdgjmipcaaGreatWr
namespace Go.Proofs.YtecjecdgjmipcaaGreat
open Go.RowKit Go.Mk

set_option maxHeartbeats 400000 in
set_option maxRecDepth 100000 in
theorem octets_any (u k : Nat) (w : World) (hk : k ≤ 8) (hu : u < 18446744073709551616) :
    Calls Tryz.prog 91 #[.int .u64 u, .int .i64 k] w fun e w' => e = .returned (.string (bs (bigB k u))) ∧ Below w.heap.size w w' := by
  go_enter Tryz.func91, Tryz.ntmps91
  go_wp2
  go_loopg [0, 5, 6] k (fun m n s i wr => ∃ j, m = k - j ∧ j ≤ k ∧ i = .int .i64 (j : Int) ∧ s = .string (bs (bigB j u)) ∧ n = .int .u64 ((u / 256 ^ j : Nat) : Int) ∧ Below w.heap.size w wr)
  case atStart => exact ⟨0, rfl, Nat.zero_le _, rfl, rfl, by simp, Below.refl _ _⟩
  case round =>
    obtain ⟨j, hm, hj, rfl, rfl, rfl, hb⟩ := hrel
    have hle : u / 256 ^ j ≤ u := Nat.div_le_self _ _
    generalize hd : u / 256 ^ j = d at *
    have HD := Lib.hid hd; clear hd
    have HM := Lib.hid hm; clear hm
    have HB := Lib.hid hb; clear hb
    by_cases hlt : j < k
    · have hcv := run_string_one (P := Tryz.prog) 55 9 5 Tryz.underlying55 Tryz.underlying5 Tryz.underlying9 wr (UInt8.ofNat d) 5
      have eb : bv (UInt8.ofNat d) = .int .u8 ((d : Int) % 256) := by simp [bv]
      rw [eb] at hcv
      clear eb
      have z1 : (bs [UInt8.ofNat d]).size ≤ 100 := by simp [bs_size]
      have z2 : (bs (bigB j u)).size ≤ 100 := by simp [bs_size, bigB_length]; omega
      go_wp2
      go_roundg (k - (j + 1))
      case measure => have := HM.out; omega
      case rel =>
        refine ⟨j + 1, rfl, by omega, by go_num, ?_, ?_, HB.out.alloc HB.out.size _⟩
        · rw [bs_append]; simp [bigB, HD.out]
        · congr 1; rw [Nat.pow_succ, ← Nat.div_div_eq_div_mul, HD.out]; rfl
    · obtain rfl : j = k := by omega
      go_wp2
      go_ret
      exact ⟨rfl, HB.out⟩

theorem asU64_lt (n : Int) : asU64 n < 18446744073709551616 := by
  unfold asU64
  rw [IntKind.wrap_u64]
  omega

set_option maxHeartbeats 400000 in
theorem rnum_ok (n : Nat) (w : World) (h : n ≤ 2147483647) :
    Calls Tryz.prog 63 #[.int .i64 n] w fun e w' => e = .returned (.tuple #[.string (bs (bigB 4 n)), .bool true]) ∧ Below w.heap.size w w' := by
  go_enter Tryz.func63, Tryz.ntmps63
  go_wp2_with fail
  refine (octets_any n 4 w (by omega) (by omega)).mono ?_
  rintro e w1 ⟨rfl, hb⟩
  have HB := Lib.hid hb; clear hb
  go_wp2
  go_ret2
  exact ⟨rfl, HB.out⟩

set_option maxHeartbeats 400000 in
theorem rnum_no (n : Int) (w : World) (h : n < 0 ∨ 2147483647 < n) :
    Calls Tryz.prog 63 #[.int .i64 n] w fun e w' => e = .returned (.tuple #[.string (bs []), .bool false]) ∧ w = w' := by
  rcases h with h | h
  · go_enter Tryz.func63, Tryz.ntmps63
    go_wp2
    go_ret2
    exact ⟨rfl, rfl⟩
  · have h2 : ¬ n < 0 := by omega
    go_enter Tryz.func63, Tryz.ntmps63
    go_wp2
    go_ret2
    exact ⟨rfl, rfl⟩

/-- The encoding of a text, of a list of texts. -/
def encT (t : List UInt8) : List UInt8 := bigB 4 t.length ++ t
def encL (l : List (List UInt8)) : List UInt8 := bigB 4 l.length ++ (l.map encT).flatten

set_option maxHeartbeats 400000 in
theorem rtext_any (t : List UInt8) (w : World) (h : t.length ≤ 2147483647) :
    Calls Tryz.prog 92 #[.string (bs t)] w fun e w' => e = .returned (.string (bs (encT t))) ∧ Below w.heap.size w w' := by
  have e1 : (bs t).size = t.length := rfl
  have z1 : (bs t).size ≤ 2147483647 := by omega
  have z2 : (bs (bigB 4 t.length)).size ≤ 100 := by simp [bs_size, bigB_length]
  have E1 := Lib.hid e1; clear e1
  go_enter Tryz.func92, Tryz.ntmps92
  go_wp2_with fail
  rw [E1.out]
  refine (rnum_ok t.length w h).mono ?_
  rintro e w1 ⟨rfl, hb⟩
  have HB := Lib.hid hb; clear hb
  go_wp2
  go_ret
  exact ⟨by rw [bs_append]; rfl, HB.out⟩

/-- The list's encoding up to its first j texts. -/
def encTo (l : List (List UInt8)) (n j : Nat) : List UInt8 := bigB 4 n ++ ((l.take j).map encT).flatten

theorem encT_len (t : List UInt8) : (encT t).length = 4 + t.length := by simp [encT, bigB_length]

theorem flat_len (l : List (List UInt8)) : ((l.map encT).flatten).length = sumL l := by
  induction l with
  | nil => rfl
  | cons t l ih => simp [sumL, encT_len] at *; omega
theorem encL_len (l : List (List UInt8)) : (encL l).length = 4 + sumL l := by simp only [encL, List.length_append, bigB_length, flat_len]

set_option maxHeartbeats 400000 in
theorem rtexts_any (la : Option Addr) (lc : Nat) (ss : List ByteArray) (B : Nat) (w : World) (hB : B ≤ w.heap.size) (hL : Lies w B la (ss.map .string)) (hn : ss.length ≤ 2147483647) (hs : ∀ t ∈ ss, t.size ≤ 2147483647) (hz : sumL (strL ss) ≤ 1099511627776) :
    Calls Tryz.prog 93 #[.slice la ss.length lc] w fun e w' => e = .returned (.string (bs (encL (strL ss)))) ∧ Below w.heap.size w w' := by
  have HL := Lib.hid hL; clear hL
  have HS := Lib.hid hs; clear hs
  go_enter Tryz.func93, Tryz.ntmps93
  go_wp2_with fail
  refine (rnum_ok ss.length w hn).mono ?_
  rintro e w1 ⟨rfl, b1⟩
  have B1 := Lib.hid b1; clear b1
  go_wp2
  go_loopg [3, 5] ss.length (fun k s c wr => ∃ j, k = ss.length - j ∧ j ≤ ss.length ∧ c = .int .i64 (j : Int) ∧ s = .string (bs (encTo (strL ss) ss.length j)) ∧ Below w.heap.size w wr)
  case atStart => exact ⟨0, rfl, Nat.zero_le _, rfl, by simp [encTo], B1.out⟩
  case round =>
    obtain ⟨j, hk, hj, rfl, rfl, hbl⟩ := hrel
    by_cases hlt : j < ss.length
    · obtain ⟨xb, xo, rfl, hxb, hc⟩ := (HL.out.below (hbl.mono hB)) (by intro h; rw [List.map_eq_nil_iff] at h; rw [h] at hlt; simp at hlt)
      have hx : wr.cell? ⟨xb, xo + j, none⟩ = some (.string (bs ss[j].data.toList)) := hc j _ (by simp [hlt]; rfl)
      have HK := Lib.hid hk; clear hk hc
      have HBL := Lib.hid hbl; clear hbl
      have hsj := HS.out ss[j] (List.getElem_mem hlt)
      have e : (strL ss).take (j + 1) = (strL ss).take j ++ [ss[j].data.toList] := by
        rw [List.take_add_one]
        simp [strL, hlt]
      have hz1 : (bs (encTo (strL ss) ss.length j)).size ≤ 1099511627780 := by
        have h1 := sumL_take (strL ss) j
        simp only [bs_size, encTo, List.length_append, bigB_length, flat_len]; omega
      have hz2 : (bs (encT ss[j].data.toList)).size ≤ 2147483651 := by
        have : ss[j].data.toList.length = ss[j].size := rfl
        simp only [bs_size, encT_len, this]; omega
      have EE := Lib.hid e; clear e
      go_wp2_with fail
      refine (rtext_any ss[j].data.toList wr hsj).mono ?_
      rintro e w2 ⟨rfl, b2⟩
      have B2 := Lib.hid b2; clear b2
      go_wp2
      go_roundg (ss.length - (j + 1))
      case measure => have := HK.out; omega
      case rel =>
        refine ⟨j + 1, rfl, by omega, by go_num, ?_, HBL.out.trans (B2.out.mono HBL.out.size)⟩
        rw [bs_append, encTo, encTo, EE.out]; simp
    · obtain rfl : j = ss.length := by omega
      go_wp2
      go_ret
      have e : (strL ss).take ss.length = strL ss := List.take_of_length_le (by simp [strL])
      exact ⟨by rw [encTo, e]; simp [encL, strL], hbl⟩

end Go.Proofs.YtecjecdgjmipcaaGreat
