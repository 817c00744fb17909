/-
  Lemmas towards the claim of this folder: contracts of the functions that the law reaches; joined texts.
-/
import Derived.Test.YtjnpmbdehalmpaaGreatGPq8
import Derived.Test.YtjnpmbdehalmpaaGreatGNb
import Derived.Laws.BitsAllLaws
import Derived.Deep.RegionWith
/-
  CONTRACTS of package crc.
-/
namespace Go.Proofs.YtjnpmbdehalmpaaGreat
open Go.RowKit Go.Mk

theorem u32_and_one (z : Nat) (h : z < 4294967296) : bits .and .u32 (z : Int) 1 = ((z % 2 : Nat) : Int) := by
  have := u32_and_nat z 1 h (by decide)
  rw [Nat.and_one_is_mod] at this
  exact this

theorem shN_succ (n r : Nat) : shN (n + 1) r = sh (shN n r) := by rw [shN_add]; rfl

set_option maxHeartbeats 400000 in
theorem cstep_any (r : Nat) (x : UInt8) (w : World) (hr : r < 4294967296) :
    Calls Tryz.prog 95 #[.int .u32 r, .int .u8 x.toNat] w fun e w' => e = .returned (.int .u32 (stepN r x)) ∧ w = w' := by
  have hx := x.toNat_lt
  have hx0 : bits .xor .u32 (r : Int) (x.toNat : Int) = ((r ^^^ x.toNat : Nat) : Int) := u32_xor_nat r x.toNat hr (by omega)
  have hlt : r ^^^ x.toNat < 4294967296 := Nat.xor_lt_two_pow (n := 32) hr (by omega)
  have hs : stepN r x = shN 8 (r ^^^ x.toNat) := rfl
  have HX := Lib.hid hx0; have HS := Lib.hid hs; clear hx0 hs
  go_enter Tryz.func95, Tryz.ntmps95
  go_wp2
  rw [HX.out]
  generalize r ^^^ x.toNat = z at *
  clear HX
  go_loopg [0, 10] 8 (fun m v i wr => ∃ j, m = 8 - j ∧ j ≤ 8 ∧ i = .int .i64 (j : Int) ∧ v = .int .u32 (shN j z) ∧ w = wr)
  case atStart => exact ⟨0, rfl, by omega, rfl, rfl, rfl⟩
  case round =>
    obtain ⟨j, hm, hj, rfl, rfl, rfl⟩ := hrel
    have HM := Lib.hid hm; clear hm
    by_cases hj8 : j < 8
    · have hq := shN_lt j hlt
      have hsu := shN_succ j z
      generalize hzj : shN j z = y at *
      have hand := u32_and_one y hq
      have HSU := Lib.hid hsu; clear hsu hzj
      by_cases hodd : y % 2 = 1
      · have ho : (bits .and .u32 (y : Int) 1 == 1) = true := by rw [hand, hodd]; rfl
        have hxr : bits .xor .u32 ((y : Int) / 2) 3988292384 = ((sh y : Nat) : Int) := by
          have := u32_xor_nat (y / 2) 3988292384 (by omega) (by decide)
          rw [sh, if_pos hodd]
          exact this
        have HXR := Lib.hid hxr
        clear hand hxr
        go_wp2
        go_roundg (8 - (j + 1))
        case measure => have := HM.out; omega
        case rel => exact ⟨j + 1, rfl, by omega, by go_num, by rw [HSU.out, ← HXR.out], rfl⟩
      · have ho : (bits .and .u32 (y : Int) 1 == 1) = false := by rw [hand]; simp; omega
        have hxr : (y : Int) / 2 = ((sh y : Nat) : Int) := by
          rw [sh, if_neg hodd]; rfl
        have HXR := Lib.hid hxr
        clear hand hxr
        go_wp2
        go_roundg (8 - (j + 1))
        case measure => have := HM.out; omega
        case rel => exact ⟨j + 1, rfl, by omega, by go_num, by rw [HSU.out, ← HXR.out], rfl⟩
    · obtain rfl : j = 8 := by omega
      go_wp2
      go_ret
      exact ⟨by rw [HS.out]; rfl, rfl⟩

/-- A part: where it lies, its room, its bytes. -/
def pv (p : Option Addr × Nat × List UInt8) : Value := .slice p.1 p.2.2.length p.2.1
def allB (ps : List (Option Addr × Nat × List UInt8)) : List UInt8 := (ps.map (fun p => p.2.2)).flatten

set_option maxHeartbeats 400000 in
theorem csum_any (pa : Option Addr) (pc : Nat) (ps : List (Option Addr × Nat × List UInt8)) (B : Nat) (w : World) (hP : Lies w B pa (ps.map pv)) (hL : ∀ p ∈ ps, Lies w B p.1 (p.2.2.map bv)) (hn : ps.length ≤ 1099511627776) (hm : ∀ p ∈ ps, p.2.2.length ≤ 1099511627776) :
    Calls Tryz.prog 68 #[.slice pa ps.length pc] w fun e w' => e = .returned (.int .u32 (sumN (allB ps))) ∧ w = w' := by
  have HP := Lib.hid hP; have HL := Lib.hid hL; have HM := Lib.hid hm; clear hP hL hm
  go_enter Tryz.func68, Tryz.ntmps68
  go_wp2
  go_loopg [3, 10] ps.length (fun k r c wr => ∃ j, k = ps.length - j ∧ j ≤ ps.length ∧ c = .int .i64 (j : Int) ∧ r = .int .u32 (regN (allB (ps.take j)) ones) ∧ w = wr)
  case atStart => exact ⟨0, rfl, Nat.zero_le _, rfl, rfl, rfl⟩
  case round =>
    obtain ⟨j, hk, hj, rfl, rfl, rfl⟩ := hrel
    have hR := regN_lt (allB (ps.take j)) (r := ones) (by decide)
    by_cases hlt : j < ps.length
    · obtain ⟨xb, xo, rfl, hxb, hc⟩ := HP.out (by intro h; rw [List.map_eq_nil_iff] at h; rw [h] at hlt; simp at hlt)
      have hx : w.cell? ⟨xb, xo + j, none⟩ = some (.slice ps[j].1 ps[j].2.2.length ps[j].2.1) := hc j _ (by simp [hlt]; rfl)
      have hl := HM.out ps[j] (List.getElem_mem hlt)
      have hli := HL.out ps[j] (List.getElem_mem hlt)
      have hnx : regN (allB (ps.take (j + 1))) ones = regN ps[j].2.2 (regN (allB (ps.take j)) ones) := by
        rw [← regN_append, ← List.take_append_getElem hlt, allB, allB, List.map_append, List.flatten_append]
        simp
      generalize ps[j] = p at *
      obtain ⟨la, lc, l⟩ := p
      simp only at hx hl hli hnx
      generalize regN (allB (ps.take j)) ones = R at *
      have HK := Lib.hid hk; have HNX := Lib.hid hnx; have HLI := Lib.hid hli; clear hk hnx hli hc
      go_wp2
      go_loopg [3, 16] l.length (fun k r c wr => ∃ i, k = l.length - i ∧ i ≤ l.length ∧ c = .int .i64 (i : Int) ∧ r = .int .u32 (regN (l.take i) R) ∧ w = wr)
      case atStart => exact ⟨0, rfl, Nat.zero_le _, rfl, rfl, rfl⟩
      case round =>
        obtain ⟨i, hki, hi, rfl, rfl, rfl⟩ := hrel
        have HKI := Lib.hid hki; clear hki
        by_cases hlti : i < l.length
        · obtain ⟨yb, yo, rfl, _, hcy⟩ := HLI.out (by intro h; rw [List.map_eq_nil_iff] at h; rw [h] at hlti; simp at hlti)
          have hy : w.cell? ⟨yb, yo + i, none⟩ = some (.int .u8 (l[i].toNat : Int)) := hcy i _ (by simp [hlti, bv])
          have hT := regN_lt (l.take i) hR
          have hst : regN (l.take (i + 1)) R = stepN (regN (l.take i) R) l[i] := by
            rw [← List.take_append_getElem hlti, regN_append]
            rfl
          have HST := Lib.hid hst; clear hst hcy
          go_wp2_with fail
          refine (cstep_any (regN (l.take i) R) l[i] w hT).mono ?_
          rintro e w1 ⟨rfl, rfl⟩
          go_wp2
          go_roundg (l.length - (i + 1))
          case measure => have := HKI.out; omega
          case rel => exact ⟨i + 1, rfl, by omega, by go_num, by rw [HST.out], rfl⟩
        · obtain rfl : i = l.length := by omega
          have e : l.take l.length = l := List.take_length
          have E := Lib.hid e; clear e
          go_wp2
          go_roundg (ps.length - (j + 1))
          case measure => have := HK.out; omega
          case rel => exact ⟨j + 1, rfl, by omega, by go_num, by rw [HNX.out, E.out], rfl⟩
    · obtain rfl : j = ps.length := by omega
      have hs : bits .xor .u32 4294967295 ((regN (allB ps) ones : Nat) : Int) = ((sumN (allB ps) : Nat) : Int) := by
        rw [List.take_length] at hR
        exact u32_xor_nat 4294967295 _ (by decide) hR
      have HS := Lib.hid hs; clear hs
      go_wp2
      go_ret
      exact ⟨by rw [← HS.out]; rfl, rfl⟩

theorem or_high (p x k : Nat) (h : p < 2 ^ k) : p ||| x * 2 ^ k = p + x * 2 ^ k := by
  have := Nat.two_pow_add_eq_or_of_lt h x
  rw [Nat.mul_comm x, Nat.add_comm p, this, Nat.or_comm]

theorem little_or (l : List UInt8) (j : Nat) (h : j < l.length) (h4 : j < 4) : bits .or .u32 ((leN (l.take j) : Nat) : Int) ((l[j].toNat : Int) * 2 ^ (8 * j) % 4294967296) = ((leN (l.take (j + 1)) : Nat) : Int) := by
  have h1 := leN_lt (l.take j)
  have hl : (l.take j).length = j := by rw [List.length_take]; omega
  rw [hl] at h1
  have hx := l[j].toNat_lt
  have h2 := leN_lt (l.take (j + 1))
  have hl2 : (l.take (j + 1)).length = j + 1 := by rw [List.length_take]; omega
  rw [hl2] at h2
  have h3 : (2 : Nat) ^ (8 * (j + 1)) ≤ 2 ^ 32 := Nat.pow_le_pow_right (by decide) (by omega)
  have e : leN (l.take (j + 1)) = leN (l.take j) + l[j].toNat * 2 ^ (8 * j) := by
    rw [← List.take_append_getElem h, leN_append, hl]
    simp [leN, Nat.mul_comm]
  have c : (l[j].toNat : Int) * 2 ^ (8 * j) % 4294967296 = ((l[j].toNat * 2 ^ (8 * j) : Nat) : Int) := by
    have c1 : ((l[j].toNat * 2 ^ (8 * j) : Nat) : Int) = (l[j].toNat : Int) * 2 ^ (8 * j) := by norm_cast
    rw [← c1]
    omega
  rw [e] at h2 ⊢
  rw [c, u32_or_nat _ _ (by omega) (by omega), or_high _ _ _ h1]

set_option maxHeartbeats 400000 in
theorem clittle_any (ao : Option Addr) (cap : Nat) (l : List UInt8) (B : Nat) (w : World) (hL : Lies w B ao (l.map bv)) (hl : l.length = 4) :
    Calls Tryz.prog 73 #[.slice ao 4 cap] w fun e w' => e = .returned (.int .u32 (leN l)) ∧ w = w' := by
  have HL := Lib.hid hL; clear hL
  go_enter Tryz.func73, Tryz.ntmps73
  go_wp2
  go_loopg [3, 8] 4 (fun k r c wr => ∃ j, k = 4 - j ∧ j ≤ 4 ∧ c = .int .i64 (j : Int) ∧ r = .int .u32 (leN (l.take j)) ∧ w = wr)
  case atStart => exact ⟨0, rfl, Nat.zero_le _, rfl, rfl, rfl⟩
  case round =>
    obtain ⟨j, hk, hj, rfl, rfl, rfl⟩ := hrel
    by_cases hlt : j < 4
    · have hlj : j < l.length := by omega
      obtain ⟨yb, yo, rfl, _, hcy⟩ := HL.out (by intro h; rw [List.map_eq_nil_iff] at h; rw [h] at hlj; simp at hlj)
      have hy : w.cell? ⟨yb, yo + j, none⟩ = some (.int .u8 (l[j].toNat : Int)) := hcy j _ (by simp [hlj, bv])
      have hor := little_or l j hlj (by omega)
      have hx := l[j].toNat_lt
      have HK := Lib.hid hk; have HOR := Lib.hid hor; clear hk hor hcy
      generalize l[j] = x at *
      go_wp2
      go_roundg (4 - (j + 1))
      case measure => have := HK.out; omega
      case rel => exact ⟨j + 1, rfl, by omega, by go_num, by rw [← HOR.out], rfl⟩
    · obtain rfl : j = 4 := by omega
      have e : l.take 4 = l := List.take_of_length_le (by omega)
      have E := Lib.hid e; clear e
      go_wp2
      go_ret
      exact ⟨by rw [E.out]; rfl, rfl⟩

/-- The k lowest bytes, the least significant first. -/
def leB (k u : Nat) : List UInt8 := (List.range k).map fun i => UInt8.ofNat (u / 256 ^ i)
theorem leB_four (u : Nat) : leB 4 u = le4 u := by simp [leB, le4, List.range_succ]

set_option maxHeartbeats 400000 in
set_option maxRecDepth 100000 in
theorem cappend_any (v : Value) (n : Nat) (xs : List Value) (u : Nat) (w : World) (hown : w.ownsRow 0 5 1 v n xs) (hn : n ≤ 1099511627776) :
    Calls Tryz.prog 67 #[v, .int .u32 u] w fun e w' => ∃ v', e = .returned v' ∧ w'.ownsRow 0 5 1 v' (n + 4) (xs ++ (leB 4 u).map bv) ∧ w.grownBy w' v.ownBlock ∧ (v'.ownBlock = v.ownBlock ∨ ∃ b, v'.ownBlock = some b ∧ w.heap.size ≤ b) := by
  obtain ⟨i0, hi, hz0, hz1, hz2⟩ := info_parts Tryz.infoByte
  go_enter Tryz.func67, Tryz.ntmps67
  go_wp2
  go_loopg [0, 1, 5] 4 (fun m d q c wr => ∃ j, m = 4 - j ∧ j ≤ 4 ∧ c = .int .i64 (j : Int) ∧ q = .int .u32 ((u / 256 ^ j : Nat) : Int) ∧ wr.ownsRow 0 5 1 d (n + j) (xs ++ (leB j u).map bv) ∧ w.grownBy wr v.ownBlock ∧ (d.ownBlock = v.ownBlock ∨ ∃ b, d.ownBlock = some b ∧ w.heap.size ≤ b))
  case atStart => exact ⟨0, rfl, by omega, rfl, by simp, by simpa [leB] using hown, World.grownBy.refl _ _, .inl rfl⟩
  case round =>
    obtain ⟨j, hm, hj, rfl, rfl, ho, hg, hb⟩ := hrel
    have hle : u / 256 ^ j ≤ u := Nat.div_le_self _ _
    have hnx : u / 256 ^ (j + 1) = u / 256 ^ j / 256 := by rw [Nat.pow_succ, ← Nat.div_div_eq_div_mul]
    have hB : leB (j + 1) u = leB j u ++ [UInt8.ofNat (u / 256 ^ j)] := by simp [leB, List.range_succ]
    generalize u / 256 ^ j = d at *
    have HM := Lib.hid hm; have HO := Lib.hid ho; have HG := Lib.hid hg; have HB := Lib.hid hb; have HNX := Lib.hid hnx; have HLB := Lib.hid hB; clear hm ho hg hb hnx hB
    by_cases hlt : j < 4
    · go_wp2_with (at_builtin; refine wpList_app _ rfl (.tmp 7) (.tmp 10) 28 28 rfl 5 i0 (.int .u8 0) 1 1 Tryz.underlying28 hi hz0 hz1 hz2 rfl _ _ _ rfl (HO.out.alloc _) (.slice (some ⟨wr.heap.size, 0, none⟩) 1 1) 1 [.int .u8 ((d : Int) % 256)] rfl (src_one Tryz.underlying28 wr _ _ rfl) ?b1 ?b2 ?next)
      case b1 => unfold maxLen; omega
      case b2 => omega
      case next =>
        intro v' w' hown' hgrow' hb' _
        have ho2 : w'.ownsRow 0 5 1 v' (n + (j + 1)) (xs ++ (leB (j + 1) u).map bv) := by
          have e : Value.int .u8 ((d : Int) % 256) = bv (UInt8.ofNat d) := by simp [bv]
          rw [HLB.out, List.map_append, ← Nat.add_assoc]
          rw [e] at hown'
          simpa using hown'
        have hg2 := grown_trans (grown_trans HG.out (World.grownBy_alloc _ _ none) (by simp)) hgrow' (fun i hi e => by
              rcases HB.out with hb | ⟨b, hb, hlt⟩
              · rw [← hb]; exact e
              · rw [hb] at e; cases e; omega)
        have hb2 : v'.ownBlock = v.ownBlock ∨ ∃ b, v'.ownBlock = some b ∧ w.heap.size ≤ b := by
          have hsz := HG.out.size
          rcases hb' with h' | h'
          · rw [h']; exact HB.out
          · exact .inr ⟨_, h', by omega⟩
        have HO2 := Lib.hid ho2; have HG2 := Lib.hid hg2; have HB2 := Lib.hid hb2; clear ho2 hg2 hb2 hown' hgrow' hb'
        go_wp2
        go_roundg (4 - (j + 1))
        case measure => have := HM.out; omega
        case rel => exact ⟨j + 1, rfl, by omega, by go_num, by rw [HNX.out]; simp, HO2.out, HG2.out, HB2.out⟩
    · obtain rfl : j = 4 := by omega
      go_wp2
      go_ret
      exact ⟨_, rfl, HO.out, HG.out, HB.out⟩

end Go.Proofs.YtjnpmbdehalmpaaGreat

/-
  CONTRACTS of package crc: Seal, Open.
-/
namespace Go.Proofs.YtjnpmbdehalmpaaGreat
open Go.RowKit Go.Mk

theorem Lies.lt' {w : World} {B : Nat} {ao : Option Addr} {vs : List Value} (h : Lies w B ao vs) : Lies w w.heap.size ao vs := by
  intro hn
  obtain ⟨b, off, e, _, hc⟩ := h hn
  refine ⟨b, off, e, ?_, hc⟩
  have h0 : 0 < vs.length := List.length_pos_iff.2 hn
  exact World.block_lt_of_cell? _ _ (hc 0 vs[0] (List.getElem?_eq_getElem h0))

/-- The new row of one part. -/
theorem lies_part (w : World) (v : Value) (t : TypeId) : Lies (w.alloc (.cells #[v] t)) (w.heap.size + 1) (some ⟨w.heap.size, 0, none⟩) [v] :=
  fun _ => ⟨w.heap.size, 0, rfl, by omega, fun j u hu => by have := cell_one_new w v t j u hu; rwa [Addr.add_lit] at this⟩

theorem csum_one (ao : Option Addr) (cap : Nat) (l : List UInt8) (w : World) (t : TypeId) (hL : Lies w w.heap.size ao (l.map bv)) (hl : l.length ≤ 1099511627776) :
    Calls Tryz.prog 68 #[.slice (some ⟨w.heap.size, 0, none⟩) 1 1] (w.alloc (.cells #[.slice ao l.length cap] t)) fun e w' => e = .returned (.int .u32 (sumN l)) ∧ w.alloc (.cells #[.slice ao l.length cap] t) = w' := by
  have h := csum_any (some ⟨w.heap.size, 0, none⟩) 1 [(ao, cap, l)] (w.heap.size + 1) (w.alloc (.cells #[.slice ao l.length cap] t)) (lies_part w _ t)
    (fun p hp => by
      simp at hp; subst hp
      exact (hL.kept (S := fun _ => False) ((Kept.refl _ w).alloc _) (fun _ _ _ h => h)).mono (by omega)) (by simp) (fun p hp => by simp at hp; subst hp; exact hl)
  simpa [allB] using h

set_option maxHeartbeats 400000 in
theorem cseal_any (ao : Option Addr) (cap : Nat) (l : List UInt8) (B : Nat) (w : World) (hL : Lies w B ao (l.map bv)) (hl : l.length ≤ 1073741824) :
    Calls Tryz.prog 27 #[.slice ao l.length cap] w fun e w' => ∃ ao' cap', e = .returned (.slice ao' (l.length + 4) cap') ∧ w'.ownsRow w.heap.size 5 1 (.slice ao' (l.length + 4) cap') (l.length + 4) ((sealL l).map bv) ∧ Below w.heap.size w w' := by
  obtain ⟨i0, hi, hz0, hz1, hz2⟩ := info_parts Tryz.infoByte
  have HL := Lib.hid (Lies.lt' hL); clear hL
  go_enter Tryz.func27, Tryz.ntmps27
  go_wp2_with (at_make; refine wpList_make_own _ rfl (.const (.int .i64 0)) (.tmp 6) 28 rfl 0 5 i0 (.int .u8 0) 1 Tryz.underlying28 hi hz0 hz1 _ _ _ (l.length + 4) rfl rfl ?c ?b1 ?b2 ?b3 ?next)
  case c => omega
  case b1 => rw [hz2]; omega
  case b2 => unfold maxLen; omega
  case b3 => omega
  case next =>
    intro w1 ho1 hg1
    have b1 : Below w.heap.size w w1 := (Below.refl _ _).grown hg1 (by simp) (fun k h => by cases h)
    have hz := b1.size
    have HO1 := Lib.hid ho1; have B1 := Lib.hid b1; have HG1 := Lib.hid hg1; clear ho1 b1 hg1
    go_wp2_with (at_builtin; refine wpList_app _ rfl (.tmp 8) (.tmp 9) 28 28 rfl 5 i0 (.int .u8 0) 1 1 Tryz.underlying28 hi hz0 hz1 hz2 rfl (.slice (some ⟨w.heap.size, 0, none⟩) 0 (l.length + 4)) 0 [] rfl HO1.out (.slice ao l.length cap) l.length (l.map bv) rfl ?src ?b1 ?b2 ?next)
    case src => exact src_lies Tryz.underlying28 (HL.out.below B1.out) cap (bv_one l) l.length (by simp)
    case b1 => unfold maxLen; omega
    case b2 => omega
    case next =>
      intro v2 w2 ho2 hg2 hr2 _
      try simp only [Nat.zero_add, List.nil_append] at ho2
      have b2 : Below w.heap.size w w2 := B1.out.grown hg2 (by omega) (fun k h => by cases h; exact Nat.le_refl _)
      have hz2' := b2.size
      have hrow : ∀ k, v2.ownBlock = some k → w.heap.size ≤ k := by
        intro k hk
        rcases hr2 with h | h
        · rw [h] at hk; cases hk; exact Nat.le_refl _
        · rw [h] at hk; cases hk; exact hz
      have hc := csum_one ao cap l w2 28 (Lies.lt' (HL.out.below b2)) (by omega)
      have HC := Lib.hid hc; have HO2 := Lib.hid ho2; have B2 := Lib.hid b2; have HR := Lib.hid hrow; clear hc ho2 b2 hrow hr2 hg2
      go_wp2_with fail
      refine HC.out.mono ?_
      rintro e w3 ⟨rfl, rfl⟩
      go_wp2_with fail
      refine (cappend_any v2 l.length (l.map bv) (sumN l) _ (HO2.out.alloc _) (by omega)).mono ?_
      rintro e w4 ⟨v4, rfl, ho4, hg4, hr4⟩
      obtain ⟨ao4, cap4, rfl⟩ := owns_slice ho4
      have ho5 : w4.ownsRow w.heap.size 5 1 (.slice ao4 (l.length + 4) cap4) (l.length + 4) ((sealL l).map bv) := by
        rw [leB_four] at ho4
        rw [sealL, List.map_append]
        refine owns_base ho4 fun k hk => ?_
        rcases hr4 with h | ⟨b, h, hb⟩
        · rw [h] at hk; exact HR.out k hk
        · rw [h] at hk; cases hk; simp at hb; omega
      have b5 : Below w.heap.size w w4 := (B2.out.alloc hz2' _).grown hg4 (by simp; omega) (fun k h => HR.out k h)
      have HO5 := Lib.hid ho5; have B5 := Lib.hid b5; clear ho5 b5 ho4 hg4 hr4
      go_wp2
      go_ret
      exact ⟨ao4, cap4, rfl, HO5.out, B5.out⟩

/-- What Open answers: its bytes, and its error. -/
def openB (l : List UInt8) : List UInt8 × Int := if l.length < 4 then ([], 10) else if leN (l.drop (l.length - 4)) = sumN (l.take (l.length - 4)) then (l.take (l.length - 4), 0) else ([], 12)

set_option maxHeartbeats 400000 in
theorem copen_any (ao : Option Addr) (cap : Nat) (l : List UInt8) (B : Nat) (w : World) (hL : Lies w B ao (l.map bv)) (hl : l.length ≤ 1073741824) (hc : l.length ≤ cap) :
    Calls Tryz.prog 38 #[.slice ao l.length cap] w fun e w' => ∃ ao' cap', e = .returned (.tuple #[.slice ao' (openB l).1.length cap', .int .i64 (openB l).2]) ∧ w'.ownsRow w.heap.size 5 1 (.slice ao' (openB l).1.length cap') (openB l).1.length ((openB l).1.map bv) ∧ Below w.heap.size w w' := by
  have HL := Lib.hid (Lies.lt' hL); clear hL
  by_cases h4 : l.length < 4
  · have e : openB l = ([], 10) := by rw [openB, if_pos h4]
    rw [e]
    clear e
    go_enter Tryz.func38, Tryz.ntmps38
    go_wp2
    go_ret2
    exact ⟨none, 0, rfl, World.ownsRow_nil _ _ _ _, Below.refl _ _⟩
  · have e : openB l = if leN (l.drop (l.length - 4)) = sumN (l.take (l.length - 4)) then (l.take (l.length - 4), 0) else ([], 12) := by rw [openB, if_neg h4]
    obtain ⟨k, hk⟩ : ∃ k, l.length = k + 4 := ⟨l.length - 4, by omega⟩
    rw [show l.length - 4 = k by omega] at e
    have E := Lib.hid e; clear e
    rw [hk] at hc ⊢
    go_enter Tryz.func38, Tryz.ntmps38
    go_wp2_with fail
    have hc1 : (k : Int) + 4 ≤ (cap : Int) := by omega
    have hc2 : (k : Int) ≤ (cap : Int) := by omega
    have hne : ¬ cap = k := by omega
    have hld := HL.out.drop k
    have hlt := HL.out.take k
    rw [← List.map_drop] at hld
    rw [← List.map_take] at hlt
    have HLD := Lib.hid hld; have HLT := Lib.hid hlt; clear hld hlt
    have hdl : (l.drop k).length = 4 := by rw [List.length_drop]; omega
    have HDL := Lib.hid hdl; clear hdl
    have hd1 : Lies w.drew w.heap.size (ao.map (·.add k)) ((l.drop k).map bv) := HLD.out.kept (S := fun _ => False) (Kept.drew (Kept.refl _ w)) (fun _ _ _ h => h)
    have hd2 : ∀ o, Lies (w.alloc o).drew w.heap.size (ao.map (·.add k)) ((l.drop k).map bv) := fun o => HLD.out.kept (S := fun _ => False) (Kept.drew (Kept.alloc (Kept.refl _ w) o)) (fun _ _ _ h => h)
    have HD1 := Lib.hid hd1; have HD2 := Lib.hid hd2; clear hd1 hd2
    have htl : (l.take k).length = k := by rw [List.length_take]; omega
    have hsu := csum_one ao cap (l.take k) w.drew 28 (by exact HLT.out) (by rw [htl]; omega)
    rw [htl] at hsu
    have HTL := Lib.hid htl; have HSU := Lib.hid hsu; clear hsu htl
    go_region_with (first
      | (go_at_call 73; refine (clittle_any (ao.map (·.add k)) (cap - k) (l.drop k) w.heap.size _ ?_ HDL.out).mono ?_; (first | exact HD1.out | exact HD2.out _); rintro e w1 ⟨rfl, rfl⟩)
      | (go_at_call 68; refine HSU.out.mono ?_; rintro e w1 ⟨rfl, rfl⟩))
    all_goals
      have hz : w.heap.size ≤ (w.alloc (.cells #[.slice ao k cap] 28)).drew.heap.size := by simp
      by_cases heq : leN (l.drop k) = sumN (l.take k)
      · have e : openB l = (l.take k, 0) := by rw [E.out, if_pos heq]
        have ht : ((leN (l.drop k) : Int) != (sumN (l.take k) : Int)) = false := by simp [heq]
        have hcl := clone_any ao cap (l.take k) w.heap.size (w.alloc (.cells #[.slice ao k cap] 28)).drew (HLT.out.kept (S := fun _ => False) (Kept.drew (Kept.alloc (Kept.refl _ w) _)) (fun _ _ _ h => h)) (by rw [HTL.out]; omega)
        rw [HTL.out] at hcl
        have EE := Lib.hid e; have HCL := Lib.hid hcl; clear e heq hcl
        go_wp2_with fail
        refine HCL.out.mono ?_
        rintro e w1 ⟨ao1, cap1, rfl, ho1, b1⟩
        have HO1 := Lib.hid (owns_base (base' := w.heap.size) ho1 (fun q hq => by have := (owns_lt ho1 q hq).1; simp at this; omega))
        have B1 := Lib.hid (((Below.refl w.heap.size w).alloc (Nat.le_refl _) (.cells #[.slice ao k cap] 28)).trans ((Mk.Below.of_drew b1).mono (by simp)))
        clear ho1 b1
        go_wp2
        go_ret2
        rw [EE.out]
        simp only [HTL.out]
        exact ⟨ao1, cap1, rfl, HO1.out, B1.out⟩
      · have e : openB l = ([], 12) := by rw [E.out, if_neg heq]
        have ht : ((leN (l.drop k) : Int) != (sumN (l.take k) : Int)) = true := by simp; omega
        have EE := Lib.hid e; clear e heq
        go_wp2
        go_ret2
        rw [EE.out]
        exact ⟨none, 0, rfl, World.ownsRow_nil _ _ _ _, (Kept.drew (Kept.alloc (Kept.refl (fun _ => False) w) _)).below (Nat.le_refl _) (fun _ h => h.elim)⟩

end Go.Proofs.YtjnpmbdehalmpaaGreat
