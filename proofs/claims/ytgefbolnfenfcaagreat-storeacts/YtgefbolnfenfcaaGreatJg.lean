/-
  CONTRACTS of package journal: sumIn, stored, area; bytes.Equal.
-/
import Derived.Test.YtgefbolnfenfcaaGreatJh
import Derived.Test.YtgefbolnfenfcaaGreatBy
namespace Go.Proofs.YtgefbolnfenfcaaGreat
open Go.RowKit Go.Mk

set_option maxHeartbeats 400000 in
theorem jsumin_any (ao : Option Addr) (cap len : Nat) (l : List UInt8) (B : Nat) (w : World) (hL : Lies w B ao (l.map bv)) (hl : l.length = 64) (hlen : len = 64) :
    Calls Tryz.prog 78 #[.slice ao len cap] w fun e w' => e = .returned (.int .u32 (hsum l)) ∧ w = w' := by
  subst hlen
  have hne : l.map bv ≠ [] := fun e => by have := congrArg List.length e; simp [hl] at this
  obtain ⟨b, off, rfl, _, hc⟩ := hL hne
  have h4 : ((l.drop 8).take 4).length = 4 := by simp [hl]
  have hcc : ∀ j (x : UInt8), ((l.drop 8).take 4)[j]? = some x → w.cell? ⟨b, off + (8 + j), none⟩ = some (.int .u8 (x.toNat : Int)) := fun j x h => hc (8 + j) _ (by
    rw [List.getElem?_take] at h
    split at h
    · rw [List.getElem?_drop] at h
      rw [List.getElem?_map, h]; rfl
    · cases h)
  unfold hsum
  generalize (l.drop 8).take 4 = m at h4 hcc
  clear hc hne hL hl
  go_enter Tryz.func78, Tryz.ntmps78
  go_wp2
  go_loopg [3, 5] 4 (fun q s c wr => ∃ j : Nat, q = 4 - j ∧ j ≤ 4 ∧ c = .int .i64 (j : Int) ∧ s = .int .u32 ((leN (m.take j) : Nat) : Int) ∧ wr = w)
  case atStart => exact ⟨0, rfl, by omega, rfl, rfl, rfl⟩
  case round =>
    obtain ⟨j, hq, hj, rfl, rfl, rfl⟩ := hrel
    have HQ := Lib.hid hq; clear hq
    by_cases hlt : j < 4
    · have hcell := hcc j _ (List.getElem?_eq_getElem (by omega))
      have hor := little_or m j (by omega) hlt
      have hx := m[j].toNat_lt
      have hmod : (m[j].toNat : Int) % 4294967296 = (m[j].toNat : Int) := by omega
      have HOR := Lib.hid hor; have HMOD := Lib.hid hmod; clear hor hmod
      go_wp2
      first | rw [HMOD.out, HOR.out] | rw [HOR.out]
      go_roundg (4 - (j + 1))
      case measure => have := HQ.out; omega
      case rel => exact ⟨j + 1, rfl, by omega, by go_num, rfl, rfl⟩
    · obtain rfl : j = 4 := by omega
      have e : m.take 4 = m := List.take_of_length_le (by omega)
      rw [e]
      go_wp2
      go_ret
      exact ⟨rfl, rfl⟩

set_option maxRecDepth 100000 in
theorem bequal_any (ao bo : Option Addr) (ac bc n k : Nat) (l m : List UInt8) (A B : Nat) (w : World) (hL : Lies w A ao (l.map bv)) (hM : Lies w B bo (m.map bv)) (hn : n = l.length) (hk : k = m.length) :
    Calls Tryz.prog 77 #[.slice ao n ac, .slice bo k bc] w fun e w' => e = .returned (.bool (decide (l = m))) ∧ w = w' := by
  have h1 := run_string_of (P := Tryz.prog) w 34 9 5 Tryz.underlying34 Tryz.underlying5 Tryz.underlying9 ac n hn hL
  have h2 := run_string_of (P := Tryz.prog) w 34 9 5 Tryz.underlying34 Tryz.underlying5 Tryz.underlying9 bc k hk hM
  rw [← bs_eq]
  clear hn hk hL hM
  go_enter Tryz.func77, Tryz.ntmps77
  go_wp2
  go_ret
  exact ⟨rfl, rfl⟩

/-- A slice of the call's own that is not empty. -/
theorem owns_some {w : World} {base : Nat} {e : TypeId} {ao : Option Addr} {n cap : Nat} {xs : List Value} (h : w.ownsRow base e 1 (.slice ao n cap) n xs) (hn : 0 < n) :
    ∃ g, ao = some ⟨g, 0, none⟩ ∧ base ≤ g ∧ g < w.heap.size ∧ n ≤ cap ∧ cap ≤ maxLen := by
  rcases h.2 with ⟨_, rfl⟩ | ⟨g, c, cur, hv, hg, hh, h1, h2, _⟩
  · omega
  · cases hv
    exact ⟨g, rfl, hg, (Array.getElem?_eq_some_iff.1 hh).1, h1, h2⟩

section
variable {w : World} {D : Nat → Prop} {b n : Nat} {base : List UInt8} {ws : List Wt} {calls : Int}

set_option maxHeartbeats 400000 in
theorem jarea_any (h : Dk w D b n base ws calls) (k : Nat) (hk : k + areaN n ≤ n) (h0 : areaN n ≠ 0) :
    Calls Tryz.prog 79 #[.pointer (some ⟨b, 0, none⟩), .int .i64 k] w fun e w' => ∃ g off cap', e = .returned (.slice (some ⟨g, off, none⟩) (64 * areaN n) cap') ∧ 64 * areaN n ≤ cap' ∧ cap' ≤ maxLen ∧
      Lies w' w'.heap.size (some ⟨g, off, none⟩) ((((image base ws).drop (64 * k)).take (64 * areaN n)).map bv) ∧ w.heap.size ≤ g ∧ Below w.heap.size w w' := by
  obtain ⟨h1, h2⟩ := h.n1
  have h3 : areaN n ≤ 32767 := by unfold areaN; omega
  have hil := h.ilen
  have HI := Lib.hid (dimage_any h)
  have HD := Lib.hid h; clear h
  go_enter Tryz.func79, Tryz.ntmps79
  go_wp2_with fail
  refine HI.out.mono ?_
  rintro e w1 ⟨ao, cap, rfl, ho, hb⟩
  have hd1 : Dk w1 D b n base ws calls := HD.out.kept (Kept.of_below hb) (fun k hk h => by have := HD.out.lt k hk; omega)
  have hl1 := owns_lies ho
  obtain ⟨g, rfl, hg1, hg2, hcap, hmax⟩ := owns_some ho (by omega)
  have hl2 : Lies w1 w1.heap.size (some ⟨g, k * 64, none⟩) ((((image base ws).drop (64 * k)).take (64 * areaN n)).map bv) := by
    have := (hl1.drop (64 * k)).take (64 * areaN n)
    rw [← List.map_drop, ← List.map_take] at this
    simpa [Addr.add_lit, Nat.mul_comm] using this
  have hne : ¬ cap = k * 64 := by omega
  have HS := Lib.hid (dsize_any hd1); have HA := Lib.hid (jareas_any n w1 h1 h2); have HL2 := Lib.hid hl2; have HB := Lib.hid hb; have HMAX := Lib.hid hmax
  clear hd1 hl1 ho hb HI hl2 hmax
  go_wp2_with fail
  refine HS.out.mono ?_
  rintro e w2 ⟨rfl, rfl⟩
  go_wp2_with fail
  refine HA.out.mono ?_
  rintro e w2 ⟨rfl, rfl⟩
  have hsub : (k + areaN n) * 64 - k * 64 = 64 * areaN n := by omega
  have HSUB := Lib.hid hsub; clear hsub
  go_wp2
  go_ret
  rw [HSUB.out]
  refine ⟨g, k * 64, cap - k * 64, rfl, by omega, by have := HMAX.out; omega, HL2.out, hg1, HB.out⟩

end

end Go.Proofs.YtgefbolnfenfcaaGreat
