/-
  Lemmas towards the claim of this folder: contracts of the functions that the law reaches; joined texts.
-/
import Derived.Test.YtlnincdmdegaoaaGreatGNb
import Derived.Test.YtlnincdmdegaoaaGreatGNc
import Derived.Test.YtlnincdmdegaoaaGreatGNm
/-
  CONTRACTS of package name: Kind, Args, Parts.
-/
namespace Go.Proofs.YtlnincdmdegaoaaGreat
open Go.RowKit Go.Mk

theorem kind_un {l : List UInt8} (h : isUn l = true) : kindL l = 1 := by simp [kindL, h]
theorem kind_bi {l : List UInt8} (h : isUn l = false) (h2 : isBi l = true) : kindL l = 2 := by simp [kindL, h, h2]
theorem kind_kw {l : List UInt8} (h : isUn l = false) (h2 : isBi l = false) (h3 : kwL l ≠ []) : kindL l = 3 := by simp [kindL, h, h2, h3]
theorem kind_no {l : List UInt8} (h : isUn l = false) (h2 : isBi l = false) (h3 : kwL l = []) : kindL l = 0 := by simp [kindL, h, h2, h3]
theorem args_un {l : List UInt8} (h : isUn l = true) : argsL l = 0 := by simp [argsL, h]
theorem args_bi {l : List UInt8} (h : isUn l = false) (h2 : isBi l = true) : argsL l = 1 := by simp [argsL, h, h2]
theorem args_kw {l : List UInt8} (h : isUn l = false) (h2 : isBi l = false) (h3 : kwL l ≠ []) : argsL l = (kwL l).length := by simp [argsL, h, h2, h3]
theorem args_no {l : List UInt8} (h : isUn l = false) (h2 : isBi l = false) (h3 : kwL l = []) : argsL l = -1 := by simp [argsL, h, h2, h3]
theorem parts_un {l : List UInt8} (h : isUn l = true) : partsL l = [l] := by simp [partsL, h]
theorem parts_bi {l : List UInt8} (h : isUn l = false) (h2 : isBi l = true) : partsL l = [l] := by simp [partsL, h, h2]
theorem parts_kw {l : List UInt8} (h : isUn l = false) (h2 : isBi l = false) : partsL l = kwL l := by simp [partsL, h, h2]

/-- The four kinds. -/
theorem kind_cases (l : List UInt8) : (isUn l = true ∧ kindL l = 1 ∧ argsL l = 0 ∧ partsL l = [l]) ∨ (isUn l = false ∧ isBi l = true ∧ kindL l = 2 ∧ argsL l = 1 ∧ partsL l = [l]) ∨
    (isUn l = false ∧ isBi l = false ∧ kwL l ≠ [] ∧ kindL l = 3 ∧ argsL l = (kwL l).length ∧ partsL l = kwL l) ∨ (isUn l = false ∧ isBi l = false ∧ kwL l = [] ∧ kindL l = 0 ∧ argsL l = -1 ∧ partsL l = []) := by
  cases h : isUn l with
  | true => exact .inl ⟨rfl, kind_un h, args_un h, parts_un h⟩
  | false =>
    cases h2 : isBi l with
    | true => exact .inr (.inl ⟨rfl, rfl, kind_bi h h2, args_bi h h2, parts_bi h h2⟩)
    | false =>
      by_cases h3 : kwL l = []
      · exact .inr (.inr (.inr ⟨rfl, rfl, h3, kind_no h h2 h3, args_no h h2 h3, by rw [parts_kw h h2, h3]⟩))
      · exact .inr (.inr (.inl ⟨rfl, rfl, h3, kind_kw h h2 h3, args_kw h h2 h3, parts_kw h h2⟩))

set_option maxHeartbeats 400000 in
theorem nkind_any (l : List UInt8) (w : World) (hl : l.length ≤ 1099511627776) : Calls Tryz.prog 97 #[.string (bs l)] w fun e w' => e = .returned (.int .i64 (kindL l : Int)) ∧ Kept (fun _ => False) w w' := by
  have HU := Lib.hid (fun w => nun_any l w); have HB := Lib.hid (fun w => nbi_any l w); have HK := Lib.hid (fun w => nkw_any l w hl)
  rcases kind_cases l with ⟨h1, hk, _, _⟩ | ⟨h1, h2, hk, _, _⟩ | ⟨h1, h2, h3, hk, _, _⟩ | ⟨h1, h2, h3, hk, _, _⟩
  · rw [hk]; rw [h1] at HU; clear hk h1
    go_enter Tryz.func97, Tryz.ntmps97
    go_wp2_with (go_at_call 109; refine (HU.out _).mono ?_; rintro e w1 ⟨rfl, hk⟩)
    go_ret
    exact ⟨rfl, hk⟩
  · rw [hk]; rw [h1] at HU; rw [h2] at HB; clear hk h1 h2
    go_enter Tryz.func97, Tryz.ntmps97
    go_wp2_with fail
    refine (HU.out _).mono ?_; rintro e w1 ⟨rfl, hk1⟩
    go_wp2_with fail
    refine (HB.out _).mono ?_; rintro e w2 ⟨rfl, hk2⟩
    go_wp2
    go_ret
    exact ⟨rfl, hk1.trans hk2 (fun _ _ h => h)⟩
  · rw [hk]; rw [h1] at HU; rw [h2] at HB
    have hn : 0 < ((kwL l).length : Int) := by
      have : (kwL l).length ≠ 0 := by simpa using h3
      omega
    clear hk h1 h2 h3
    generalize kwL l = ps at *
    go_enter Tryz.func97, Tryz.ntmps97
    go_wp2_with fail
    refine (HU.out _).mono ?_; rintro e w1 ⟨rfl, hk1⟩
    go_wp2_with fail
    refine (HB.out _).mono ?_; rintro e w2 ⟨rfl, hk2⟩
    go_wp2_with fail
    refine (HK.out _).mono ?_; rintro e w3 ⟨ao, cap, rfl, _, hk3⟩
    go_wp2
    go_ret
    exact ⟨rfl, (hk1.trans hk2 (fun _ _ h => h)).trans hk3 (fun _ _ h => h)⟩
  · rw [hk]; rw [h1] at HU; rw [h2] at HB
    rw [h3] at HK
    clear hk h1 h2 h3
    go_enter Tryz.func97, Tryz.ntmps97
    go_wp2_with fail
    refine (HU.out _).mono ?_; rintro e w1 ⟨rfl, hk1⟩
    go_wp2_with fail
    refine (HB.out _).mono ?_; rintro e w2 ⟨rfl, hk2⟩
    go_wp2_with fail
    refine (HK.out _).mono ?_; rintro e w3 ⟨ao, cap, rfl, _, hk3⟩
    go_wp2
    go_ret
    exact ⟨rfl, (hk1.trans hk2 (fun _ _ h => h)).trans hk3 (fun _ _ h => h)⟩

theorem newTexts_one (w w1 : World) (l : List UInt8) (hk : Kept (fun _ => False) w w1) : NewTexts w [l] (.returned (.slice (some ⟨w1.heap.size, 0, none⟩) 1 1)) (w1.alloc (.cells #[.string (bs l)] 9)) :=
  ⟨_, _, rfl, by have := lies_new w1 (strs [l]) 9; rw [World.size_alloc]; exact this, hk.alloc _⟩

end Go.Proofs.YtlnincdmdegaoaaGreat

/-
  CONTRACTS of package def: how a definition lies in memory, isOwnClass, isSelector, slices.Contains on texts, areVars, Right.
-/
namespace Go.Proofs.YtlnincdmdegaoaaGreat
open Go.RowKit Go.Mk

/-- A definition as cells, its list of variables behind ao. -/
def DD.cells (d : DD) (ao : Option Addr) (cap : Nat) : Array Value := #[.int .i64 d.k, .string (bs d.c), .string (bs d.p), .slice ao d.vs.length cap, .string (bs d.s), .string (bs d.t)]

/-- Its cells at a block. -/
structure Bx (w : World) (b : Nat) (ao : Option Addr) (cap : Nat) (d : DD) : Prop where
  c0 : w.cell? ⟨b, 0, none⟩ = some (.int .i64 d.k)
  c1 : w.cell? ⟨b, 1, none⟩ = some (.string (bs d.c))
  c2 : w.cell? ⟨b, 2, none⟩ = some (.string (bs d.p))
  c3 : w.cell? ⟨b, 3, none⟩ = some (.slice ao d.vs.length cap)
  c4 : w.cell? ⟨b, 4, none⟩ = some (.string (bs d.s))
  c5 : w.cell? ⟨b, 5, none⟩ = some (.string (bs d.t))

theorem Bx.kept {S : Nat → Prop} {w w' : World} {b : Nat} {ao : Option Addr} {cap : Nat} {d : DD} (h : Bx w b ao cap d) (hk : Kept S w w') (hb : ¬ S b) : Bx w' b ao cap d := by
  have hlt : b < w.heap.size := World.block_lt_of_cell? _ _ h.c0
  exact ⟨(hk.cell (p := ⟨b, 0, none⟩) hlt hb).trans h.c0, (hk.cell (p := ⟨b, 1, none⟩) hlt hb).trans h.c1, (hk.cell (p := ⟨b, 2, none⟩) hlt hb).trans h.c2, (hk.cell (p := ⟨b, 3, none⟩) hlt hb).trans h.c3, (hk.cell (p := ⟨b, 4, none⟩) hlt hb).trans h.c4, (hk.cell (p := ⟨b, 5, none⟩) hlt hb).trans h.c5⟩

theorem bx_new (w : World) (ao : Option Addr) (cap : Nat) (d : DD) (t : TypeId) : Bx (w.alloc (.cells #[.int .i64 d.k, .string (bs d.c), .string (bs d.p), .slice ao d.vs.length cap, .string (bs d.s), .string (bs d.t)] t)) w.heap.size ao cap d := by
  constructor <;> exact World.cell?_alloc_new w _ t _

set_option maxHeartbeats 400000 in
theorem down_any (l : List UInt8) (w : World) : Calls Tryz.prog 73 #[.string (bs l)] w fun e w' => e = .returned (.bool (ownCl l)) ∧ Kept (fun _ => False) w w' := by
  have h1 := fun w => ncl_any l w
  have h2 := fun w => nalw_any l w
  unfold ownCl
  generalize builtins.contains l = r2 at *
  cases hc : isCl l with
  | false =>
    rw [hc] at h1
    have H1 := Lib.hid h1; clear h1 h2 hc
    go_enter Tryz.func73, Tryz.ntmps73
    go_wp2_with fail
    refine (H1.out _).mono ?_; rintro e w1 ⟨rfl, k1⟩
    go_wp2
    go_ret
    exact ⟨rfl, k1⟩
  | true =>
    rw [hc] at h1
    have H1 := Lib.hid h1; have H2 := Lib.hid h2; clear h1 h2 hc
    go_enter Tryz.func73, Tryz.ntmps73
    go_wp2_with fail
    refine (H1.out _).mono ?_; rintro e w1 ⟨rfl, k1⟩
    go_wp2_with fail
    refine (H2.out _).mono ?_; rintro e w2 ⟨rfl, k2⟩
    go_wp2
    go_ret
    exact ⟨rfl, k1.trans k2 (fun _ _ h => h)⟩

set_option maxHeartbeats 400000 in
theorem dsel_any (l : List UInt8) (w : World) (hl : l.length ≤ 1099511627776) : Calls Tryz.prog 76 #[.string (bs l)] w fun e w' => e = .returned (.bool (isSel l)) ∧ Kept (fun _ => False) w w' := by
  have H1 := Lib.hid (fun w => nkind_any l w hl)
  unfold isSel
  have hb : (((kindL l : Nat) : Int) != 0) = decide (kindL l ≠ 0) := by
    by_cases h : kindL l = 0
    · simp [h]
    · simp [h]
  generalize decide (kindL l ≠ 0) = r at *
  generalize kindL l = n at *
  go_enter Tryz.func76, Tryz.ntmps76
  go_wp2_with fail
  refine (H1.out _).mono ?_; rintro e w1 ⟨rfl, k1⟩
  go_wp2
  all_goals go_ret
  all_goals exact ⟨by simp_all, k1⟩

set_option maxHeartbeats 400000 in
theorem sidx_any (aa : Option Addr) (ca : Nat) (la : List (List UInt8)) (l : List UInt8) (B n : Nat) (hn : n = la.length) (w : World) (hA : Lies w B aa (strs la)) (hl : la.length ≤ 1099511627776) :
    Calls Tryz.prog 110 #[.slice aa n ca, .string (bs l)] w fun e w' => ∃ i : Int, e = .returned (.int .i64 i) ∧ decide (0 ≤ i) = la.contains l ∧ w = w' := by
  subst hn
  have HA := Lib.hid hA; clear hA
  go_enter Tryz.func110, Tryz.ntmps110
  go_wp2
  go_loopg [8] la.length (fun k v wr => ∃ j : Nat, k = la.length - j ∧ v = .int .i64 (j : Int) ∧ j ≤ la.length ∧ (la.take j).contains l = false ∧ w = wr)
  case atStart => exact ⟨0, rfl, rfl, Nat.zero_le _, rfl, rfl⟩
  case round =>
    obtain ⟨j, hk, rfl, hj, hev, rfl⟩ := hrel
    have HK := Lib.hid hk; have HEV := Lib.hid hev; clear hk hev
    by_cases hlt : j < la.length
    · obtain ⟨xb, xo, rfl, hxb, hc⟩ := HA.out (by intro h; simp [strs] at h; rw [h] at hlt; simp at hlt)
      have hx : w.cell? ⟨xb, xo + j, none⟩ = some (.string (bs la[j])) := hc j _ (by simp [strs, hlt])
      clear hc
      have i1 : (j : Int) < (la.length : Int) := by omega
      have b1 := bs_list la[j]
      have b2 := bs_list l
      have htk : (la.take (j + 1)).contains l = (l == la[j]) := by
        have e : la.take (j + 1) = la.take j ++ [la[j]] := by rw [List.take_add_one, List.getElem?_eq_getElem hlt]; rfl
        have h := HEV.out
        rw [e, List.contains_eq_any_beq, List.any_append, ← List.contains_eq_any_beq, h]
        simp
      have hyes : (l == la[j]) = true → la.contains l = true := fun h => by
        rw [List.contains_iff_mem]
        have := List.getElem_mem hlt
        rwa [← eq_of_beq h] at this
      have HTK := Lib.hid htk; have HY := Lib.hid hyes; clear htk hyes
      generalize la[j] = x at *
      cases hxy : l == x with
      | true =>
        have E := Lib.hid (HY.out hxy)
        go_wp2
        go_ret
        exact ⟨_, rfl, by rw [E.out]; simp, rfl⟩
      | false =>
        rw [hxy] at HTK
        go_wp2
        go_roundg (la.length - (j + 1))
        case measure => have := HK.out; omega
        case rel => exact ⟨j + 1, rfl, by go_num, by omega, HTK.out, rfl⟩
    · obtain rfl : j = la.length := by omega
      have E := Lib.hid HEV.out
      rw [List.take_length] at E
      go_wp2
      go_ret
      exact ⟨_, rfl, by rw [E.out]; rfl, rfl⟩

set_option maxHeartbeats 400000 in
theorem scont_any (aa : Option Addr) (ca : Nat) (la : List (List UInt8)) (l : List UInt8) (B n : Nat) (hn : n = la.length) (w : World) (hA : Lies w B aa (strs la)) (hl : la.length ≤ 1099511627776) :
    Calls Tryz.prog 96 #[.slice aa n ca, .string (bs l)] w fun e w' => e = .returned (.bool (la.contains l)) ∧ w = w' := by
  have H := Lib.hid (sidx_any aa ca la l B n hn w hA hl); clear hA hn hl
  generalize la.contains l = r at *
  go_enter Tryz.func96, Tryz.ntmps96
  go_wp2_with fail
  refine H.out.mono ?_; rintro e w1 ⟨i, rfl, hi, rfl⟩
  have HI := Lib.hid hi; clear hi
  go_wp2
  go_ret
  exact ⟨by rw [← HI.out]; rfl, rfl⟩

end Go.Proofs.YtlnincdmdegaoaaGreat
