/-
  Lemmas towards the claim of this folder: contracts of the functions that the law reaches; joined texts.
-/
import Derived.Test.YtofpnlmlenffnaaDoorNb
import Derived.Test.YtofpnlmlenffnaaDoorNd
import Derived.Test.YtofpnlmlenffnaaDoorGRd
import Derived.Test.YtofpnlmlenffnaaDoorGWr
/-
  CONTRACTS of package name: Kind, Args, Parts.
-/
namespace Go.Proofs.YtofpnlmlenffnaaDoor
open Go.RowKit Go.Mk

theorem kind_un {l : List UInt8} (h : isUn l = true) : kindL l = 1 := by simp [kindL, h]
theorem kind_bi {l : List UInt8} (h : isUn l = false) (h2 : isBi l = true) : kindL l = 2 := by simp [kindL, h, h2]
theorem kind_kw {l : List UInt8} (h : isUn l = false) (h2 : isBi l = false) (h3 : kwL l ≠ []) : kindL l = 3 := by simp [kindL, h, h2, h3]
theorem kind_no {l : List UInt8} (h : isUn l = false) (h2 : isBi l = false) (h3 : kwL l = []) : kindL l = 0 := by simp [kindL, h, h2, h3]
theorem args_un {l : List UInt8} (h : isUn l = true) : argsL l = 0 := by simp [argsL, h]
theorem args_bi {l : List UInt8} (h : isUn l = false) (h2 : isBi l = true) : argsL l = 1 := by simp [argsL, h, h2]
theorem args_kw {l : List UInt8} (h : isUn l = false) (h2 : isBi l = false) (h3 : kwL l ≠ []) : argsL l = (kwL l).length := by simp [argsL, h, h2, h3]
theorem args_no {l : List UInt8} (h : isUn l = false) (h2 : isBi l = false) (h3 : kwL l = []) : argsL l = -1 := by simp [argsL, h, h2, h3]
theorem parts_un {l : List UInt8} (h : isUn l = true) : partsL l = [l] := by simp [partsL, h]
theorem parts_bi {l : List UInt8} (h : isUn l = false) (h2 : isBi l = true) : partsL l = [l] := by simp [partsL, h, h2]
theorem parts_kw {l : List UInt8} (h : isUn l = false) (h2 : isBi l = false) : partsL l = kwL l := by simp [partsL, h, h2]

/-- The four kinds. -/
theorem kind_cases (l : List UInt8) : (isUn l = true ∧ kindL l = 1 ∧ argsL l = 0 ∧ partsL l = [l]) ∨ (isUn l = false ∧ isBi l = true ∧ kindL l = 2 ∧ argsL l = 1 ∧ partsL l = [l]) ∨
    (isUn l = false ∧ isBi l = false ∧ kwL l ≠ [] ∧ kindL l = 3 ∧ argsL l = (kwL l).length ∧ partsL l = kwL l) ∨ (isUn l = false ∧ isBi l = false ∧ kwL l = [] ∧ kindL l = 0 ∧ argsL l = -1 ∧ partsL l = []) := by
  cases h : isUn l with
  | true => exact .inl ⟨rfl, kind_un h, args_un h, parts_un h⟩
  | false =>
    cases h2 : isBi l with
    | true => exact .inr (.inl ⟨rfl, rfl, kind_bi h h2, args_bi h h2, parts_bi h h2⟩)
    | false =>
      by_cases h3 : kwL l = []
      · exact .inr (.inr (.inr ⟨rfl, rfl, h3, kind_no h h2 h3, args_no h h2 h3, by rw [parts_kw h h2, h3]⟩))
      · exact .inr (.inr (.inl ⟨rfl, rfl, h3, kind_kw h h2 h3, args_kw h h2 h3, parts_kw h h2⟩))

set_option maxHeartbeats 400000 in
theorem nkind_any (l : List UInt8) (w : World) (hl : l.length ≤ 1099511627776) : Calls Tryd.prog 58 #[.string (bs l)] w fun e w' => e = .returned (.int .i64 (kindL l : Int)) ∧ Kept (fun _ => False) w w' := by
  have HU := Lib.hid (fun w => nun_any l w); have HB := Lib.hid (fun w => nbi_any l w); have HK := Lib.hid (fun w => nkw_any l w hl)
  rcases kind_cases l with ⟨h1, hk, _, _⟩ | ⟨h1, h2, hk, _, _⟩ | ⟨h1, h2, h3, hk, _, _⟩ | ⟨h1, h2, h3, hk, _, _⟩
  · rw [hk]; rw [h1] at HU; clear hk h1
    go_enter Tryd.func58, Tryd.ntmps58
    go_wp2_with (go_at_call 73; refine (HU.out _).mono ?_; rintro e w1 ⟨rfl, hk⟩)
    go_ret
    exact ⟨rfl, hk⟩
  · rw [hk]; rw [h1] at HU; rw [h2] at HB; clear hk h1 h2
    go_enter Tryd.func58, Tryd.ntmps58
    go_wp2_with fail
    refine (HU.out _).mono ?_; rintro e w1 ⟨rfl, hk1⟩
    go_wp2_with fail
    refine (HB.out _).mono ?_; rintro e w2 ⟨rfl, hk2⟩
    go_wp2
    go_ret
    exact ⟨rfl, hk1.trans hk2 (fun _ _ h => h)⟩
  · rw [hk]; rw [h1] at HU; rw [h2] at HB
    have hn : 0 < ((kwL l).length : Int) := by
      have : (kwL l).length ≠ 0 := by simpa using h3
      omega
    clear hk h1 h2 h3
    generalize kwL l = ps at *
    go_enter Tryd.func58, Tryd.ntmps58
    go_wp2_with fail
    refine (HU.out _).mono ?_; rintro e w1 ⟨rfl, hk1⟩
    go_wp2_with fail
    refine (HB.out _).mono ?_; rintro e w2 ⟨rfl, hk2⟩
    go_wp2_with fail
    refine (HK.out _).mono ?_; rintro e w3 ⟨ao, cap, rfl, _, hk3⟩
    go_wp2
    go_ret
    exact ⟨rfl, (hk1.trans hk2 (fun _ _ h => h)).trans hk3 (fun _ _ h => h)⟩
  · rw [hk]; rw [h1] at HU; rw [h2] at HB
    rw [h3] at HK
    clear hk h1 h2 h3
    go_enter Tryd.func58, Tryd.ntmps58
    go_wp2_with fail
    refine (HU.out _).mono ?_; rintro e w1 ⟨rfl, hk1⟩
    go_wp2_with fail
    refine (HB.out _).mono ?_; rintro e w2 ⟨rfl, hk2⟩
    go_wp2_with fail
    refine (HK.out _).mono ?_; rintro e w3 ⟨ao, cap, rfl, _, hk3⟩
    go_wp2
    go_ret
    exact ⟨rfl, (hk1.trans hk2 (fun _ _ h => h)).trans hk3 (fun _ _ h => h)⟩

theorem newTexts_one (w w1 : World) (l : List UInt8) (hk : Kept (fun _ => False) w w1) : NewTexts w [l] (.returned (.slice (some ⟨w1.heap.size, 0, none⟩) 1 1)) (w1.alloc (.cells #[.string (bs l)] 9)) :=
  ⟨_, _, rfl, by have := lies_new w1 (strs [l]) 9; rw [World.size_alloc]; exact this, hk.alloc _⟩

end Go.Proofs.YtofpnlmlenffnaaDoor

/-
  CONTRACTS of package def: how a definition lies in memory, isOwnClass, isSelector, slices.Contains on texts, areVars, Right.
-/
namespace Go.Proofs.YtofpnlmlenffnaaDoor
open Go.RowKit Go.Mk

/-- A definition as cells, its list of variables behind ao. -/
def DD.cells (d : DD) (ao : Option Addr) (cap : Nat) : Array Value := #[.int .i64 d.k, .string (bs d.c), .string (bs d.p), .slice ao d.vs.length cap, .string (bs d.s), .string (bs d.t)]

/-- Its cells at a block. -/
structure Bx (w : World) (b : Nat) (ao : Option Addr) (cap : Nat) (d : DD) : Prop where
  c0 : w.cell? ⟨b, 0, none⟩ = some (.int .i64 d.k)
  c1 : w.cell? ⟨b, 1, none⟩ = some (.string (bs d.c))
  c2 : w.cell? ⟨b, 2, none⟩ = some (.string (bs d.p))
  c3 : w.cell? ⟨b, 3, none⟩ = some (.slice ao d.vs.length cap)
  c4 : w.cell? ⟨b, 4, none⟩ = some (.string (bs d.s))
  c5 : w.cell? ⟨b, 5, none⟩ = some (.string (bs d.t))

theorem Bx.kept {S : Nat → Prop} {w w' : World} {b : Nat} {ao : Option Addr} {cap : Nat} {d : DD} (h : Bx w b ao cap d) (hk : Kept S w w') (hb : ¬ S b) : Bx w' b ao cap d := by
  have hlt : b < w.heap.size := World.block_lt_of_cell? _ _ h.c0
  exact ⟨(hk.cell (p := ⟨b, 0, none⟩) hlt hb).trans h.c0, (hk.cell (p := ⟨b, 1, none⟩) hlt hb).trans h.c1, (hk.cell (p := ⟨b, 2, none⟩) hlt hb).trans h.c2, (hk.cell (p := ⟨b, 3, none⟩) hlt hb).trans h.c3, (hk.cell (p := ⟨b, 4, none⟩) hlt hb).trans h.c4, (hk.cell (p := ⟨b, 5, none⟩) hlt hb).trans h.c5⟩

theorem bx_new (w : World) (ao : Option Addr) (cap : Nat) (d : DD) (t : TypeId) : Bx (w.alloc (.cells #[.int .i64 d.k, .string (bs d.c), .string (bs d.p), .slice ao d.vs.length cap, .string (bs d.s), .string (bs d.t)] t)) w.heap.size ao cap d := by
  constructor <;> exact World.cell?_alloc_new w _ t _

end Go.Proofs.YtofpnlmlenffnaaDoor
