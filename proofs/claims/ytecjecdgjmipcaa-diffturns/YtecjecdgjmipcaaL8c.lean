/-
  A change, as it lies in memory; what becomes of a snapshot by it; two changes of unlike keys.
-/
import Derived.Test.YtecjecdgjmipcaaGL7
import Derived.Test.YtecjecdgjmipcaaSx
namespace Go.Proofs.Ytecjecdgjmipcaa
open Go.RowKit Go.Mk Go.Maps

structure CD where
  dr : Bool
  d : DD
  ao : Option Addr
  cap : Nat
  key : List UInt8

def CD.cells (c : CD) : Array Value := #[.bool c.dr, .int .i64 c.d.k, .string (bs c.d.c), .string (bs c.d.p), .slice c.ao c.d.vs.length c.cap, .string (bs c.d.s), .string (bs c.d.t), .string (bs c.key)]

/-- Its cells at a block. -/
structure Cb (w : World) (b : Nat) (c : CD) : Prop where
  c0 : w.cell? ⟨b, 0, none⟩ = some (.bool c.dr)
  c1 : w.cell? ⟨b, 1, none⟩ = some (.int .i64 c.d.k)
  c2 : w.cell? ⟨b, 2, none⟩ = some (.string (bs c.d.c))
  c3 : w.cell? ⟨b, 3, none⟩ = some (.string (bs c.d.p))
  c4 : w.cell? ⟨b, 4, none⟩ = some (.slice c.ao c.d.vs.length c.cap)
  c5 : w.cell? ⟨b, 5, none⟩ = some (.string (bs c.d.s))
  c6 : w.cell? ⟨b, 6, none⟩ = some (.string (bs c.d.t))
  c7 : w.cell? ⟨b, 7, none⟩ = some (.string (bs c.key))

theorem Cb.kept {S : Nat → Prop} {w w' : World} {b : Nat} {c : CD} (h : Cb w b c) (hk : Kept S w w') (hb : ¬ S b) : Cb w' b c := by
  have hlt : b < w.heap.size := World.block_lt_of_cell? _ _ h.c0
  exact ⟨(hk.cell (p := ⟨b, 0, none⟩) hlt hb).trans h.c0, (hk.cell (p := ⟨b, 1, none⟩) hlt hb).trans h.c1, (hk.cell (p := ⟨b, 2, none⟩) hlt hb).trans h.c2, (hk.cell (p := ⟨b, 3, none⟩) hlt hb).trans h.c3, (hk.cell (p := ⟨b, 4, none⟩) hlt hb).trans h.c4, (hk.cell (p := ⟨b, 5, none⟩) hlt hb).trans h.c5, (hk.cell (p := ⟨b, 6, none⟩) hlt hb).trans h.c6, (hk.cell (p := ⟨b, 7, none⟩) hlt hb).trans h.c7⟩

theorem cb_new (w : World) (c : CD) (t : TypeId) : Cb (w.alloc (.cells #[.bool c.dr, .int .i64 c.d.k, .string (bs c.d.c), .string (bs c.d.p), .slice c.ao c.d.vs.length c.cap, .string (bs c.d.s), .string (bs c.d.t), .string (bs c.key)] t)) w.heap.size c := by
  constructor <;> exact World.cell?_alloc_new w _ t _

def chgL (c : CD) (l : List DD) : List DD := if c.dr = true then dropK keyD c.key l else putK keyD c.d l
def keyC (c : CD) : List UInt8 := if c.dr = true then c.key else keyD c.d

/-- What a change that came in has. -/
structure Cin (w : World) (B : Nat) (c : CD) : Prop where
  lies : Lies w B c.ao (strs c.d.vs)
  cap : c.d.vs.length ≤ c.cap
  key : c.key.length ≤ maxLen

theorem dr_two (c : CD) : c.dr = true ∨ c.dr = false := by cases c.dr <;> simp

theorem keytrue_of {c : CD} (h : (!c.dr) = true) : keyC c = keyD c.d := by simp at h; simp [keyC, h]
theorem keyfalse_of {c : CD} (h : (!c.dr) = false) : keyC c = c.key := by simp at h; simp [keyC, h]

theorem rise_chg {c : CD} {l : List DD} (h : Rise keyD l) : Rise keyD (chgL c l) := by
  unfold chgL
  split
  · exact rise_dropK h
  · exact rise_putK h

theorem mem_chg {c : CD} {l : List DD} (h : Rise keyD l) (x : DD) : x ∈ chgL c l ↔ (c.dr = false ∧ x = c.d) ∨ (x ∈ l ∧ keyD x ≠ keyC c) := by
  unfold chgL keyC
  cases c.dr
  · simp only [Bool.false_eq_true, if_false, true_and]
    exact mem_putK h x
  · simp only [if_true, Bool.true_eq_false, false_and, false_or]
    exact mem_dropK

theorem chg_len {c : CD} {l : List DD} (h : Rise keyD l) : (chgL c l).length ≤ l.length + 1 := by
  unfold chgL
  split
  · exact Nat.le_succ_of_le (List.length_filter_le _ _)
  · exact putK_le h

/-- Of two changes of unlike keys it does not matter which one comes first. -/
theorem chg_comm {a b : CD} {l : List DD} (h : Rise keyD l) (hk : keyC a ≠ keyC b) : chgL b (chgL a l) = chgL a (chgL b l) := by
  refine rise_ext (rise_chg (rise_chg h)) (rise_chg (rise_chg h)) (fun x => ?_)
  rw [mem_chg (rise_chg h), mem_chg h, mem_chg (rise_chg h), mem_chg h]
  have ha : a.dr = false → keyD a.d = keyC a := fun e => by simp [keyC, e]
  have hb : b.dr = false → keyD b.d = keyC b := fun e => by simp [keyC, e]
  constructor
  · rintro (⟨h1, rfl⟩ | ⟨⟨h1, rfl⟩ | ⟨h1, h2⟩, h3⟩)
    · exact .inr ⟨.inl ⟨h1, rfl⟩, by rw [hb h1]; exact fun e => hk e.symm⟩
    · exact .inl ⟨h1, rfl⟩
    · exact .inr ⟨.inr ⟨h1, h3⟩, h2⟩
  · rintro (⟨h1, rfl⟩ | ⟨⟨h1, rfl⟩ | ⟨h1, h2⟩, h3⟩)
    · exact .inr ⟨.inl ⟨h1, rfl⟩, by rw [ha h1]; exact hk⟩
    · exact .inl ⟨h1, rfl⟩
    · exact .inr ⟨.inr ⟨h1, h3⟩, h2⟩

theorem putR_ok {d : DD} {l : List DD} (hr : rightD d = true) (hl : l.length ≤ 400) : putR d l = (0, putK keyD d l) := by
  unfold putR
  have := List.length_filter_le (fun x => !(keyD x == keyD d)) l
  rw [if_neg (by simp [hr]), if_neg (by unfold dropK; omega)]

set_option maxHeartbeats 1000000 in
set_option maxRecDepth 100000 in
theorem chg_any (v : Value) (l : List DD) (c : CD) (B : Nat) (w : World) (hs : Sn w v l) (hA : Lies w B c.ao (strs c.d.vs)) (hc : c.d.vs.length ≤ c.cap) (hL : SmallD c.d) (hk : c.key.length ≤ 3000000) (hl : l.length ≤ 400) (hr : c.dr = false → rightD c.d = true) :
    Calls Try.prog 30 #[v, .agg #[.bool c.dr, .int .i64 c.d.k, .string (bs c.d.c), .string (bs c.d.p), .slice c.ao c.d.vs.length c.cap, .string (bs c.d.s), .string (bs c.d.t), .string (bs c.key)]] w (PtPost w (chgL c l)) := by
  have KA := Lib.hid ((Kept.refl (fun _ => False) w).alloc (.cells #[.bool c.dr, .int .i64 c.d.k, .string (bs c.d.c), .string (bs c.d.p), .slice c.ao c.d.vs.length c.cap, .string (bs c.d.s), .string (bs c.d.t), .string (bs c.key)] 45))
  have CB := Lib.hid (cb_new w c 45)
  have HS := Lib.hid hs; have HK := Lib.hid hk; have HA := Lib.hid hA; have HL := Lib.hid (small_len8 hL); have HC := Lib.hid hc; have HLL := Lib.hid hl
  obtain ⟨dr, d, ao, cap, key⟩ := c
  dsimp only at *
  cases dr with
  | true =>
    have hX : chgL ⟨true, d, ao, cap, key⟩ l = dropsD [key] l := rfl
    rw [hX]
    obtain ⟨c0, c1, c2, c3, c4, c5, c6, c7⟩ := CB.out
    dsimp only at *
    clear hs hA hc hL hk hl hr hX
    generalize hwA : (w.alloc (.cells #[.bool true, .int .i64 d.k, .string (bs d.c), .string (bs d.p), .slice ao d.vs.length cap, .string (bs d.s), .string (bs d.t), .string (bs key)] 45)) = wA at *
    have KB := Lib.hid ((Kept.refl (fun _ => False) wA).alloc (.cells #[.string (bs key)] 9))
    have HLK : Lies (wA.alloc (.cells #[.string (bs key)] 9)) (wA.heap.size + 1) (some ⟨wA.heap.size, 0, none⟩) (strs [key]) := lies_new wA (strs [key]) 9
    have HD := Lib.hid (sdrop_any v l (some ⟨wA.heap.size, 0, none⟩) 1 [key] 1 rfl _ _ ((HS.out.keep KA.out).keep KB.out) HLK (by have := HLL.out; omega) (by simp) (by simpa using HK.out))
    clear HLK
    subst hwA
    rw [World.size_alloc] at HD
    go_enter Try.func30, Try.ntmps30
    go_wp2_with fail
    refine HD.out.mono ?_
    rintro e w1 ⟨s1, rfl, n1, k1⟩
    have N1 := Lib.hid n1; have K1 := Lib.hid ((KA.out.trans KB.out (fun _ _ h => h)).trans k1 (fun _ _ h => h))
    clear n1 k1
    go_wp2
    go_ret
    exact ⟨s1, rfl, N1.out, K1.out⟩
  | false =>
    have hX : chgL ⟨false, d, ao, cap, key⟩ l = putK keyD d l := rfl
    rw [hX]
    have HPP := Lib.hid (fun (wx : World) (h : Kept (fun _ => False) w wx) => sput_any v l d ao cap B wx (HS.out.keep h) (HA.out.kept h (fun _ _ _ h => h)) HC.out HL.out (by have := HLL.out; omega))
    rw [putR_ok (hr rfl) hl] at HPP
    obtain ⟨c0, c1, c2, c3, c4, c5, c6, c7⟩ := CB.out
    dsimp only at *
    clear hs hA hc hL hk hl hr hX
    go_enter Try.func30, Try.ntmps30
    go_wp2_with fail
    refine (HPP.out _ KA.out).mono ?_
    rintro e w1 ⟨v1, rfl, hv1, _, n1, k1⟩
    obtain ⟨s1, rfl⟩ := hv1 rfl
    have N1 := Lib.hid n1; have K1 := Lib.hid (KA.out.trans k1 (fun _ _ h => h))
    clear n1 k1 hv1
    go_wp2
    go_ret
    exact ⟨s1, rfl, N1.out, K1.out⟩

end Go.Proofs.Ytecjecdgjmipcaa
