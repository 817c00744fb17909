/-
  A JOURNAL OVER LISTS: the calls that Format, Put and Recover make on a disk, and what a disk with so much power answers. Over no program.
-/
import Derived.Test.YtgefbolnfenfcaaGreatDd
import Derived.Test.YtgefbolnfenfcaaGreatRt
import Derived.Test.YtgefbolnfenfcaaGreatCs
namespace Go.Proofs.YtgefbolnfenfcaaGreat
open Go.RowKit Go.Mk

/-- A disk: what is sure, what waits, what the power allows. -/
structure DS where
  base : List UInt8
  ws : List Wt
  calls : Int

/-- A call on it. -/
inductive Jop where
  | wr (x : Wt)
  | sync

def DS.app (s : DS) : Jop → DS
  | .wr x => ⟨s.base, s.ws ++ [x], less s.calls⟩
  | .sync => ⟨image s.base s.ws, [], less s.calls⟩

/-- Calls up to the first error. -/
def DS.run : List Jop → DS → DS × Int
  | [], s => (s, 0)
  | o :: ops, s => if s.calls = 0 then (s, 20) else DS.run ops (s.app o)

theorem DS.run_append (b : List Jop) : ∀ (a : List Jop) (s : DS), DS.run (a ++ b) s = if (DS.run a s).2 = 0 then DS.run b (DS.run a s).1 else DS.run a s
  | [], s => by simp [DS.run]
  | o :: a, s => by
    simp only [List.cons_append, DS.run]
    by_cases h : s.calls = 0
    · simp [h]
    · simp only [if_neg h]
      exact DS.run_append b a _

theorem DS.run_err (a : List Jop) (s : DS) : (DS.run a s).2 = 0 ∨ (DS.run a s).2 = 20 := by
  induction a generalizing s with
  | nil => exact .inl rfl
  | cons o a ih =>
    simp only [DS.run]
    split
    · exact .inr rfl
    · exact ih _

/-- How many writes wait at most. -/
theorem DS.run_len (a : List Jop) (s : DS) : (DS.run a s).1.ws.length ≤ s.ws.length + a.length := by
  induction a generalizing s with
  | nil => simp [DS.run]
  | cons o a ih =>
    simp only [DS.run]
    split
    · simp
    · have := ih (s.app o)
      cases o <;> simp [DS.app] at this ⊢ <;> omega

/-- Whole sectors from one on. -/
def secs (k : Nat) (l : List UInt8) : List Jop := (List.range (l.length / 64)).map fun i => .wr ⟨k + i, sec l i⟩
/-- And Sync. -/
def blk (k : Nat) (l : List UInt8) : List Jop := secs k l ++ [.sync]

theorem secs_length (k : Nat) (l : List UInt8) : (secs k l).length = l.length / 64 := by simp [secs]
theorem blk_length (k : Nat) (l : List UInt8) : (blk k l).length = l.length / 64 + 1 := by simp [blk, secs_length]

theorem secs_drop (k : Nat) (l : List UInt8) (i : Nat) (h : i < l.length / 64) : (secs k l).drop i = .wr ⟨k + i, sec l i⟩ :: (secs k l).drop (i + 1) := by
  rw [List.drop_eq_getElem_cons (by rw [secs_length]; exact h)]
  simp [secs]

/-- How many sectors an area has. -/
def areaN (n : Nat) : Nat := (n - 2) / 2

/-- A text, as an area of so many sectors has it. -/
def formL (a : Nat) (t : List UInt8) : List UInt8 := bigB 4 t.length ++ t ++ List.replicate (64 * a - 4 - t.length) 0
theorem formL_length (a : Nat) (t : List UInt8) (h : 4 + t.length ≤ 64 * a) : (formL a t).length = 64 * a := by
  simp [formL, bigB_length]; omega

def preL (m u : Nat) : List UInt8 := bigB 4 1297043028 ++ bigB 4 m ++ le4 u ++ List.replicate 48 0
theorem preL_length (m u : Nat) : (preL m u).length = 60 := by simp [preL, bigB_length, le4]
/-- A header. -/
def headL (m u : Nat) : List UInt8 := sealL (preL m u)
theorem headL_length (m u : Nat) : (headL m u).length = 64 := by simp [headL, sealL, preL_length, le4]

def formatOps (n : Nat) (t : List UInt8) : List Jop := blk (1 + areaN n) (formL (areaN n) t) ++ blk 0 (headL 0 0)
def homeOps (n : Nat) (f : List UInt8) : List Jop := blk (1 + areaN n) f ++ blk 0 (headL 0 (sumN f))
def putOps (n : Nat) (t : List UInt8) : List Jop :=
  blk 1 (formL (areaN n) t) ++ (blk 0 (headL 1 (sumN (formL (areaN n) t))) ++ homeOps n (formL (areaN n) t))

/-- The journal's bytes. -/
def jrL (n : Nat) (im : List UInt8) : List UInt8 := (im.drop 64).take (64 * areaN n)
/-- The home area's. -/
def hmL (n : Nat) (im : List UInt8) : List UInt8 := (im.drop (64 + 64 * areaN n)).take (64 * areaN n)
def hdL (im : List UInt8) : List UInt8 := im.take 64
/-- The checksum that a header has. -/
def hsum (h : List UInt8) : Nat := leN ((h.drop 8).take 4)

def recOps (n : Nat) (im : List UInt8) : List Jop :=
  if hdL im = headL 0 (hsum (hdL im)) then [] else if hdL im = headL 1 (sumN (jrL n im)) then homeOps n (jrL n im) else blk 0 (headL 0 0)

def jfits (n : Nat) (t : List UInt8) : Int := if areaN n = 0 then 2 else if 64 * areaN n < 12 + t.length then 21 else 0

def jformat (n : Nat) (t : List UInt8) (s : DS) : DS × Int := if jfits n t ≠ 0 then (s, jfits n t) else s.run (formatOps n t)
def jput (n : Nat) (t : List UInt8) (s : DS) : DS × Int := if jfits n t ≠ 0 then (s, jfits n t) else s.run (putOps n t)
def jrec (n : Nat) (s : DS) : DS × Int := if areaN n = 0 then (s, 2) else s.run (recOps n (image s.base s.ws))
def jget (n : Nat) (im : List UInt8) : List UInt8 × Int :=
  if areaN n = 0 then ([], 2) else if 64 * areaN n < 12 + natB ((hmL n im).take 4) then ([], 11) else (((hmL n im).drop 4).take (natB ((hmL n im).take 4)), 0)

theorem jfits_zero {n : Nat} {t : List UInt8} : jfits n t = 0 ↔ areaN n ≠ 0 ∧ 12 + t.length ≤ 64 * areaN n := by
  unfold jfits
  split
  · simp; omega
  · split <;> simp <;> omega

theorem areaN_le {n : Nat} (h : areaN n ≠ 0) : 2 + 2 * areaN n ≤ n := by unfold areaN at *; omega

theorem hmL_length {n : Nat} {im : List UInt8} (h : im.length = 64 * n) : (hmL n im).length = 64 * areaN n := by
  unfold hmL; rw [List.length_take, List.length_drop]
  by_cases h0 : areaN n = 0
  · omega
  · have := areaN_le h0; omega
theorem jrL_length {n : Nat} {im : List UInt8} (h : im.length = 64 * n) : (jrL n im).length = 64 * areaN n := by
  unfold jrL; rw [List.length_take, List.length_drop]
  by_cases h0 : areaN n = 0
  · omega
  · have := areaN_le h0; omega

/-- What Room says. -/
def roomI (k : Int) : Int := if k < 1 ∨ 65536 < k then -1 else max ((k - 2).tdiv 2 * 64 - 12) (-1)
theorem area_tdiv (n : Nat) (h : 1 ≤ n) : ((n : Int) - 2).tdiv 2 = (areaN n : Int) := by
  unfold areaN
  by_cases h2 : 2 ≤ n
  · rw [show (n : Int) - 2 = ((n - 2 : Nat) : Int) by omega, show (2 : Int) = ((2 : Nat) : Int) from rfl, ← Int.ofNat_tdiv]
  · obtain rfl : n = 1 := by omega
    rfl
theorem roomI_nat (n : Nat) (h1 : 1 ≤ n) (h2 : n ≤ 65536) : roomI n = if areaN n = 0 then -1 else 64 * (areaN n : Int) - 12 := by
  unfold roomI
  rw [if_neg (by omega), area_tdiv n h1]
  split <;> omega

end Go.Proofs.YtgefbolnfenfcaaGreat
