/-
  A STORE OVER LISTS; how a Store lies in memory; CONTRACTS of sync/atomic's Bool and Int64, and of package store's isOpen, Broken, Saves, Text.
-/
import Derived.Test.YtgefbolnfenfcaaJu
import Derived.Test.YtgefbolnfenfcaaJq
import Derived.Laws.LoneSync
import Derived.Deep.RegionWith
namespace Go.Proofs.Ytgefbolnfenfcaa
open Go.RowKit Go.Mk

/-- A store: its text, whether it is broken, how many texts were saved. -/
structure SS where
  text : List UInt8
  broken : Bool
  saves : Nat

/-- What Open answers. -/
def sopenE (n : Nat) (s : DS) : Int :=
  if (jrec n s).2 ≠ 0 then (jrec n s).2 else if (jget n (image (jrec n s).1.base (jrec n s).1.ws)).2 ≠ 0 then (jget n (image (jrec n s).1.base (jrec n s).1.ws)).2
  else (openB (jget n (image (jrec n s).1.base (jrec n s).1.ws)).1).2
def sopenT (n : Nat) (s : DS) : List UInt8 := (openB (jget n (image (jrec n s).1.base (jrec n s).1.ws)).1).1

/-- What Save answers and leaves. -/
def ssaveE (n : Nat) (t : List UInt8) (x : SS) (s : DS) : Int :=
  if x.broken = true then 80 else if (jput n (sealL t) s).2 = 0 then 0 else if (jput n (sealL t) s).2 = 21 then 21 else 80
def ssaveX (n : Nat) (t : List UInt8) (x : SS) (s : DS) : SS :=
  if x.broken = true then x else if (jput n (sealL t) s).2 = 0 then ⟨t, false, x.saves + 1⟩ else if (jput n (sealL t) s).2 = 21 then x else ⟨x.text, true, x.saves⟩
def ssaveD (n : Nat) (t : List UInt8) (x : SS) (s : DS) : DS := if x.broken = true then s else (jput n (sealL t) s).1

def brI (b : Bool) : Int := if b = true then 1 else 0

/-- The Store at block sb, of the disk at b: its text lies behind ao. -/
structure StAt (w : World) (sb b : Nat) (ao : Option Addr) (cap : Nat) (x : SS) : Prop where
  c0 : w.cell? ⟨sb, 0, none⟩ = some (.pointer (some ⟨b, 0, none⟩))
  c1 : w.cell? ⟨sb, 1, none⟩ = some (.slice ao x.text.length cap)
  c2 : w.cell? ⟨sb, 2, none⟩ = some (.int .u32 (brI x.broken))
  c3 : w.cell? ⟨sb, 3, none⟩ = some (.int .i64 (x.saves : Int))
  f1 : w.frozen? ⟨sb, 1, none⟩ = false
  f2 : w.frozen? ⟨sb, 2, none⟩ = false
  f3 : w.frozen? ⟨sb, 3, none⟩ = false
  lies : Lies w w.heap.size ao (x.text.map bv)
  nsb : x.text ≠ [] → ∀ a, ao = some a → a.block ≠ sb
  tl : x.text.length ≤ 1073741824

/-- The Store at sb; C: the blocks that it owns. -/
structure St (w : World) (C : Nat → Prop) (sb b : Nat) (x : SS) : Prop where
  at_ : ∃ ao cap, StAt w sb b ao cap x ∧ (x.text ≠ [] → ∀ a, ao = some a → C a.block)
  own : C sb
  lt : ∀ k, C k → k < w.heap.size

section
variable {w w' : World} {C : Nat → Prop} {sb b : Nat} {ao : Option Addr} {cap : Nat} {x : SS}

theorem StAt.lt (h : StAt w sb b ao cap x) : sb < w.heap.size := World.block_lt_of_cell? _ _ h.c0

theorem StAt.kept {S : Nat → Prop} (h : StAt w sb b ao cap x) (hk : Kept S w w') (h1 : ¬ S sb) (h2 : x.text ≠ [] → ∀ a, ao = some a → ¬ S a.block) : StAt w' sb b ao cap x :=
  ⟨(hk.cell (p := ⟨sb, 0, none⟩) h.lt h1).trans h.c0, (hk.cell (p := ⟨sb, 1, none⟩) h.lt h1).trans h.c1, (hk.cell (p := ⟨sb, 2, none⟩) h.lt h1).trans h.c2, (hk.cell (p := ⟨sb, 3, none⟩) h.lt h1).trans h.c3,
    (hk.frozen (p := ⟨sb, 1, none⟩) h.lt h1).trans h.f1, (hk.frozen (p := ⟨sb, 2, none⟩) h.lt h1).trans h.f2, (hk.frozen (p := ⟨sb, 3, none⟩) h.lt h1).trans h.f3,
    (h.lies.kept hk (fun hne => h2 (by simpa using hne))).mono hk.size, h.nsb, h.tl⟩

theorem St.kept {S : Nat → Prop} (h : St w C sb b x) (hk : Kept S w w') (hs : ∀ k, C k → ¬ S k) : St w' C sb b x := by
  obtain ⟨⟨ao, cap, h1, h2⟩, ho, hl⟩ := h
  exact ⟨⟨ao, cap, h1.kept hk (hs _ ho) (fun hne a ha => hs _ (h2 hne a ha)), h2⟩, ho, fun k hk' => Nat.lt_of_lt_of_le (hl k hk') hk.size⟩

theorem St.fresh (h : St w C sb b x) (hb : Below w.heap.size w w') : St w' C sb b x := h.kept (kob (S := fun _ => False) hb (Nat.le_refl _)) (fun _ _ h => h)

/-- Another text. -/
theorem StAt.setText (h : StAt w sb b ao cap x) (ao' : Option Addr) (cap' : Nat) (t : List UInt8) (hL : Lies w w.heap.size ao' (t.map bv)) (hn : t ≠ [] → ∀ a, ao' = some a → a.block ≠ sb) (ht : t.length ≤ 1073741824) :
    StAt (w.setCell ⟨sb, 1, none⟩ (.slice ao' t.length cap')) sb b ao' cap' ⟨t, x.broken, x.saves⟩ := by
  have kp : Kept (fun k => k = sb) w (w.setCell ⟨sb, 1, none⟩ (.slice ao' t.length cap')) := Kept.setCell (p := ⟨sb, 1, none⟩) (Kept.refl (fun k => k = sb) w) (fun _ => rfl) _
  refine ⟨?_, World.cell?_setCell_same _ _ _ h.c1, ?_, ?_, ?_, ?_, ?_, (hL.kept kp (fun hne => hn (by simpa using hne))).mono kp.size, hn, ht⟩
  · rw [World.cell?_setCell_other _ _ _ _ (by simp)]; exact h.c0
  · rw [World.cell?_setCell_other _ _ _ _ (by simp)]; exact h.c2
  · rw [World.cell?_setCell_other _ _ _ _ (by simp)]; exact h.c3
  · rw [World.frozen?_setCell]; exact h.f1
  · rw [World.frozen?_setCell]; exact h.f2
  · rw [World.frozen?_setCell]; exact h.f3

theorem StAt.setSaves (h : StAt w sb b ao cap x) (m : Nat) (mI : Int) (hm : mI = m) : StAt (w.setCell ⟨sb, 3, none⟩ (.int .i64 mI)) sb b ao cap ⟨x.text, x.broken, m⟩ := by
  subst hm
  have kp : Kept (fun k => k = sb) w (w.setCell ⟨sb, 3, none⟩ (.int .i64 m)) := Kept.setCell (p := ⟨sb, 3, none⟩) (Kept.refl (fun k => k = sb) w) (fun _ => rfl) _
  refine ⟨?_, ?_, ?_, World.cell?_setCell_same _ _ _ h.c3, ?_, ?_, ?_, (h.lies.kept kp (fun hne => h.nsb (by simpa using hne))).mono kp.size, h.nsb, h.tl⟩
  · rw [World.cell?_setCell_other _ _ _ _ (by simp)]; exact h.c0
  · rw [World.cell?_setCell_other _ _ _ _ (by simp)]; exact h.c1
  · rw [World.cell?_setCell_other _ _ _ _ (by simp)]; exact h.c2
  · rw [World.frozen?_setCell]; exact h.f1
  · rw [World.frozen?_setCell]; exact h.f2
  · rw [World.frozen?_setCell]; exact h.f3

theorem StAt.setBroken (h : StAt w sb b ao cap x) : StAt (w.setCell ⟨sb, 2, none⟩ (.int .u32 1)) sb b ao cap ⟨x.text, true, x.saves⟩ := by
  have kp : Kept (fun k => k = sb) w (w.setCell ⟨sb, 2, none⟩ (.int .u32 1)) := Kept.setCell (p := ⟨sb, 2, none⟩) (Kept.refl (fun k => k = sb) w) (fun _ => rfl) _
  refine ⟨?_, ?_, World.cell?_setCell_same _ _ _ h.c2, ?_, ?_, ?_, ?_, (h.lies.kept kp (fun hne => h.nsb (by simpa using hne))).mono kp.size, h.nsb, h.tl⟩
  · rw [World.cell?_setCell_other _ _ _ _ (by simp)]; exact h.c0
  · rw [World.cell?_setCell_other _ _ _ _ (by simp)]; exact h.c1
  · rw [World.cell?_setCell_other _ _ _ _ (by simp)]; exact h.c3
  · rw [World.frozen?_setCell]; exact h.f1
  · rw [World.frozen?_setCell]; exact h.f2
  · rw [World.frozen?_setCell]; exact h.f3

/-- A new Store. -/
theorem StAt.made {w : World} (b : Nat) (ao : Option Addr) (cap : Nat) (t : List UInt8) (hL : Lies w w.heap.size ao (t.map bv)) (ht : t.length ≤ 1073741824) (ty : TypeId) :
    StAt (w.alloc (.cells #[.pointer (some ⟨b, 0, none⟩), .slice ao t.length cap, .int .u32 0, .int .i64 0] ty)) w.heap.size b ao cap ⟨t, false, 0⟩ := by
  have hk : Kept (fun _ => False) w (w.alloc (.cells #[.pointer (some ⟨b, 0, none⟩), .slice ao t.length cap, .int .u32 0, .int .i64 0] ty)) := (Kept.refl _ w).alloc _
  have hc : ∀ i, (w.alloc (.cells #[.pointer (some ⟨b, 0, none⟩), .slice ao t.length cap, .int .u32 0, .int .i64 0] ty)).cell? ⟨w.heap.size, i, none⟩ = _ := fun i => World.cell?_alloc_new w _ ty i
  refine ⟨hc 0, hc 1, hc 2, hc 3, by simp, by simp, by simp, (hL.kept hk (fun _ _ _ h => h)).mono hk.size, fun hne a ha => ?_, ht⟩
  obtain ⟨b', o', e, hlt, _⟩ := hL (by simpa using hne)
  rw [e] at ha; cases ha
  simp only
  omega

end

section
variable {w : World} {C : Nat → Prop} {sb b : Nat} {ao : Option Addr} {cap : Nat} {x : SS}

theorem abload_any (sb : Nat) (v : Bool) (w : World) (h : w.cell? ⟨sb, 2, none⟩ = some (.int .u32 (brI v))) :
    Calls Try.prog 18 #[.pointer (some ⟨sb, 2, none⟩)] w fun e w' => e = .returned (.bool v) ∧ w = w' := by
  have hl := run_call_load (P := Try.prog) Try.func36 (by kernel_rfl) (by kernel_rfl) (by kernel_rfl) .u32 (by kernel_rfl) h
  have hb : (brI v != 0) = v := by cases v <;> rfl
  generalize brI v = q at *
  go_enter Try.func18, Try.ntmps18
  go_wp2
  go_ret
  exact ⟨by simp, rfl⟩

theorem aiadd_any (sb : Nat) (v : Int) (w : World) (h : w.cell? ⟨sb, 3, none⟩ = some (.int .i64 v)) (hz : w.frozen? ⟨sb, 3, none⟩ = false) (hv : 0 ≤ v ∧ v ≤ 1000000000) :
    Calls Try.prog 20 #[.pointer (some ⟨sb, 3, none⟩), .int .i64 1] w fun e w' => e = .returned (.int .i64 (v + 1)) ∧ w' = w.setCell ⟨sb, 3, none⟩ (.int .i64 (v + 1)) := by
  have hs : (Op.intArith .add .i64 v 1).run Try.prog w = .ok (.int .i64 (v + 1)) w := by
    simp [go_sem, IntKind.wrap_i64]
    omega
  have hl := run_call_add (P := Try.prog) Try.func37 (by kernel_rfl) (by kernel_rfl) (by kernel_rfl) .i64 (by kernel_rfl) h hz hs
  generalize v + 1 = v1 at *
  go_enter Try.func20, Try.ntmps20
  go_wp2
  go_ret
  exact ⟨rfl, rfl⟩

theorem b32_any (w : World) : Calls Try.prog 39 #[.bool true] w fun e w' => e = .returned (.int .u32 1) ∧ w = w' := by
  go_enter Try.func39, Try.ntmps39
  go_wp2
  go_ret
  exact ⟨rfl, rfl⟩

theorem abstore_any (sb : Nat) (u : Value) (w : World) (h : w.cell? ⟨sb, 2, none⟩ = some u) (hz : w.frozen? ⟨sb, 2, none⟩ = false) :
    Calls Try.prog 21 #[.pointer (some ⟨sb, 2, none⟩), .bool true] w fun e w' => (∃ v, e = .returned v) ∧ w' = w.drew.setCell ⟨sb, 2, none⟩ (.int .u32 1) := by
  have h' : w.drew.cell? ⟨sb, 2, none⟩ = some u := h
  have hz' : w.drew.frozen? ⟨sb, 2, none⟩ = false := hz
  have hl := run_call_store (P := Try.prog) Try.func38 (by kernel_rfl) (by kernel_rfl) (by kernel_rfl) (by kernel_rfl) (k := .u32) (y := 1) h' hz'
  have HB := Lib.hid (b32_any w.drew)
  go_enter Try.func21, Try.ntmps21
  go_wp2_with fail
  go_region_with (go_at_call 39; refine HB.out.mono ?_; rintro e w1 ⟨rfl, rfl⟩)
  all_goals go_wp2
  all_goals go_end0
  all_goals exact ⟨⟨_, rfl⟩, rfl⟩

theorem sopen_is (h : StAt w sb b ao cap x) : Calls Try.prog 17 #[.pointer (some ⟨sb, 0, none⟩)] w fun e w' => e = .returned (.bool true) ∧ w = w' := by
  have c0 := h.c0
  clear h
  go_enter Try.func17, Try.ntmps17
  go_wp2
  go_ret
  exact ⟨rfl, rfl⟩
theorem sopen_nil (w : World) : Calls Try.prog 17 #[.pointer none] w fun e w' => e = .returned (.bool false) ∧ w = w' := by
  go_enter Try.func17, Try.ntmps17
  go_wp2
  go_ret
  exact ⟨rfl, rfl⟩

end

end Go.Proofs.Ytgefbolnfenfcaa
