/-
  Lemmas towards the claim of this folder: contracts of the functions that the law reaches; joined texts.
-/
import Derived.Test.YtgefbolnfenfcaaGreatJu
import Derived.Test.YtgefbolnfenfcaaGreatJq
import Derived.Laws.LoneSync
import Derived.Deep.RegionWith
/-
  A STORE OVER LISTS; how a Store lies in memory; CONTRACTS of sync/atomic's Bool and Int64, and of package store's isOpen, Broken, Saves, Text.
-/
namespace Go.Proofs.YtgefbolnfenfcaaGreat
open Go.RowKit Go.Mk

/-- A store: its text, whether it is broken, how many texts were saved. -/
structure SS where
  text : List UInt8
  broken : Bool
  saves : Nat

/-- What Open answers. -/
def sopenE (n : Nat) (s : DS) : Int :=
  if (jrec n s).2 ≠ 0 then (jrec n s).2 else if (jget n (image (jrec n s).1.base (jrec n s).1.ws)).2 ≠ 0 then (jget n (image (jrec n s).1.base (jrec n s).1.ws)).2
  else (openB (jget n (image (jrec n s).1.base (jrec n s).1.ws)).1).2
def sopenT (n : Nat) (s : DS) : List UInt8 := (openB (jget n (image (jrec n s).1.base (jrec n s).1.ws)).1).1

/-- What Save answers and leaves. -/
def ssaveE (n : Nat) (t : List UInt8) (x : SS) (s : DS) : Int :=
  if x.broken = true then 80 else if (jput n (sealL t) s).2 = 0 then 0 else if (jput n (sealL t) s).2 = 21 then 21 else 80
def ssaveX (n : Nat) (t : List UInt8) (x : SS) (s : DS) : SS :=
  if x.broken = true then x else if (jput n (sealL t) s).2 = 0 then ⟨t, false, x.saves + 1⟩ else if (jput n (sealL t) s).2 = 21 then x else ⟨x.text, true, x.saves⟩
def ssaveD (n : Nat) (t : List UInt8) (x : SS) (s : DS) : DS := if x.broken = true then s else (jput n (sealL t) s).1

def brI (b : Bool) : Int := if b = true then 1 else 0

/-- The Store at block sb, of the disk at b: its text lies behind ao. -/
structure StAt (w : World) (sb b : Nat) (ao : Option Addr) (cap : Nat) (x : SS) : Prop where
  c0 : w.cell? ⟨sb, 0, none⟩ = some (.pointer (some ⟨b, 0, none⟩))
  c1 : w.cell? ⟨sb, 1, none⟩ = some (.slice ao x.text.length cap)
  c2 : w.cell? ⟨sb, 2, none⟩ = some (.int .u32 (brI x.broken))
  c3 : w.cell? ⟨sb, 3, none⟩ = some (.int .i64 (x.saves : Int))
  f1 : w.frozen? ⟨sb, 1, none⟩ = false
  f2 : w.frozen? ⟨sb, 2, none⟩ = false
  f3 : w.frozen? ⟨sb, 3, none⟩ = false
  lies : Lies w w.heap.size ao (x.text.map bv)
  nsb : x.text ≠ [] → ∀ a, ao = some a → a.block ≠ sb
  tl : x.text.length ≤ 1073741824

/-- The Store at sb; C: the blocks that it owns. -/
structure St (w : World) (C : Nat → Prop) (sb b : Nat) (x : SS) : Prop where
  at_ : ∃ ao cap, StAt w sb b ao cap x ∧ (x.text ≠ [] → ∀ a, ao = some a → C a.block)
  own : C sb
  lt : ∀ k, C k → k < w.heap.size

section
variable {w w' : World} {C : Nat → Prop} {sb b : Nat} {ao : Option Addr} {cap : Nat} {x : SS}

theorem StAt.lt (h : StAt w sb b ao cap x) : sb < w.heap.size := World.block_lt_of_cell? _ _ h.c0

theorem StAt.kept {S : Nat → Prop} (h : StAt w sb b ao cap x) (hk : Kept S w w') (h1 : ¬ S sb) (h2 : x.text ≠ [] → ∀ a, ao = some a → ¬ S a.block) : StAt w' sb b ao cap x :=
  ⟨(hk.cell (p := ⟨sb, 0, none⟩) h.lt h1).trans h.c0, (hk.cell (p := ⟨sb, 1, none⟩) h.lt h1).trans h.c1, (hk.cell (p := ⟨sb, 2, none⟩) h.lt h1).trans h.c2, (hk.cell (p := ⟨sb, 3, none⟩) h.lt h1).trans h.c3,
    (hk.frozen (p := ⟨sb, 1, none⟩) h.lt h1).trans h.f1, (hk.frozen (p := ⟨sb, 2, none⟩) h.lt h1).trans h.f2, (hk.frozen (p := ⟨sb, 3, none⟩) h.lt h1).trans h.f3,
    (h.lies.kept hk (fun hne => h2 (by simpa using hne))).mono hk.size, h.nsb, h.tl⟩

theorem St.kept {S : Nat → Prop} (h : St w C sb b x) (hk : Kept S w w') (hs : ∀ k, C k → ¬ S k) : St w' C sb b x := by
  obtain ⟨⟨ao, cap, h1, h2⟩, ho, hl⟩ := h
  exact ⟨⟨ao, cap, h1.kept hk (hs _ ho) (fun hne a ha => hs _ (h2 hne a ha)), h2⟩, ho, fun k hk' => Nat.lt_of_lt_of_le (hl k hk') hk.size⟩

theorem St.fresh (h : St w C sb b x) (hb : Below w.heap.size w w') : St w' C sb b x := h.kept (kob (S := fun _ => False) hb (Nat.le_refl _)) (fun _ _ h => h)

/-- Another text. -/
theorem StAt.setText (h : StAt w sb b ao cap x) (ao' : Option Addr) (cap' : Nat) (t : List UInt8) (hL : Lies w w.heap.size ao' (t.map bv)) (hn : t ≠ [] → ∀ a, ao' = some a → a.block ≠ sb) (ht : t.length ≤ 1073741824) :
    StAt (w.setCell ⟨sb, 1, none⟩ (.slice ao' t.length cap')) sb b ao' cap' ⟨t, x.broken, x.saves⟩ := by
  have kp : Kept (fun k => k = sb) w (w.setCell ⟨sb, 1, none⟩ (.slice ao' t.length cap')) := Kept.setCell (p := ⟨sb, 1, none⟩) (Kept.refl (fun k => k = sb) w) (fun _ => rfl) _
  refine ⟨?_, World.cell?_setCell_same _ _ _ h.c1, ?_, ?_, ?_, ?_, ?_, (hL.kept kp (fun hne => hn (by simpa using hne))).mono kp.size, hn, ht⟩
  · rw [World.cell?_setCell_other _ _ _ _ (by simp)]; exact h.c0
  · rw [World.cell?_setCell_other _ _ _ _ (by simp)]; exact h.c2
  · rw [World.cell?_setCell_other _ _ _ _ (by simp)]; exact h.c3
  · rw [World.frozen?_setCell]; exact h.f1
  · rw [World.frozen?_setCell]; exact h.f2
  · rw [World.frozen?_setCell]; exact h.f3

theorem StAt.setSaves (h : StAt w sb b ao cap x) (m : Nat) (mI : Int) (hm : mI = m) : StAt (w.setCell ⟨sb, 3, none⟩ (.int .i64 mI)) sb b ao cap ⟨x.text, x.broken, m⟩ := by
  subst hm
  have kp : Kept (fun k => k = sb) w (w.setCell ⟨sb, 3, none⟩ (.int .i64 m)) := Kept.setCell (p := ⟨sb, 3, none⟩) (Kept.refl (fun k => k = sb) w) (fun _ => rfl) _
  refine ⟨?_, ?_, ?_, World.cell?_setCell_same _ _ _ h.c3, ?_, ?_, ?_, (h.lies.kept kp (fun hne => h.nsb (by simpa using hne))).mono kp.size, h.nsb, h.tl⟩
  · rw [World.cell?_setCell_other _ _ _ _ (by simp)]; exact h.c0
  · rw [World.cell?_setCell_other _ _ _ _ (by simp)]; exact h.c1
  · rw [World.cell?_setCell_other _ _ _ _ (by simp)]; exact h.c2
  · rw [World.frozen?_setCell]; exact h.f1
  · rw [World.frozen?_setCell]; exact h.f2
  · rw [World.frozen?_setCell]; exact h.f3

theorem StAt.setBroken (h : StAt w sb b ao cap x) : StAt (w.setCell ⟨sb, 2, none⟩ (.int .u32 1)) sb b ao cap ⟨x.text, true, x.saves⟩ := by
  have kp : Kept (fun k => k = sb) w (w.setCell ⟨sb, 2, none⟩ (.int .u32 1)) := Kept.setCell (p := ⟨sb, 2, none⟩) (Kept.refl (fun k => k = sb) w) (fun _ => rfl) _
  refine ⟨?_, ?_, World.cell?_setCell_same _ _ _ h.c2, ?_, ?_, ?_, ?_, (h.lies.kept kp (fun hne => h.nsb (by simpa using hne))).mono kp.size, h.nsb, h.tl⟩
  · rw [World.cell?_setCell_other _ _ _ _ (by simp)]; exact h.c0
  · rw [World.cell?_setCell_other _ _ _ _ (by simp)]; exact h.c1
  · rw [World.cell?_setCell_other _ _ _ _ (by simp)]; exact h.c3
  · rw [World.frozen?_setCell]; exact h.f1
  · rw [World.frozen?_setCell]; exact h.f2
  · rw [World.frozen?_setCell]; exact h.f3

/-- A new Store. -/
theorem StAt.made {w : World} (b : Nat) (ao : Option Addr) (cap : Nat) (t : List UInt8) (hL : Lies w w.heap.size ao (t.map bv)) (ht : t.length ≤ 1073741824) (ty : TypeId) :
    StAt (w.alloc (.cells #[.pointer (some ⟨b, 0, none⟩), .slice ao t.length cap, .int .u32 0, .int .i64 0] ty)) w.heap.size b ao cap ⟨t, false, 0⟩ := by
  have hk : Kept (fun _ => False) w (w.alloc (.cells #[.pointer (some ⟨b, 0, none⟩), .slice ao t.length cap, .int .u32 0, .int .i64 0] ty)) := (Kept.refl _ w).alloc _
  have hc : ∀ i, (w.alloc (.cells #[.pointer (some ⟨b, 0, none⟩), .slice ao t.length cap, .int .u32 0, .int .i64 0] ty)).cell? ⟨w.heap.size, i, none⟩ = _ := fun i => World.cell?_alloc_new w _ ty i
  refine ⟨hc 0, hc 1, hc 2, hc 3, by simp, by simp, by simp, (hL.kept hk (fun _ _ _ h => h)).mono hk.size, fun hne a ha => ?_, ht⟩
  obtain ⟨b', o', e, hlt, _⟩ := hL (by simpa using hne)
  rw [e] at ha; cases ha
  simp only
  omega

end

section
variable {w : World} {C : Nat → Prop} {sb b : Nat} {ao : Option Addr} {cap : Nat} {x : SS}

theorem abload_any (sb : Nat) (v : Bool) (w : World) (h : w.cell? ⟨sb, 2, none⟩ = some (.int .u32 (brI v))) :
    Calls Tryz.prog 28 #[.pointer (some ⟨sb, 2, none⟩)] w fun e w' => e = .returned (.bool v) ∧ w = w' := by
  have hl := run_call_load (P := Tryz.prog) Tryz.func55 (by kernel_rfl) (by kernel_rfl) (by kernel_rfl) .u32 (by kernel_rfl) h
  have hb : (brI v != 0) = v := by cases v <;> rfl
  generalize brI v = q at *
  go_enter Tryz.func28, Tryz.ntmps28
  go_wp2
  go_ret
  exact ⟨by simp, rfl⟩

theorem aiload_any (sb : Nat) (v : Int) (w : World) (h : w.cell? ⟨sb, 3, none⟩ = some (.int .i64 v)) :
    Calls Tryz.prog 88 #[.pointer (some ⟨sb, 3, none⟩)] w fun e w' => e = .returned (.int .i64 v) ∧ w = w' := by
  have hl := run_call_load (P := Tryz.prog) Tryz.func99 (by kernel_rfl) (by kernel_rfl) (by kernel_rfl) .i64 (by kernel_rfl) h
  go_enter Tryz.func88, Tryz.ntmps88
  go_wp2
  go_ret
  exact ⟨rfl, rfl⟩

theorem aiadd_any (sb : Nat) (v : Int) (w : World) (h : w.cell? ⟨sb, 3, none⟩ = some (.int .i64 v)) (hz : w.frozen? ⟨sb, 3, none⟩ = false) (hv : 0 ≤ v ∧ v ≤ 1000000000) :
    Calls Tryz.prog 32 #[.pointer (some ⟨sb, 3, none⟩), .int .i64 1] w fun e w' => e = .returned (.int .i64 (v + 1)) ∧ w' = w.setCell ⟨sb, 3, none⟩ (.int .i64 (v + 1)) := by
  have hs : (Op.intArith .add .i64 v 1).run Tryz.prog w = .ok (.int .i64 (v + 1)) w := by
    simp [go_sem, IntKind.wrap_i64]
    omega
  have hl := run_call_add (P := Tryz.prog) Tryz.func65 (by kernel_rfl) (by kernel_rfl) (by kernel_rfl) .i64 (by kernel_rfl) h hz hs
  generalize v + 1 = v1 at *
  go_enter Tryz.func32, Tryz.ntmps32
  go_wp2
  go_ret
  exact ⟨rfl, rfl⟩

theorem b32_any (w : World) : Calls Tryz.prog 67 #[.bool true] w fun e w' => e = .returned (.int .u32 1) ∧ w = w' := by
  go_enter Tryz.func67, Tryz.ntmps67
  go_wp2
  go_ret
  exact ⟨rfl, rfl⟩

theorem abstore_any (sb : Nat) (u : Value) (w : World) (h : w.cell? ⟨sb, 2, none⟩ = some u) (hz : w.frozen? ⟨sb, 2, none⟩ = false) :
    Calls Tryz.prog 33 #[.pointer (some ⟨sb, 2, none⟩), .bool true] w fun e w' => (∃ v, e = .returned v) ∧ w' = w.drew.setCell ⟨sb, 2, none⟩ (.int .u32 1) := by
  have h' : w.drew.cell? ⟨sb, 2, none⟩ = some u := h
  have hz' : w.drew.frozen? ⟨sb, 2, none⟩ = false := hz
  have hl := run_call_store (P := Tryz.prog) Tryz.func66 (by kernel_rfl) (by kernel_rfl) (by kernel_rfl) (by kernel_rfl) (k := .u32) (y := 1) h' hz'
  have HB := Lib.hid (b32_any w.drew)
  go_enter Tryz.func33, Tryz.ntmps33
  go_wp2_with fail
  go_region_with (go_at_call 67; refine HB.out.mono ?_; rintro e w1 ⟨rfl, rfl⟩)
  all_goals go_wp2
  all_goals go_end0
  all_goals exact ⟨⟨_, rfl⟩, rfl⟩

theorem sopen_is (h : StAt w sb b ao cap x) : Calls Tryz.prog 27 #[.pointer (some ⟨sb, 0, none⟩)] w fun e w' => e = .returned (.bool true) ∧ w = w' := by
  have c0 := h.c0
  clear h
  go_enter Tryz.func27, Tryz.ntmps27
  go_wp2
  go_ret
  exact ⟨rfl, rfl⟩
theorem sopen_nil (w : World) : Calls Tryz.prog 27 #[.pointer none] w fun e w' => e = .returned (.bool false) ∧ w = w' := by
  go_enter Tryz.func27, Tryz.ntmps27
  go_wp2
  go_ret
  exact ⟨rfl, rfl⟩

end

end Go.Proofs.YtgefbolnfenfcaaGreat

/-
  CONTRACTS of package store: Text, Broken, Saves, Room, Format, Open.
-/
namespace Go.Proofs.YtgefbolnfenfcaaGreat
open Go.RowKit Go.Mk

theorem sealL_length (l : List UInt8) : (sealL l).length = l.length + 4 := by simp [sealL, le4]

theorem jget_len (n : Nat) (im : List UInt8) : (jget n im).1.length ≤ 64 * areaN n := by
  have h : (hmL n im).length ≤ 64 * areaN n := by unfold hmL; rw [List.length_take]; omega
  unfold jget
  split
  · simp
  · split
    · simp
    · simp only [List.length_take, List.length_drop]
      omega

/-- A new Store, behind block B. -/
theorem St.made {w : World} (b : Nat) (ao : Option Addr) (cap : Nat) (t : List UInt8) (hL : Lies w w.heap.size ao (t.map bv)) (ht : t.length ≤ 1073741824) (ty : TypeId) (B : Nat) (hB : t ≠ [] → ∀ a, ao = some a → B ≤ a.block) (hBs : B ≤ w.heap.size) :
    ∃ C, St (w.alloc (.cells #[.pointer (some ⟨b, 0, none⟩), .slice ao t.length cap, .int .u32 0, .int .i64 0] ty)) C w.heap.size b ⟨t, false, 0⟩ ∧ ∀ k, C k → B ≤ k := by
  refine ⟨fun k => k = w.heap.size ∨ t ≠ [] ∧ ∃ a, ao = some a ∧ k = a.block, ⟨⟨ao, cap, StAt.made b ao cap t hL ht ty, fun hne a ha => .inr ⟨hne, a, ha, rfl⟩⟩, .inl rfl, fun k hk => ?_⟩, fun k hk => ?_⟩
  · rcases hk with rfl | ⟨hne, a, ha, rfl⟩
    · simp
    · obtain ⟨b', o', e, hlt, _⟩ := hL (by simpa using hne)
      rw [e] at ha; cases ha
      simp
      omega
  · rcases hk with rfl | ⟨hne, a, ha, rfl⟩
    · exact hBs
    · exact hB hne a ha

theorem owns_ge {w : World} {base : Nat} {e : TypeId} {size : Nat} {ao : Option Addr} {n m cap : Nat} {xs : List Value} (h : w.ownsRow base e size (.slice ao n cap) m xs) : ∀ a, ao = some a → base ≤ a.block := by
  rintro a rfl
  exact (owns_lt h a.block rfl).1

section
variable {w : World} {D C : Nat → Prop} {sb b n : Nat} {s : DS} {x : SS}

theorem stext_any (h : St w C sb b x) :
    Calls Tryz.prog 24 #[.pointer (some ⟨sb, 0, none⟩)] w fun e w' => ∃ ao cap, e = .returned (.slice ao x.text.length cap) ∧ Lies w' w'.heap.size ao (x.text.map bv) ∧ Below w.heap.size w w' := by
  obtain ⟨⟨ao, cap, h1, _⟩, _, _⟩ := h
  have c1 := h1.c1
  have HO := Lib.hid (sopen_is h1)
  have HC := Lib.hid (clone_any ao cap x.text w.heap.size w h1.lies (by have := h1.tl; omega))
  have ht := h1.tl
  clear h1
  generalize x.text = t at *
  go_enter Tryz.func24, Tryz.ntmps24
  go_wp2_with fail
  refine HO.out.mono ?_
  rintro e w1 ⟨rfl, rfl⟩
  go_wp2_with fail
  refine HC.out.mono ?_
  rintro e w2 ⟨a2, k2, rfl, ho, hb⟩
  have HL := Lib.hid (owns_lies ho); have HB := Lib.hid hb; clear ho hb
  go_wp2
  go_ret
  exact ⟨a2, k2, rfl, HL.out, HB.out⟩
theorem stext_nil (w : World) : Calls Tryz.prog 24 #[.pointer none] w fun e w' => e = .returned (.slice none 0 0) ∧ w = w' := by
  go_enter Tryz.func24, Tryz.ntmps24
  go_wp2_with fail
  refine (sopen_nil w).mono ?_
  rintro e w1 ⟨rfl, rfl⟩
  go_wp2
  go_ret
  exact ⟨rfl, rfl⟩

theorem sbroken_any (h : St w C sb b x) :
    Calls Tryz.prog 52 #[.pointer (some ⟨sb, 0, none⟩)] w fun e w' => e = .returned (.bool x.broken) ∧ w = w' := by
  obtain ⟨⟨ao, cap, h1, _⟩, _, _⟩ := h
  have HO := Lib.hid (sopen_is h1)
  have HC := Lib.hid (abload_any sb x.broken w h1.c2)
  clear h1
  generalize x.broken = t at *
  go_enter Tryz.func52, Tryz.ntmps52
  go_wp2_with fail
  refine HO.out.mono ?_
  rintro e w1 ⟨rfl, rfl⟩
  go_wp2_with fail
  refine HC.out.mono ?_
  rintro e w2 ⟨rfl, rfl⟩
  go_wp2
  go_ret
  exact ⟨rfl, rfl⟩
theorem sbroken_nil (w : World) : Calls Tryz.prog 52 #[.pointer none] w fun e w' => e = .returned (.bool true) ∧ w = w' := by
  go_enter Tryz.func52, Tryz.ntmps52
  go_wp2_with fail
  refine (sopen_nil w).mono ?_
  rintro e w1 ⟨rfl, rfl⟩
  go_wp2
  go_ret
  exact ⟨rfl, rfl⟩

theorem ssaves_any (h : St w C sb b x) :
    Calls Tryz.prog 53 #[.pointer (some ⟨sb, 0, none⟩)] w fun e w' => e = .returned (.int .i64 (x.saves : Int)) ∧ w = w' := by
  obtain ⟨⟨ao, cap, h1, _⟩, _, _⟩ := h
  have HO := Lib.hid (sopen_is h1)
  have HC := Lib.hid (aiload_any sb (x.saves : Int) w h1.c3)
  clear h1
  generalize x.saves = t at *
  go_enter Tryz.func53, Tryz.ntmps53
  go_wp2_with fail
  refine HO.out.mono ?_
  rintro e w1 ⟨rfl, rfl⟩
  go_wp2_with fail
  refine HC.out.mono ?_
  rintro e w2 ⟨rfl, rfl⟩
  go_wp2
  go_ret
  exact ⟨rfl, rfl⟩
theorem ssaves_nil (w : World) : Calls Tryz.prog 53 #[.pointer none] w fun e w' => e = .returned (.int .i64 0) ∧ w = w' := by
  go_enter Tryz.func53, Tryz.ntmps53
  go_wp2_with fail
  refine (sopen_nil w).mono ?_
  rintro e w1 ⟨rfl, rfl⟩
  go_wp2
  go_ret
  exact ⟨rfl, rfl⟩

theorem sroom_any (h : DkS w D b n s) (g : St w C sb b x) :
    Calls Tryz.prog 51 #[.pointer (some ⟨sb, 0, none⟩)] w fun e w' => e = .returned (.int .i64 (roomI n - 4)) ∧ Below w.heap.size w w' := by
  obtain ⟨⟨ao, cap, h1, _⟩, _, _⟩ := g
  obtain ⟨hn1, hn2⟩ := h.n1
  have c0 := h1.c0
  have hr := roomI_nat n hn1 hn2
  have ha : areaN n ≤ 32767 := by unfold areaN; omega
  have hri : -1 ≤ roomI n ∧ roomI n ≤ 2097088 := by rw [hr]; split <;> omega
  have HO := Lib.hid (sopen_is h1)
  have HS := Lib.hid (dsize_any h)
  have hro := jroom_any n w
  have HC := Lib.hid (cseal_any none 0 [] w.heap.size w (Lies.nil _ _ _) (by simp))
  clear h1 hr ha h
  generalize roomI n = r at *
  have HR := Lib.hid hro; clear hro
  obtain ⟨hr1, hr2⟩ := hri
  have he : wrap64 (r - 4) = r - 4 := by unfold wrap64; omega
  go_enter Tryz.func51, Tryz.ntmps51
  go_wp2_with fail
  refine HO.out.mono ?_
  rintro e w1 ⟨rfl, rfl⟩
  go_wp2_with fail
  refine HS.out.mono ?_
  rintro e w1 ⟨rfl, rfl⟩
  go_wp2_with fail
  refine HR.out.mono ?_
  rintro e w1 ⟨rfl, rfl⟩
  go_wp2_with fail
  refine HC.out.mono ?_
  rintro e w2 ⟨a2, k2, rfl, ho, hb⟩
  have HB := Lib.hid hb; clear ho hb
  go_wp2
  go_ret
  exact ⟨by simp, HB.out⟩
theorem sroom_nil (w : World) : Calls Tryz.prog 51 #[.pointer none] w fun e w' => e = .returned (.int .i64 (-1)) ∧ w = w' := by
  go_enter Tryz.func51, Tryz.ntmps51
  go_wp2_with fail
  refine (sopen_nil w).mono ?_
  rintro e w1 ⟨rfl, rfl⟩
  go_wp2
  go_ret
  exact ⟨rfl, rfl⟩

/-- What Format and Open leave. -/
def SMade (w : World) (D : Nat → Prop) (b n : Nat) (s' : DS) (er : Int) (x : SS) (e : Ending) (w' : World) : Prop :=
  ∃ D', DkS w' D' b n s' ∧ (∀ i, D' i → D i ∨ w.heap.size ≤ i) ∧ Kept D w w' ∧
    ((er ≠ 0 ∧ e = .returned (.tuple #[.pointer none, .int .i64 er])) ∨
      (er = 0 ∧ ∃ sb C, e = .returned (.tuple #[.pointer (some ⟨sb, 0, none⟩), .int .i64 0]) ∧ St w' C sb b x ∧ (∀ k, C k → w.heap.size ≤ k) ∧ ∀ k, D' k → ¬ C k))

theorem SMade.none_ {w' : World} {s' : DS} {er : Int} (h : JDid w D b n s' w') (he : er ≠ 0) : SMade w D b n s' er x (.returned (.tuple #[.pointer none, .int .i64 er])) w' := by
  obtain ⟨D', h1, h2, h3⟩ := h
  exact ⟨D', h1, h2, h3, .inl ⟨he, rfl⟩⟩

theorem JDid.fresh2 {w' w'' : World} {s' : DS} (h : JDid w D b n s' w') (hb : Below w'.heap.size w' w'') : JDid w D b n s' w'' := by
  obtain ⟨D', h1, h2, h3⟩ := h
  exact ⟨D', h1.fresh hb, h2, h3.trans (kob (S := fun _ => False) hb (Nat.le_refl _)) (fun _ _ h => h.elim)⟩
theorem JDid.after {w0 w' : World} {s' : DS} (hb : Below w0.heap.size w0 w) (h : JDid w D b n s' w') : JDid w0 D b n s' w' := by
  obtain ⟨D', h1, h2, h3⟩ := h
  exact ⟨D', h1, fun i hi => (h2 i hi).imp id (fun h => Nat.le_trans hb.size h), (kob (S := D) hb (Nat.le_refl _)).trans h3 (fun _ _ h => h)⟩

/-- A new Store behind what a call has done. -/
theorem SMade.some_ {w2 w3 : World} {s' : DS} {t : List UInt8} {ao : Option Addr} {cap : Nat} {e : TypeId} {z : Nat} {m : Nat} (h : JDid w D b n s' w2) (ho : w3.ownsRow w2.heap.size e 1 (.slice ao t.length cap) t.length (t.map bv)) (hb : Below w2.heap.size w2 w3) (ht : t.length ≤ 1073741824) (ty : TypeId) (hz : z = w3.heap.size) (hm : m = t.length) :
    SMade w D b n s' 0 ⟨t, false, 0⟩ (.returned (.tuple #[.pointer (some ⟨z, 0, none⟩), .int .i64 0])) (w3.alloc (.cells #[.pointer (some ⟨b, 0, none⟩), .slice ao m cap, .int .u32 0, .int .i64 0] ty)) := by
  subst hz hm
  obtain ⟨D', h1, h2, h3⟩ := h
  obtain ⟨C, hC, hCB⟩ := St.made b ao cap t (owns_lies ho) ht ty w2.heap.size (fun _ => owns_ge ho) hb.size
  have hb4 : Below w2.heap.size w2 (w3.alloc (.cells #[.pointer (some ⟨b, 0, none⟩), .slice ao t.length cap, .int .u32 0, .int .i64 0] ty)) := hb.alloc hb.size _
  refine ⟨D', h1.fresh hb4, h2, h3.trans (kob (S := fun _ => False) hb4 (Nat.le_refl _)) (fun _ _ h => h.elim), .inr ⟨rfl, w3.heap.size, C, rfl, hC, fun k hk => Nat.le_trans h3.size (hCB k hk), fun k hk hc => ?_⟩⟩
  have := h1.lt k hk
  have := hCB k hc
  omega

set_option maxHeartbeats 400000 in
theorem sformat_any (h : DkS w D b n s) (ao : Option Addr) (cap : Nat) (t : List UInt8) (hL : Lies w w.heap.size ao (t.map bv)) (hn : t ≠ [] → ∀ a, ao = some a → ¬ D a.block) (ht : t.length ≤ 1000000) (hp : s.ws.length ≤ 900000) :
    Calls Tryz.prog 17 #[.pointer (some ⟨b, 0, none⟩), .slice ao t.length cap] w (SMade w D b n (jformat n (sealL t) s).1 (jformat n (sealL t) s).2 ⟨t, false, 0⟩) := by
  have hf := fun (w1 : World) (hb : Below w.heap.size w w1) (a1 : Option Addr) (c1 : Nat) (hl : Lies w1 w1.heap.size a1 ((sealL t).map bv)) => jformat_any (h.fresh hb) a1 (t.length + 4) c1 (sealL t) (sealL_length t).symm hl hp
  have HS := Lib.hid (cseal_any ao cap t w.heap.size w hL (by omega))
  generalize jformat n (sealL t) s = r at *
  obtain ⟨s', er⟩ := r
  simp only at hf ⊢
  have HF := Lib.hid hf; have HL := Lib.hid hL; have HN := Lib.hid hn; clear hf hL hn h
  by_cases he : er = 0
  · subst he
    go_enter Tryz.func17, Tryz.ntmps17
    go_wp2_with fail
    refine HS.out.mono ?_
    rintro e w1 ⟨a1, c1, rfl, ho1, b1⟩
    have HF1 := Lib.hid (HF.out w1 b1 a1 c1 (owns_lies ho1)); have B1 := Lib.hid b1; clear ho1 b1
    go_wp2_with fail
    refine HF1.out.mono ?_
    rintro e w2 ⟨rfl, hj⟩
    have hl2 : Lies w2 w2.heap.size ao (t.map bv) := by
      obtain ⟨_, _, _, hk⟩ := hj
      exact (((HL.out.below B1.out).kept hk (fun hne => HN.out (by simpa using hne))).mono (Nat.le_trans B1.out.size hk.size))
    have HC := Lib.hid (clone_any ao cap t w2.heap.size w2 hl2 (by omega)); have HJ := Lib.hid (JDid.after B1.out hj); clear hl2 hj
    go_wp2_with fail
    refine HC.out.mono ?_
    rintro e w3 ⟨a3, c3, rfl, ho3, b3⟩
    have HO3 := Lib.hid ho3; have B3 := Lib.hid b3; clear ho3 b3
    go_wp2
    go_ret2
    exact SMade.some_ HJ.out HO3.out B3.out (by omega) _ rfl rfl
  · have heb : (er != 0) = true := by simpa using he
    have HE := Lib.hid he; clear he
    go_enter Tryz.func17, Tryz.ntmps17
    go_wp2_with fail
    refine HS.out.mono ?_
    rintro e w1 ⟨a1, c1, rfl, ho1, b1⟩
    have HF1 := Lib.hid (HF.out w1 b1 a1 c1 (owns_lies ho1)); have B1 := Lib.hid b1; clear ho1 b1
    go_wp2_with fail
    refine HF1.out.mono ?_
    rintro e w2 ⟨rfl, hj⟩
    have HJ := Lib.hid (JDid.after B1.out hj); clear hj
    go_wp2
    go_ret2
    exact SMade.none_ HJ.out HE.out

set_option maxHeartbeats 400000 in
theorem sopen_any (h : DkS w D b n s) (hp : s.ws.length ≤ 900000) :
    Calls Tryz.prog 15 #[.pointer (some ⟨b, 0, none⟩)] w (SMade w D b n (jrec n s).1 (sopenE n s) ⟨sopenT n s, false, 0⟩) := by
  have hn2 := h.n1.2
  have ha : areaN n ≤ 32767 := by unfold areaN; omega
  have hre := jrec_any h hp
  unfold sopenE sopenT
  generalize jrec n s = r at *
  obtain ⟨s', er⟩ := r
  simp only at hre ⊢
  have hg := fun (w1 : World) (D1 : Nat → Prop) (hd : DkS w1 D1 b n s') => jget_any hd
  have hgl := jget_len n (image s'.base s'.ws)
  generalize jget n (image s'.base s'.ws) = G at *
  obtain ⟨gl, ge⟩ := G
  simp only at hg hgl ⊢
  have hgl : gl.length ≤ 1073741824 := by omega
  have hol : (openB gl).1.length ≤ gl.length := by
    unfold openB
    split
    · simp
    · split
      · simp only [List.length_take]; omega
      · simp
  have hco := fun (w1 : World) (a1 : Option Addr) (c1 : Nat) (hl : Lies w1 w1.heap.size a1 (gl.map bv)) (hc : gl.length ≤ c1) => copen_any a1 c1 gl w1.heap.size w1 hl hgl hc
  generalize openB gl = O at *
  obtain ⟨ol, oe⟩ := O
  simp only at hco hol ⊢
  have HRE := Lib.hid hre; have HG := Lib.hid hg; have HCO := Lib.hid hco; clear hre hg hco h
  by_cases he : er = 0
  · subst he
    by_cases hge : ge = 0
    · subst hge
      by_cases hoe : oe = 0
      · subst hoe
        simp only [ne_eq, not_true_eq_false, if_false]
        go_enter Tryz.func15, Tryz.ntmps15
        go_wp2_with fail
        refine HRE.out.mono ?_
        rintro e w1 ⟨rfl, hj⟩
        have hgg := hj
        obtain ⟨D1, hd1, _, _⟩ := hgg
        have HG1 := Lib.hid (HG.out w1 D1 hd1); have HJ := Lib.hid hj; clear hj hd1
        go_wp2_with fail
        refine HG1.out.mono ?_
        rintro e w2 ⟨a2, c2, rfl, hl2, _, hc2, _, b2⟩
        have HC2 := Lib.hid (HCO.out w2 a2 c2 hl2 hc2); have HJ2 := Lib.hid (JDid.fresh2 HJ.out b2); clear hl2 hc2 b2 HG1
        go_wp2_with fail
        refine HC2.out.mono ?_
        rintro e w3 ⟨a3, c3, rfl, ho3, b3⟩
        have HO3 := Lib.hid ho3; have B3 := Lib.hid b3; clear ho3 b3
        go_wp2
        go_ret2
        exact SMade.some_ HJ2.out HO3.out B3.out (by omega) _ rfl rfl
      · have hob : (oe != 0) = true := by simpa using hoe
        have HE := Lib.hid hoe; clear hoe
        simp only [ne_eq, not_true_eq_false, if_false]
        go_enter Tryz.func15, Tryz.ntmps15
        go_wp2_with fail
        refine HRE.out.mono ?_
        rintro e w1 ⟨rfl, hj⟩
        have hgg := hj
        obtain ⟨D1, hd1, _, _⟩ := hgg
        have HG1 := Lib.hid (HG.out w1 D1 hd1); have HJ := Lib.hid hj; clear hj hd1
        go_wp2_with fail
        refine HG1.out.mono ?_
        rintro e w2 ⟨a2, c2, rfl, hl2, _, hc2, _, b2⟩
        have HC2 := Lib.hid (HCO.out w2 a2 c2 hl2 hc2); have HJ2 := Lib.hid (JDid.fresh2 HJ.out b2); clear hl2 hc2 b2 HG1
        go_wp2_with fail
        refine HC2.out.mono ?_
        rintro e w3 ⟨a3, c3, rfl, ho3, b3⟩
        have HJ3 := Lib.hid (JDid.fresh2 HJ2.out b3); clear ho3 b3
        go_wp2
        go_ret2
        exact SMade.none_ HJ3.out HE.out
    · have hgb : (ge != 0) = true := by simpa using hge
      have HE := Lib.hid hge
      rw [if_neg (by simp), if_pos hge]
      clear hge
      go_enter Tryz.func15, Tryz.ntmps15
      go_wp2_with fail
      refine HRE.out.mono ?_
      rintro e w1 ⟨rfl, hj⟩
      have hgg := hj
      obtain ⟨D1, hd1, _, _⟩ := hgg
      have HG1 := Lib.hid (HG.out w1 D1 hd1); have HJ := Lib.hid hj; clear hj hd1
      go_wp2_with fail
      refine HG1.out.mono ?_
      rintro e w2 ⟨a2, c2, rfl, hl2, _, hc2, _, b2⟩
      have HJ2 := Lib.hid (JDid.fresh2 HJ.out b2); clear hl2 hc2 b2 HG1
      go_wp2
      go_ret2
      exact SMade.none_ HJ2.out HE.out
  · have heb : (er != 0) = true := by simpa using he
    have HE := Lib.hid he
    rw [if_pos he]
    clear he
    go_enter Tryz.func15, Tryz.ntmps15
    go_wp2_with fail
    refine HRE.out.mono ?_
    rintro e w1 ⟨rfl, hj⟩
    have HJ := Lib.hid hj; clear hj
    go_wp2
    go_ret2
    exact SMade.none_ HJ.out HE.out

end

end Go.Proofs.YtgefbolnfenfcaaGreat

/-
  CONTRACT of package store: Save.
-/
namespace Go.Proofs.YtgefbolnfenfcaaGreat
open Go.RowKit Go.Mk

/-- What Save leaves. -/
def SSaved (w : World) (D C : Nat → Prop) (sb b n : Nat) (s' : DS) (x' : SS) (w' : World) : Prop :=
  ∃ D' C', DkS w' D' b n s' ∧ St w' C' sb b x' ∧ (∀ i, D' i → D i ∨ w.heap.size ≤ i) ∧ (∀ i, C' i → C i ∨ w.heap.size ≤ i) ∧ (∀ k, D' k → ¬ C' k) ∧ Kept (fun k => D k ∨ C k) w w'

section
variable {w : World} {D C : Nat → Prop} {sb b n : Nat} {s : DS} {x : SS}

theorem SSaved.same (h : DkS w D b n s) (g : St w C sb b x) (hd : ∀ k, D k → ¬ C k) : SSaved w D C sb b n s x w :=
  ⟨D, C, h, g, fun _ h => .inl h, fun _ h => .inl h, hd, Kept.refl _ _⟩

/-- The disk has turned; the store is as it was. -/
theorem SSaved.disk {w' : World} {s' : DS} (g : St w C sb b x) (hd : ∀ k, D k → ¬ C k) (h : JDid w D b n s' w') : SSaved w D C sb b n s' x w' := by
  obtain ⟨D', h1, h2, h3⟩ := h
  refine ⟨D', C, h1, g.kept h3 (fun k hc h' => hd k h' hc), h2, fun _ h => .inl h, fun k h' hc => ?_, h3.mono (fun _ _ h => .inl h)⟩
  rcases h2 k h' with h | h
  · exact hd k h hc
  · have := g.lt k hc; omega

theorem SSaved.drew {w' : World} {s' : DS} (h : SSaved w D C sb b n s' x w') : SSaved w D C sb b n s' x w'.drew := by
  obtain ⟨D', C', h1, h2, h3, h4, h5, h6⟩ := h
  have kd : Kept (fun _ => False) w' w'.drew := Kept.drew (Kept.refl _ _)
  exact ⟨D', C', h1.kept kd (fun _ _ h => h), h2.kept kd (fun _ _ h => h), h3, h4, h5, h6.drew⟩

/-- .. and is broken. -/
theorem SSaved.broken {w' : World} {s' : DS} (h : SSaved w D C sb b n s' x w') : SSaved w D C sb b n s' ⟨x.text, true, x.saves⟩ (w'.setCell ⟨sb, 2, none⟩ (.int .u32 1)) := by
  obtain ⟨D', C', h1, ⟨⟨ao, cap, g1, g2⟩, g3, g4⟩, h3, h4, h5, h6⟩ := h
  have kp : Kept (fun k => k = sb) w' (w'.setCell ⟨sb, 2, none⟩ (.int .u32 1)) := Kept.setCell (p := ⟨sb, 2, none⟩) (Kept.refl (fun k => k = sb) w') (fun _ => rfl) _
  refine ⟨D', C', h1.kept kp (fun k hk e => h5 k hk (by subst e; exact g3)), ⟨⟨ao, cap, g1.setBroken, g2⟩, g3, fun k hk => Nat.lt_of_lt_of_le (g4 k hk) kp.size⟩, h3, h4, h5, h6.trans kp (fun k hk e => ?_)⟩
  subst e
  rcases h4 k g3 with h | h
  · exact .inr h
  · omega

/-- .. or has another text, and one more was saved. -/
theorem SSaved.text {w' w3 : World} {s' : DS} {t : List UInt8} {ao : Option Addr} {cap : Nat} {e : TypeId} {m : Nat} {k : Int} (h : SSaved w D C sb b n s' x w') (ho : w3.ownsRow w'.heap.size e 1 (.slice ao t.length cap) t.length (t.map bv)) (hb : Below w'.heap.size w' w3) (ht : t.length ≤ 1073741824) (hm : m = t.length) (hk : k = (x.saves : Int) + 1) (hx : x.broken = false) :
    SSaved w D C sb b n s' ⟨t, false, x.saves + 1⟩ ((w3.setCell ⟨sb, 1, none⟩ (.slice ao m cap)).setCell ⟨sb, 3, none⟩ (.int .i64 k)) := by
  subst hm
  have hk' : k = ((x.saves + 1 : Nat) : Int) := by omega
  obtain ⟨D', C', h1, ⟨⟨ao1, cap1, g1, g2⟩, g3, g4⟩, h3, h4, h5, h6⟩ := h
  have hsb := g4 sb g3
  have k3 : Kept (fun _ => False) w' w3 := kob hb (Nat.le_refl _)
  have g1' := g1.kept k3 (fun h => h) (fun _ _ _ h => h)
  have hge : t ≠ [] → ∀ a, ao = some a → a.block ≠ sb := fun _ a ha e => by have := owns_ge ho a ha; omega
  have hlt : t ≠ [] → ∀ a, ao = some a → a.block < w3.heap.size := fun hne a ha => by
    obtain ⟨b', o', e, hlt, _⟩ := owns_lies ho (by simpa using hne)
    rw [e] at ha; cases ha
    exact hlt
  have g5 := (g1'.setText ao cap t (owns_lies ho) hge ht).setSaves (x.saves + 1) k hk'
  rw [hx] at g5
  have kp1 : Kept (fun k => k = sb) w3 (w3.setCell ⟨sb, 1, none⟩ (.slice ao t.length cap)) := Kept.setCell (p := ⟨sb, 1, none⟩) (Kept.refl (fun k => k = sb) w3) (fun _ => rfl) _
  have kp : Kept (fun k => k = sb) w3 ((w3.setCell ⟨sb, 1, none⟩ (.slice ao t.length cap)).setCell ⟨sb, 3, none⟩ (.int .i64 k)) := Kept.setCell (p := ⟨sb, 3, none⟩) kp1 (fun _ => rfl) _
  have kp' : Kept (fun k => k = sb) w' ((w3.setCell ⟨sb, 1, none⟩ (.slice ao t.length cap)).setCell ⟨sb, 3, none⟩ (.int .i64 k)) := (k3.mono (S' := fun k => k = sb) (fun _ _ h => h.elim)).trans kp (fun _ _ h => h)
  refine ⟨D', fun k => k = sb ∨ t ≠ [] ∧ ∃ a, ao = some a ∧ k = a.block, h1.kept kp' (fun k hk e => h5 k hk (by subst e; exact g3)), ⟨⟨ao, cap, g5, fun hne a ha => .inr ⟨hne, a, ha, rfl⟩⟩, .inl rfl, fun k hk => Nat.lt_of_lt_of_le ?_ kp.size⟩, h3, fun k hk => ?_, fun k hk hc => ?_, h6.trans kp' (fun k hk e => ?_)⟩
  · rcases hk with rfl | ⟨hne, a, ha, rfl⟩
    · exact Nat.lt_of_lt_of_le hsb hb.size
    · exact hlt hne a ha
  · rcases hk with rfl | ⟨hne, a, ha, rfl⟩
    · exact h4 _ g3
    · exact .inr (Nat.le_trans h6.size (owns_ge ho a ha))
  · rcases hc with rfl | ⟨hne, a, ha, rfl⟩
    · exact h5 _ hk g3
    · have := owns_ge ho a ha
      have := h1.lt _ hk
      omega
  · subst e
    rcases h4 k g3 with h | h
    · exact .inr h
    · omega

theorem ssave_nil (w : World) (v : Value) : Calls Tryz.prog 9 #[.pointer none, v] w fun e w' => e = .returned (.int .i64 2) ∧ w = w' := by
  go_enter Tryz.func9, Tryz.ntmps9
  go_wp2_with fail
  refine (sopen_nil w).mono ?_
  rintro e w1 ⟨rfl, rfl⟩
  go_wp2
  go_ret
  exact ⟨rfl, rfl⟩

/-- Behind Put: its answer, and what is there. -/
structure SvI (w : World) (D C : Nat → Prop) (sb b n : Nat) (s' : DS) (x : SS) (ao : Option Addr) (t : List UInt8) (w2 : World) : Prop where
  sv : SSaved w D C sb b n s' x w2
  li : Lies w2 w2.heap.size ao (t.map bv)

theorem SvI.of {w1 w2 : World} {s' : DS} {ao : Option Addr} {t : List UInt8} (g : St w C sb b x) (hd : ∀ k, D k → ¬ C k) (hL : Lies w w.heap.size ao (t.map bv)) (hn : t ≠ [] → ∀ a, ao = some a → ¬ D a.block) (hb : Below w.heap.size w w1) (h : JDid w1 D b n s' w2) : SvI w D C sb b n s' x ao t w2 := by
  refine ⟨SSaved.disk g hd (JDid.after hb h), ?_⟩
  obtain ⟨_, _, _, hk⟩ := h
  exact ((hL.below hb).kept hk (fun hne => hn (by simpa using hne))).mono (Nat.le_trans hb.size hk.size)

set_option maxHeartbeats 1000000 in
theorem ssave_any (h : DkS w D b n s) (g : St w C sb b x) (hd : ∀ k, D k → ¬ C k) (ao : Option Addr) (cap : Nat) (t : List UInt8) (hL : Lies w w.heap.size ao (t.map bv)) (hn : t ≠ [] → ∀ a, ao = some a → ¬ D a.block) (ht : t.length ≤ 1000000) (hx : x.saves ≤ 1000000) (hp : s.ws.length ≤ 900000) :
    Calls Tryz.prog 9 #[.pointer (some ⟨sb, 0, none⟩), .slice ao t.length cap] w fun e w' => e = .returned (.int .i64 (ssaveE n t x s)) ∧ SSaved w D C sb b n (ssaveD n t x s) (ssaveX n t x s) w' := by
  have hg := g
  obtain ⟨⟨ao1, cap1, h1, h2⟩, _, _⟩ := hg
  have HO := Lib.hid (sopen_is h1)
  have hbl := abload_any sb x.broken w h1.c2
  by_cases hbr : x.broken = true
  · have e1 : ssaveE n t x s = 80 := by unfold ssaveE; rw [if_pos hbr]
    have e2 : ssaveX n t x s = x := by unfold ssaveX; rw [if_pos hbr]
    have e3 : ssaveD n t x s = s := by unfold ssaveD; rw [if_pos hbr]
    rw [e1, e2, e3]
    rw [hbr] at hbl
    have HB := Lib.hid hbl; have HG := Lib.hid (SSaved.same h g hd)
    clear hbl e1 e2 e3 hbr h g hd hL hn h1 h2
    go_enter Tryz.func9, Tryz.ntmps9
    go_wp2_with fail
    refine HO.out.mono ?_
    rintro e w1 ⟨rfl, rfl⟩
    go_wp2_with fail
    refine HB.out.mono ?_
    rintro e w1 ⟨rfl, rfl⟩
    go_wp2
    go_ret
    exact ⟨rfl, HG.out⟩
  · have hbf : x.broken = false := by simpa using hbr
    unfold ssaveE ssaveX ssaveD
    simp only [if_neg hbr]
    rw [hbf] at hbl
    have hf := fun (w1 : World) (hb : Below w.heap.size w w1) (a1 : Option Addr) (c1 : Nat) (hl : Lies w1 w1.heap.size a1 ((sealL t).map bv)) => jput_any (h.fresh hb) a1 (t.length + 4) c1 (sealL t) (sealL_length t).symm hl hp
    have HS := Lib.hid (cseal_any ao cap t w.heap.size w.drew (hL.kept (S := fun _ => False) (Kept.drew (Kept.refl _ w)) (fun _ _ _ h => h)) (by omega))
    have c0 : w.cell? ⟨sb, 0, none⟩ = some (.pointer (some ⟨b, 0, none⟩)) := h1.c0
    have hsb := h1.lt
    generalize jput n (sealL t) s = r at *
    obtain ⟨s', er⟩ := r
    simp only at hf ⊢
    generalize hE : (if er = 0 then (0 : Int) else if er = 21 then 21 else 80) = E
    generalize hX : (if er = 0 then (⟨t, false, x.saves + 1⟩ : SS) else if er = 21 then x else ⟨x.text, true, x.saves⟩) = X
    have HE := Lib.hid hE; have HX := Lib.hid hX; clear hE hX
    have HF := Lib.hid hf; have HL := Lib.hid hL; have HN := Lib.hid hn; have HB := Lib.hid hbl; have HG := Lib.hid g; have HD := Lib.hid hd; have HBF := Lib.hid hbf
    clear hf hL hn h g hd hbl h1 h2 hbr hbf
    go_enter Tryz.func9, Tryz.ntmps9
    go_wp2_with fail
    refine HO.out.mono ?_
    rintro e w1 ⟨rfl, rfl⟩
    go_wp2_with fail
    refine HB.out.mono ?_
    rintro e w1 ⟨rfl, rfl⟩
    go_upto_region 5 with fail
    go_cut [18] (fun v18 wx => v18 = .int .i64 er ∧ Hid (SvI w D C sb b n s' x ao t wx))
    case first =>
      go_region_with (first
        | (go_at_call 30; refine HS.out.mono ?_; rintro e w1 ⟨a1, c1, rfl, ho1, b1⟩; have b1' : Below w.heap.size w w1 := Below.of_drew b1; have c01 : w1.cell? ⟨sb, 0, none⟩ = some (.pointer (some ⟨b, 0, none⟩)) := (b1'.cell (p := ⟨sb, 0, none⟩) hsb).trans c0; have HF1 := Lib.hid (HF.out w1 b1' a1 c1 (owns_lies ho1)); have B1 := Lib.hid b1'; clear ho1 b1 b1')
        | (go_at_call 29; refine HF1.out.mono ?_; rintro e w2 ⟨rfl, hj⟩; have HI := Lib.hid (SvI.of HG.out HD.out HL.out HN.out B1.out hj); clear hj))
      all_goals go_wp2_with fail
      all_goals go_meet
      all_goals exact ⟨rfl, HI⟩
    case rest =>
      obtain ⟨rfl, hi⟩ := hcut
      clear HF HS HO HB c0
      by_cases he : er = 0
      · obtain rfl : (0 : Int) = E := by rw [← HE.out, if_pos he]
        obtain rfl : (⟨t, false, x.saves + 1⟩ : SS) = X := by rw [← HX.out, if_pos he]
        clear HE HX
        subst he
        have HC := Lib.hid (clone_any ao cap t wc.heap.size wc hi.out.li (by omega))
        obtain ⟨c1, f1, c3, f3⟩ : (∃ u, wc.cell? ⟨sb, 1, none⟩ = some u) ∧ wc.frozen? ⟨sb, 1, none⟩ = false ∧ wc.cell? ⟨sb, 3, none⟩ = some (.int .i64 (x.saves : Int)) ∧ wc.frozen? ⟨sb, 3, none⟩ = false := by
          obtain ⟨_, _, _, ⟨⟨_, _, g1, _⟩, _, _⟩, _⟩ := hi.out.sv
          exact ⟨⟨_, g1.c1⟩, g1.f1, g1.c3, g1.f3⟩
        obtain ⟨u1, c1⟩ := c1
        have hsc : sb < wc.heap.size := World.block_lt_of_cell? _ _ c3
        go_wp2_with fail
        refine HC.out.mono ?_
        rintro e w3 ⟨a3, k3, rfl, ho3, b3⟩
        have d1 : w3.cell? ⟨sb, 1, none⟩ = some u1 := (b3.cell (p := ⟨sb, 1, none⟩) hsc).trans c1
        have d3 : w3.cell? ⟨sb, 3, none⟩ = some (.int .i64 (x.saves : Int)) := (b3.cell (p := ⟨sb, 3, none⟩) hsc).trans c3
        have z1 : w3.frozen? ⟨sb, 1, none⟩ = false := (b3.frozen (p := ⟨sb, 1, none⟩) hsc).trans f1
        have z3 : w3.frozen? ⟨sb, 3, none⟩ = false := (b3.frozen (p := ⟨sb, 3, none⟩) hsc).trans f3
        have HA := Lib.hid (aiadd_any sb (x.saves : Int) (w3.setCell ⟨sb, 1, none⟩ (.slice a3 t.length k3)) (by rw [World.cell?_setCell_other _ _ _ _ (by simp)]; exact d3) (by rw [World.frozen?_setCell]; exact z3) (by omega))
        have HT := Lib.hid (hi.out.sv.text ho3 b3 (by omega) (m := t.length) rfl (k := (x.saves : Int) + 1) rfl HBF.out); clear ho3 b3 HC
        go_wp2_with fail
        refine HA.out.mono ?_
        rintro e w4 ⟨rfl, rfl⟩
        go_wp2
        go_ret
        exact ⟨rfl, HT.out⟩
      · have HE2 := Lib.hid (HE.out.symm.trans (if_neg he)); have HX2 := Lib.hid (HX.out.symm.trans (if_neg he))
        clear HE HX
        have heb : (er == 0) = false := by simpa using he
        clear he
        by_cases h21 : er = 21
        · obtain rfl : E = 21 := by rw [HE2.out, if_pos h21]
          obtain rfl : X = x := by rw [HX2.out, if_pos h21]
          clear HE2 HX2
          subst h21
          go_wp2
          go_ret
          exact ⟨rfl, hi.out.sv⟩
        · obtain rfl : E = 80 := by rw [HE2.out, if_neg h21]
          obtain rfl : X = ⟨x.text, true, x.saves⟩ := by rw [HX2.out, if_neg h21]
          clear HE2 HX2
          have h21b : (er == 21) = false := by simpa using h21
          clear h21
          obtain ⟨c2, f2⟩ : (∃ u, wc.cell? ⟨sb, 2, none⟩ = some u) ∧ wc.frozen? ⟨sb, 2, none⟩ = false := by
            obtain ⟨_, _, _, ⟨⟨_, _, g1, _⟩, _, _⟩, _⟩ := hi.out.sv
            exact ⟨⟨_, g1.c2⟩, g1.f2⟩
          obtain ⟨u2, c2⟩ := c2
          have HA := Lib.hid (abstore_any sb u2 wc c2 f2)
          go_wp2_with fail
          refine HA.out.mono ?_
          rintro e w4 ⟨⟨v4, rfl⟩, rfl⟩
          go_wp2
          go_ret
          exact ⟨rfl, hi.out.sv.drew.broken⟩

end

end Go.Proofs.YtgefbolnfenfcaaGreat
