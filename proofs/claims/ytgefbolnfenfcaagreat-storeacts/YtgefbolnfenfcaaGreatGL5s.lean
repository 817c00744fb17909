/-
  Lemmas towards the claim of this folder: contracts of the functions that the law reaches; joined texts.
-/
import Derived.Test.YtgefbolnfenfcaaGreatGL5
import Derived.Test.YtgefbolnfenfcaaGreatR5
import Derived.Deep.RegionHeld
import Derived.Test.YtgefbolnfenfcaaGreatL4r
import Derived.Test.YtgefbolnfenfcaaGreatL4a
/-
  StoreActs: the store and its disk as one side, the reference's as the other; what is done on each; 'same'.
-/
namespace Go.Proofs.YtgefbolnfenfcaaGreat
open Go.RowKit Go.Mk

/-- The blocks of S have turned into those of S'. -/
structure Turn (w : World) (S S' : Nat → Prop) (w' : World) : Prop where
  sub : ∀ k, S' k → S k ∨ w.heap.size ≤ k
  kept : Kept S w w'

/-- The program's side: its disk at b, its store (or none) as the pointer sv. -/
def Side1 (w : World) (S : Nat → Prop) (b n : Nat) (s : DS) (sv : Value) (ox : Option SS) : Prop :=
  ∃ D C, DkS w D b n s ∧ (ox = none ∧ sv = .pointer none ∨ ∃ x sb, ox = some x ∧ sv = .pointer (some ⟨sb, 0, none⟩) ∧ St w C sb b x) ∧ (∀ k, D k → ¬ C k) ∧ (∀ k, D k → S k) ∧ (∀ k, C k → S k) ∧ (∀ k, S k → k < w.heap.size)
/-- The reference's. -/
def Side2 (w : World) (S : Nat → Prop) (rb n : Nat) (s : DS) (mv : Value) (ox : Option SS) : Prop :=
  ∃ M, RkS w M rb n s ∧ (ox = none ∧ mv = .pointer none ∨ ∃ x mb, ox = some x ∧ mv = .pointer (some ⟨mb, 0, none⟩) ∧ RSt w mb rb x ∧ ¬ M mb ∧ S mb) ∧ (∀ k, M k → S k) ∧ (∀ k, S k → k < w.heap.size)

/-- What Open and Format lead to. -/
def madeX (er : Int) (x : SS) : Option SS := if er = 0 then some x else none

section
variable {w w' : World} {S T : Nat → Prop} {b rb n : Nat} {s : DS} {sv mv : Value} {ox : Option SS}

theorem Side1.lt (h : Side1 w S b n s sv ox) : ∀ k, S k → k < w.heap.size := by obtain ⟨_, _, _, _, _, _, _, h⟩ := h; exact h
theorem Side2.lt (h : Side2 w S rb n s mv ox) : ∀ k, S k → k < w.heap.size := by obtain ⟨_, _, _, _, h⟩ := h; exact h

theorem Side1.kept (h : Side1 w S b n s sv ox) (hk : Kept T w w') (hs : ∀ k, S k → ¬ T k) : Side1 w' S b n s sv ox := by
  obtain ⟨D, C, h1, h2, h3, h4, h5, h6⟩ := h
  refine ⟨D, C, h1.kept hk (fun k hd => hs k (h4 k hd)), h2.imp id ?_, h3, h4, h5, fun k hk' => Nat.lt_of_lt_of_le (h6 k hk') hk.size⟩
  rintro ⟨x, sb, e1, e2, g⟩
  exact ⟨x, sb, e1, e2, g.kept hk (fun k hc => hs k (h5 k hc))⟩
theorem Side2.kept (h : Side2 w S rb n s mv ox) (hk : Kept T w w') (hs : ∀ k, S k → ¬ T k) : Side2 w' S rb n s mv ox := by
  obtain ⟨M, h1, h2, h4, h6⟩ := h
  refine ⟨M, h1.kept hk (fun k hd => hs k (h4 k hd)), h2.imp id ?_, h4, fun k hk' => Nat.lt_of_lt_of_le (h6 k hk') hk.size⟩
  rintro ⟨x, mb, e1, e2, g, g2, g3⟩
  exact ⟨x, mb, e1, e2, g.kept hk (hs _ g3), g2, g3⟩

/-- The disk alone has turned. -/
theorem Side1.turn {D C D' : Nat → Prop} {s' : DS} (h2 : ox = none ∧ sv = .pointer none ∨ ∃ x sb, ox = some x ∧ sv = .pointer (some ⟨sb, 0, none⟩) ∧ St w C sb b x) (h3 : ∀ k, D k → ¬ C k) (h4 : ∀ k, D k → S k) (h5 : ∀ k, C k → S k) (h6 : ∀ k, S k → k < w.heap.size)
    (g1 : DkS w' D' b n s') (g2 : ∀ k, D' k → D k ∨ w.heap.size ≤ k) (g3 : Kept D w w') : ∃ S', Turn w S S' w' ∧ Side1 w' S' b n s' sv ox := by
  refine ⟨fun k => D' k ∨ C k, ⟨fun k hk => hk.elim (fun h => (g2 k h).imp (h4 k) id) (fun h => .inl (h5 k h)), g3.mono (fun k _ h => h4 k h)⟩, D', C, g1, h2.imp id ?_, fun k hk hc => ?_, fun k h => .inl h, fun k h => .inr h, fun k hk => hk.elim (g1.lt k) (fun h => Nat.lt_of_lt_of_le (h6 k (h5 k h)) g3.size)⟩
  · rintro ⟨x, sb, e1, e2, g⟩
    exact ⟨x, sb, e1, e2, g.kept g3 (fun k hc hd' => h3 k hd' hc)⟩
  · rcases g2 k hk with h | h
    · exact h3 k h hc
    · have := h6 k (h5 k hc); omega

theorem Side2.turn {M M' : Nat → Prop} {s' : DS} (h2 : ox = none ∧ mv = .pointer none ∨ ∃ x mb, ox = some x ∧ mv = .pointer (some ⟨mb, 0, none⟩) ∧ RSt w mb rb x ∧ ¬ M mb ∧ S mb) (h4 : ∀ k, M k → S k)
    (g1 : RkS w' M' rb n s') (g2 : ∀ k, M' k → M k ∨ w.heap.size ≤ k) (g3 : Kept M w w') : ∃ S', Turn w S S' w' ∧ Side2 w' S' rb n s' mv ox := by
  rcases h2 with ⟨e1, e2⟩ | ⟨x, mb, e1, e2, g, g4, g5⟩
  · exact ⟨M', ⟨fun k hk => (g2 k hk).imp (h4 k) id, g3.mono (fun k _ h => h4 k h)⟩, M', g1, .inl ⟨e1, e2⟩, fun k h => h, g1.lt⟩
  · refine ⟨fun k => M' k ∨ k = mb, ⟨fun k hk => hk.elim (fun h => (g2 k h).imp (h4 k) id) (fun h => .inl (by subst h; exact g5)), g3.mono (fun k _ h => h4 k h)⟩, M', g1, .inr ⟨x, mb, e1, e2, g.kept g3 g4, fun h => ?_, .inr rfl⟩, fun k h => .inl h, fun k hk => hk.elim (g1.lt k) (fun h => by subst h; exact Nat.lt_of_lt_of_le g.lt g3.size)⟩
    rcases g2 _ h with h | h
    · exact g4 h
    · have := g.lt; omega

/-- A store was made, or none. -/
theorem Side1.made {D : Nat → Prop} {s' : DS} {er : Int} {x : SS} {e : Ending} (hs : ∀ k, D k → S k) (h : SMade w D b n s' er x e w') :
    ∃ S' sv', e = .returned (.tuple #[sv', .int .i64 er]) ∧ Turn w S S' w' ∧ Side1 w' S' b n s' sv' (madeX er x) := by
  obtain ⟨D', h1, h2, h3, h4⟩ := h
  rcases h4 with ⟨he, rfl⟩ | ⟨he, sb, C, rfl, g1, g2, g3⟩
  · exact ⟨D', _, rfl, ⟨fun k hk => (h2 k hk).imp (hs k) id, h3.mono (fun k _ h => hs k h)⟩, D', fun _ => False, h1, .inl ⟨by unfold madeX; rw [if_neg he], rfl⟩, fun _ _ h => h, fun _ h => h, fun _ h => h.elim, h1.lt⟩
  · subst he
    exact ⟨fun k => D' k ∨ C k, _, rfl, ⟨fun k hk => hk.elim (fun h => (h2 k h).imp (hs k) id) (fun h => .inr (g2 k h)), h3.mono (fun k _ h => hs k h)⟩, D', C, h1, .inr ⟨x, sb, rfl, rfl, g1⟩, g3, fun _ h => .inl h, fun _ h => .inr h, fun k hk => hk.elim (h1.lt k) (g1.lt k)⟩
theorem Side2.made {M : Nat → Prop} {s' : DS} {er : Int} {x : SS} {e : Ending} (hs : ∀ k, M k → S k) (h : RMade w M rb n s' er x e w') :
    ∃ S' mv', e = .returned (.tuple #[mv', .int .i64 er]) ∧ Turn w S S' w' ∧ Side2 w' S' rb n s' mv' (madeX er x) := by
  obtain ⟨M', h1, h2, h3, h4⟩ := h
  rcases h4 with ⟨he, rfl⟩ | ⟨he, mb, rfl, g1, g2, g3⟩
  · exact ⟨M', _, rfl, ⟨fun k hk => (h2 k hk).imp (hs k) id, h3.mono (fun k _ h => hs k h)⟩, M', h1, .inl ⟨by unfold madeX; rw [if_neg he], rfl⟩, fun _ h => h, h1.lt⟩
  · subst he
    exact ⟨fun k => M' k ∨ k = mb, _, rfl, ⟨fun k hk => hk.elim (fun h => (h2 k h).imp (hs k) id) (fun h => .inr (by subst h; exact g2)), h3.mono (fun k _ h => hs k h)⟩, M', h1, .inr ⟨x, mb, rfl, rfl, g1, g3, .inr rfl⟩, fun _ h => .inl h, fun k hk => hk.elim (h1.lt k) (fun h => by subst h; exact g1.lt)⟩

theorem Side1.img (h : Side1 w S b n s sv ox) : Calls Tryz.prog 22 #[.pointer (some ⟨b, 0, none⟩)] w fun e w' => ∃ ao cap, e = .returned (.slice ao (64 * n) cap) ∧ Lies w' w'.heap.size ao ((image s.base s.ws).map bv) ∧ Below w.heap.size w w' := by
  obtain ⟨D, C, h1, _⟩ := h
  refine (dimage_any h1).mono ?_
  rintro e w' ⟨ao, cap, rfl, ho, hb⟩
  exact ⟨ao, cap, rfl, owns_lies ho, hb⟩
theorem Side1.ilen (h : Side1 w S b n s sv ox) : (image s.base s.ws).length = 64 * n := by
  obtain ⟨D, C, h1, _⟩ := h
  exact h1.ilen
theorem Side2.img (h : Side2 w S rb n s mv ox) (hw : s.ws.length ≤ 1000000) : Calls Tryz.prog 23 #[.pointer (some ⟨rb, 0, none⟩)] w fun e w' => e = .returned (.string (bs (image s.base s.ws))) ∧ Kept (fun _ => False) w w' := by
  obtain ⟨M, h1, _⟩ := h
  exact rkimage_any h1 hw

theorem Side1.power (h : Side1 w S b n s sv ox) (c : Int) (hc : -9223372036854775808 ≤ c ∧ c ≤ 9223372036854775807) :
    Calls Tryz.prog 11 #[.pointer (some ⟨b, 0, none⟩), .int .i64 c] w fun e w' => (∃ v, e = .returned v) ∧ ∃ S', Turn w S S' w' ∧ Side1 w' S' b n ⟨s.base, s.ws, c⟩ sv ox := by
  obtain ⟨D, C, h1, h2, h3, h4, h5, h6⟩ := h
  refine (dpower_any h1 c hc).mono ?_
  rintro e w' ⟨he, hd, hk⟩
  exact ⟨he, Side1.turn (s' := ⟨s.base, s.ws, c⟩) h2 h3 h4 h5 h6 hd (fun _ h => .inl h) hk⟩
theorem Side2.power (h : Side2 w S rb n s mv ox) (c : Int) (hc : c ≤ 9223372036854775807) :
    Calls Tryz.prog 12 #[.pointer (some ⟨rb, 0, none⟩), .int .i64 c] w fun e w' => (∃ v, e = .returned v) ∧ ∃ S', Turn w S S' w' ∧ Side2 w' S' rb n ⟨s.base, s.ws, c⟩ mv ox := by
  obtain ⟨M, h1, h2, h4, h6⟩ := h
  refine (rkpower_any h1 c hc).mono ?_
  rintro e w' ⟨he, hd, hk⟩
  exact ⟨he, Side2.turn (s' := ⟨s.base, s.ws, c⟩) h2 h4 hd (fun _ h => .inl h) hk⟩

theorem Side1.crashes (h : Side1 w S b n s sv ox) (ao : Option Addr) (kcap : Nat) (ks : List Bool) (hL : Lies w w.heap.size ao (ks.map .bool)) (hn : ks ≠ [] → ∀ a, ao = some a → ¬ S a.block) (torn octets : Int) (hp : s.ws.length ≤ 1000001) (hkl : ks.length ≤ 1000001) :
    Calls Tryz.prog 13 #[.pointer (some ⟨b, 0, none⟩), .slice ao ks.length kcap, .int .i64 torn, .int .i64 octets] w fun e w' => (∃ v, e = .returned v) ∧ ∃ S', Turn w S S' w' ∧ Side1 w' S' b n ⟨crash ks torn (octs octets) 0 s.ws s.base, [], -1⟩ sv ox := by
  obtain ⟨D, C, h1, h2, h3, h4, h5, h6⟩ := h
  refine (dcrash_any h1 ao kcap ks hL (fun hne a ha hd => hn hne a ha (h4 _ hd)) torn octets hp hkl).mono ?_
  rintro e w' ⟨he, hd, hk⟩
  exact ⟨he, Side1.turn (s' := ⟨_, [], -1⟩) h2 h3 h4 h5 h6 hd (fun _ h => .inl h) hk⟩
theorem Side2.crashes (h : Side2 w S rb n s mv ox) (ao : Option Addr) (kcap : Nat) (ks : List Bool) (hL : Lies w w.heap.size ao (ks.map .bool)) (hn : ks ≠ [] → ∀ a, ao = some a → ¬ S a.block) (torn octets : Int) (hob : -9223372036854775808 ≤ octets ∧ octets ≤ 9223372036854775807) (hp : s.ws.length ≤ 1000000) (hkl : ks.length ≤ 1000000) :
    Calls Tryz.prog 14 #[.pointer (some ⟨rb, 0, none⟩), .slice ao ks.length kcap, .int .i64 torn, .int .i64 octets] w fun e w' => (∃ v, e = .returned v) ∧ ∃ S', Turn w S S' w' ∧ Side2 w' S' rb n ⟨crash ks torn (octs octets) 0 s.ws s.base, [], -1⟩ mv ox := by
  obtain ⟨M, h1, h2, h4, h6⟩ := h
  refine (rkcrash_any h1 ao kcap ks hL (fun hne a ha hd => hn hne a ha (h4 _ hd)) torn octets hob hp hkl).mono ?_
  rintro e w' ⟨he, hd, hk⟩
  exact ⟨he, Side2.turn (s' := ⟨_, [], -1⟩) h2 h4 hd (fun _ h => .inl h) hk⟩

theorem Side1.write (h : Side1 w S b n s sv ox) (k : Int) (ao : Option Addr) (cap : Nat) (l : List UInt8) (hL : Lies w w.heap.size ao (l.map bv)) (hn : l ≠ [] → ∀ a, ao = some a → ¬ S a.block) (hp : s.ws.length ≤ 1000000) :
    Calls Tryz.prog 19 #[.pointer (some ⟨b, 0, none⟩), .int .i64 k, .slice ao l.length cap] w fun e w' => e = .returned (.int .i64 (writeE n s.calls k l)) ∧ ∃ S', Turn w S S' w' ∧ Side1 w' S' b n ⟨s.base, writeW n s.calls k l s.ws, writeC n s.calls k l⟩ sv ox := by
  obtain ⟨D, C, h1, h2, h3, h4, h5, h6⟩ := h
  refine (dwrite_any h1 k ao cap l hL (fun hne a ha hd => hn hne a ha (h4 _ hd)) hp).mono ?_
  rintro e w' ⟨he, D', hd, hD, hk⟩
  exact ⟨he, Side1.turn (s' := ⟨_, _, _⟩) h2 h3 h4 h5 h6 hd hD hk⟩
theorem Side2.write (h : Side2 w S rb n s mv ox) (k : Int) (l : List UInt8) (hp : s.ws.length ≤ 1000000) :
    Calls Tryz.prog 20 #[.pointer (some ⟨rb, 0, none⟩), .int .i64 k, .string (bs l)] w fun e w' => e = .returned (.int .i64 (writeE n s.calls k l)) ∧ ∃ S', Turn w S S' w' ∧ Side2 w' S' rb n ⟨s.base, writeW n s.calls k l s.ws, writeC n s.calls k l⟩ mv ox := by
  obtain ⟨M, h1, h2, h4, h6⟩ := h
  refine (rkwrite_any h1 k l hp).mono ?_
  rintro e w' ⟨he, M', hd, hD, hk⟩
  exact ⟨he, Side2.turn (s' := ⟨_, _, _⟩) h2 h4 hd hD hk⟩

theorem Side1.opens (h : Side1 w S b n s sv ox) (hp : s.ws.length ≤ 900000) :
    Calls Tryz.prog 15 #[.pointer (some ⟨b, 0, none⟩)] w fun e w' => ∃ S' sv', e = .returned (.tuple #[sv', .int .i64 (sopenE n s)]) ∧ Turn w S S' w' ∧ Side1 w' S' b n (jrec n s).1 sv' (madeX (sopenE n s) ⟨sopenT n s, false, 0⟩) := by
  obtain ⟨D, C, h1, h2, h3, h4, h5, h6⟩ := h
  refine (sopen_any h1 hp).mono ?_
  intro e w' hm
  exact Side1.made h4 hm
theorem Side2.opens (h : Side2 w S rb n s mv ox) (hn : n ≤ 10000) (hp : s.ws.length ≤ 500000) :
    Calls Tryz.prog 16 #[.pointer (some ⟨rb, 0, none⟩)] w fun e w' => ∃ S' mv', e = .returned (.tuple #[mv', .int .i64 (sopenE n s)]) ∧ Turn w S S' w' ∧ Side2 w' S' rb n (jrec n s).1 mv' (madeX (sopenE n s) ⟨sopenT n s, false, 0⟩) := by
  obtain ⟨M, h1, h2, h4, h6⟩ := h
  refine (ropen5_any h1 hn hp).mono ?_
  intro e w' hm
  exact Side2.made h4 hm

theorem Side1.format (h : Side1 w S b n s sv ox) (ao : Option Addr) (cap : Nat) (t : List UInt8) (hL : Lies w w.heap.size ao (t.map bv)) (hn : t ≠ [] → ∀ a, ao = some a → ¬ S a.block) (ht : t.length ≤ 1000000) (hp : s.ws.length ≤ 900000) :
    Calls Tryz.prog 17 #[.pointer (some ⟨b, 0, none⟩), .slice ao t.length cap] w fun e w' => ∃ S' sv', e = .returned (.tuple #[sv', .int .i64 (jformat n (sealL t) s).2]) ∧ Turn w S S' w' ∧ Side1 w' S' b n (jformat n (sealL t) s).1 sv' (madeX (jformat n (sealL t) s).2 ⟨t, false, 0⟩) := by
  obtain ⟨D, C, h1, h2, h3, h4, h5, h6⟩ := h
  refine (sformat_any h1 ao cap t hL (fun hne a ha hd => hn hne a ha (h4 _ hd)) ht hp).mono ?_
  intro e w' hm
  exact Side1.made h4 hm
theorem Side2.format (h : Side2 w S rb n s mv ox) (t : List UInt8) (ht : t.length ≤ 1000000) (hn : n ≤ 10000) (hp : s.ws.length ≤ 700000) :
    Calls Tryz.prog 18 #[.pointer (some ⟨rb, 0, none⟩), .string (bs t)] w fun e w' => ∃ S' mv', e = .returned (.tuple #[mv', .int .i64 (jformat n (sealL t) s).2]) ∧ Turn w S S' w' ∧ Side2 w' S' rb n (jformat n (sealL t) s).1 mv' (madeX (jformat n (sealL t) s).2 ⟨t, false, 0⟩) := by
  obtain ⟨M, h1, h2, h4, h6⟩ := h
  refine (rformat5_any h1 t ht hn hp).mono ?_
  intro e w' hm
  exact Side2.made h4 hm

theorem Side1.save {x : SS} {sb : Nat} (h : Side1 w S b n s (.pointer (some ⟨sb, 0, none⟩)) (some x)) (ao : Option Addr) (cap : Nat) (t : List UInt8) (hL : Lies w w.heap.size ao (t.map bv)) (hn : t ≠ [] → ∀ a, ao = some a → ¬ S a.block) (ht : t.length ≤ 1000000) (hx : x.saves ≤ 1000000) (hp : s.ws.length ≤ 900000) :
    Calls Tryz.prog 9 #[.pointer (some ⟨sb, 0, none⟩), .slice ao t.length cap] w fun e w' => e = .returned (.int .i64 (ssaveE n t x s)) ∧ ∃ S', Turn w S S' w' ∧ Side1 w' S' b n (ssaveD n t x s) (.pointer (some ⟨sb, 0, none⟩)) (some (ssaveX n t x s)) := by
  obtain ⟨D, C, h1, h2, h3, h4, h5, h6⟩ := h
  rcases h2 with ⟨e1, _⟩ | ⟨x', sb', e1, e2, g⟩
  · cases e1
  · cases e1; cases e2
    refine (ssave_any h1 g h3 ao cap t hL (fun hne a ha hd => hn hne a ha (h4 _ hd)) ht hx hp).mono ?_
    rintro e w' ⟨rfl, D', C', g1, g2, g3, g4, g5, g6⟩
    exact ⟨rfl, fun k => D' k ∨ C' k, ⟨fun k hk => hk.elim (fun h => (g3 k h).imp (h4 k) id) (fun h => (g4 k h).imp (h5 k) id), g6.mono (fun k _ h => h.elim (h4 k) (h5 k))⟩, D', C', g1, .inr ⟨_, sb, rfl, rfl, g2⟩, g5, fun _ h => .inl h, fun _ h => .inr h, fun k hk => hk.elim (g1.lt k) (g2.lt k)⟩
theorem Side2.save {x : SS} {mb : Nat} (h : Side2 w S rb n s (.pointer (some ⟨mb, 0, none⟩)) (some x)) (t : List UInt8) (ht : t.length ≤ 1000000) (hx : x.saves ≤ 1000000) (hn : n ≤ 10000) (hp : s.ws.length ≤ 700000) :
    Calls Tryz.prog 10 #[.pointer (some ⟨mb, 0, none⟩), .string (bs t)] w fun e w' => e = .returned (.int .i64 (ssaveE n t x s)) ∧ ∃ S', Turn w S S' w' ∧ Side2 w' S' rb n (ssaveD n t x s) (.pointer (some ⟨mb, 0, none⟩)) (some (ssaveX n t x s)) := by
  obtain ⟨M, h1, h2, h4, h6⟩ := h
  rcases h2 with ⟨e1, _⟩ | ⟨x', mb', e1, e2, g, gm, gS⟩
  · cases e1
  · cases e1; cases e2
    refine (rsave5_any h1 g gm t ht hx hn hp).mono ?_
    rintro e w' ⟨rfl, M', g1, g2, g3, g4, g5⟩
    exact ⟨rfl, fun k => M' k ∨ k = mb, ⟨fun k hk => hk.elim (fun h => (g3 k h).imp (h4 k) id) (fun h => .inl (by subst h; exact gS)), g5.mono (fun k _ h => h.elim (h4 k) (fun h => by subst h; exact gS))⟩, M', g1, .inr ⟨_, mb, rfl, rfl, g2, g4, .inr rfl⟩, fun _ h => .inl h, fun k hk => hk.elim (g1.lt k) (fun h => by subst h; exact g2.lt)⟩

end

end Go.Proofs.YtgefbolnfenfcaaGreat

/-
  StoreActs: 'same'.
-/
namespace Go.Proofs.YtgefbolnfenfcaaGreat
open Go.RowKit Go.Mk

theorem same_nil (w : World) : Calls Tryz.prog 21 #[.pointer none, .pointer none] w fun e w' => e = .returned (.bool true) ∧ w = w' := by
  go_enter Tryz.func21, Tryz.ntmps21
  go_wp2_with fail
  refine (ssave_nil w (.slice none 0 0)).mono ?_
  rintro e w1 ⟨rfl, rfl⟩
  go_wp2_with fail
  refine (stext_nil w).mono ?_
  rintro e w1 ⟨rfl, rfl⟩
  go_wp2_with fail
  refine (sroom_nil w).mono ?_
  rintro e w1 ⟨rfl, rfl⟩
  go_wp2_with fail
  refine (sbroken_nil w).mono ?_
  rintro e w1 ⟨rfl, rfl⟩
  go_wp2_with fail
  refine (ssaves_nil w).mono ?_
  rintro e w1 ⟨rfl, rfl⟩
  go_wp2
  go_ret
  exact ⟨rfl, rfl⟩

section
variable {w : World} {D C : Nat → Prop} {b rb n sb mb : Nat} {s : DS} {x : SS} {base : List UInt8}

set_option maxRecDepth 100000 in
set_option maxHeartbeats 4000000 in
theorem same_some (h : DkS w D b n s) (g : St w C sb b x) (r : RSt w mb rb x) (hr0 : w.cell? ⟨rb, 0, none⟩ = some (.string (bs base))) (hbl : base.length = 64 * n) :
    Calls Tryz.prog 21 #[.pointer (some ⟨sb, 0, none⟩), .pointer (some ⟨mb, 0, none⟩)] w fun e w' => e = .returned (.bool true) ∧ Below w.heap.size w w' := by
  have hbs : ((bs base).size : Int) = 64 * n := by rw [bs_size, hbl]; omega
  have hq : (64 * (n : Int)).tdiv 64 = n := Int.mul_tdiv_cancel_left _ (by decide)
  obtain ⟨hn1, hn2⟩ := h.n1
  have hro : -1 ≤ roomI n ∧ roomI n ≤ 2097088 := by
    have ha : areaN n ≤ 32767 := by unfold areaN; omega
    rw [roomI_nat n hn1 hn2]; split <;> omega
  have m0 := r.c0
  have m1 := r.c1
  have m2 := r.c2
  have m3 := r.c3
  have hmb := r.lt
  have hrb := World.block_lt_of_cell? _ _ hr0
  have kd : Kept (fun _ => False) w w.drew := Kept.drew (Kept.refl _ w)
  have htx := stext_any (g.kept kd (fun _ _ h => h))
  have hbr := fun (w1 : World) (hb : Below w.heap.size w w1) => sbroken_any (g.fresh hb)
  have hsv := fun (w1 : World) (hb : Below w.heap.size w w1) => ssaves_any (g.fresh hb)
  have hrm := fun (w1 : World) (hb : Below w.heap.size w w1) => sroom_any (h.fresh hb) (g.fresh hb)
  have hrr := fun (w2 : World) => rroom_any n w2
  clear h g r kd
  generalize x.text = t at *
  generalize x.broken = br at *
  generalize x.saves = sv at *
  generalize roomI n = ro at *
  obtain ⟨hro1, hro2⟩ := hro
  have ew : IntKind.i64.wrap (ro - 4) = ro - 4 := by rw [IntKind.wrap_i64]; omega
  have en : IntKind.i64.wrap (n : Int) = n := by rw [IntKind.wrap_i64]; omega
  have q1 : ((bs t).toList == (bs t).toList) = true := by simp
  have q2 : (br == br) = true := by simp
  have q3 : ((sv : Int) == (sv : Int)) = true := by simp
  have q4 : (ro - 4 == ro - 4) = true := by simp
  have HTX := Lib.hid htx; have HBR := Lib.hid hbr; have HSV := Lib.hid hsv; have HRM := Lib.hid hrm; have HRR := Lib.hid hrr
  clear htx hbr hsv hrm hrr hn1 hn2 hro1 hro2 hbl
  go_enter Tryz.func21, Tryz.ntmps21
  go_wp2_with fail
  go_region_held (fun w' => w'.cell? ⟨mb, 0, none⟩ = some (.pointer (some ⟨rb, 0, none⟩)) ∧ w'.cell? ⟨mb, 1, none⟩ = some (.string (bs t)) ∧ w'.cell? ⟨mb, 2, none⟩ = some (.bool br) ∧ w'.cell? ⟨mb, 3, none⟩ = some (.int .i64 (sv : Int)) ∧ w'.cell? ⟨rb, 0, none⟩ = some (.string (bs base))) (go_keep) (first
    | (go_at_call 24; refine HTX.out.mono ?_; rintro e w1 ⟨a1, c1, rfl, hl1, b1⟩; have b1' : Below w.heap.size w w1 := Below.of_drew b1; have hs1 := run_string_of (P := Tryz.prog) w1 34 9 5 Tryz.underlying34 Tryz.underlying5 Tryz.underlying9 c1 t.length rfl hl1; have m01 := (b1'.cell (p := ⟨mb, 0, none⟩) hmb).trans m0; have m11 := (b1'.cell (p := ⟨mb, 1, none⟩) hmb).trans m1; have m21 := (b1'.cell (p := ⟨mb, 2, none⟩) hmb).trans m2; have m31 := (b1'.cell (p := ⟨mb, 3, none⟩) hmb).trans m3; have r01 := (b1'.cell (p := ⟨rb, 0, none⟩) hrb).trans hr0; have HBR1 := Lib.hid (HBR.out w1 b1'); have HSV1 := Lib.hid (HSV.out w1 b1'); have HRM1 := Lib.hid (HRM.out w1 b1'); have B1 := Lib.hid b1'; clear b1 b1' hl1)
    | (go_at_call 52; refine HBR1.out.mono ?_; rintro e wq ⟨rfl, rfl⟩)
    | (go_at_call 53; refine HSV1.out.mono ?_; rintro e wq ⟨rfl, rfl⟩)
    | (go_at_call 51; refine HRM1.out.mono ?_; rintro e w2 ⟨rfl, b2⟩; have b2' : Below w.heap.size w w2 := B1.out.trans (b2.mono B1.out.size); have m02 := (b2'.cell (p := ⟨mb, 0, none⟩) hmb).trans m0; have m12 := (b2'.cell (p := ⟨mb, 1, none⟩) hmb).trans m1; have m22 := (b2'.cell (p := ⟨mb, 2, none⟩) hmb).trans m2; have m32 := (b2'.cell (p := ⟨mb, 3, none⟩) hmb).trans m3; have r02 := (b2'.cell (p := ⟨rb, 0, none⟩) hrb).trans hr0; have HRR2 := Lib.hid (HRR.out w2); have B2 := Lib.hid b2'; clear b2 b2')
    | (go_at_call 54; refine HRR2.out.mono ?_; rintro e wq ⟨rfl, rfl⟩))
  all_goals go_wp2
  all_goals go_ret
  all_goals exact ⟨rfl, B2.out⟩
end

end Go.Proofs.YtgefbolnfenfcaaGreat

/-
  StoreActs: what holds between two acts.
-/
namespace Go.Proofs.YtgefbolnfenfcaaGreat
open Go.RowKit Go.Mk

theorem kf5 {B : Nat} {x y : World} (h : Below B x y) (hB : x.heap.size ≤ B) : Kept (fun _ => False) x y := ⟨h.os, h.tape, h.output, h.size, fun k hk _ => h.block k (by omega)⟩

theorem writeW_len5 (n : Nat) (calls k : Int) (l : List UInt8) (ws : List Wt) : (writeW n calls k l ws).length ≤ ws.length + 40 := by
  unfold writeW
  split
  · simp
  · omega

theorem same_any {w : World} {S T : Nat → Prop} {b rb n : Nat} {s : DS} {sv mv : Value} {ox : Option SS} (h1 : Side1 w S b n s sv ox) (h2 : Side2 w T rb n s mv ox) :
    Calls Tryz.prog 21 #[sv, mv] w fun e w' => e = .returned (.bool true) ∧ Below w.heap.size w w' := by
  obtain ⟨D, C, a1, a2, _⟩ := h1
  obtain ⟨M, b1, b2, _⟩ := h2
  rcases a2 with ⟨rfl, rfl⟩ | ⟨x, sb, rfl, rfl, g⟩
  · rcases b2 with ⟨_, rfl⟩ | ⟨_, _, e, _⟩
    · refine (same_nil w).mono ?_
      rintro e w' ⟨rfl, rfl⟩
      exact ⟨rfl, Below.refl _ _⟩
    · cases e
  · rcases b2 with ⟨e, _⟩ | ⟨x', mb, e, rfl, r, _⟩
    · cases e
    · cases e
      exact same_some a1 g r b1.c0 b1.n1.2.2.1

/-- What holds between two acts: both sides have the same disk and the same store. -/
structure AI5 (w wr : World) (b rb n j : Nat) (S T : Nat → Prop) (s : DS) (sv mv : Value) (ox : Option SS) : Prop where
  s1 : Side1 wr S b n s sv ox
  s2 : Side2 wr T rb n s mv ox
  st : ∀ k, S k → ¬ T k
  wl : s.ws.length ≤ 40 * j
  sx : ∀ x, ox = some x → x.saves ≤ j
  sge : ∀ k, S k → w.heap.size ≤ k
  tge : ∀ k, T k → w.heap.size ≤ k
  bel : Below w.heap.size w wr

section
variable {w wr wr' : World} {b rb n j : Nat} {S S' T T' : Nat → Prop} {s s' : DS} {sv sv' mv mv' : Value} {ox ox' : Option SS}

theorem AI5.fresh (h : AI5 w wr b rb n j S T s sv mv ox) (hk : Kept (fun _ => False) wr wr') : AI5 w wr' b rb n j S T s sv mv ox :=
  ⟨h.s1.kept hk (fun _ _ h => h), h.s2.kept hk (fun _ _ h => h), h.st, h.wl, h.sx, h.sge, h.tge, h.bel.trans (hk.below (B := w.heap.size) h.bel.size (fun _ h => h.elim))⟩

/-- Both have done the same. -/
theorem AI5.both (h : AI5 w wr b rb n j S T s sv mv ox) {wx : World} (t1 : Turn wr S S' wx) (h1 : Side1 wx S' b n s' sv' ox') (t2 : Turn wx T T' wr') (h2 : Side2 wr' T' rb n s' mv' ox') {j' : Nat} (hl : s'.ws.length ≤ 40 * j') (hx : ∀ x, ox' = some x → x.saves ≤ j') :
    AI5 w wr' b rb n j' S' T' s' sv' mv' ox' := by
  have hs := h.bel.size
  have hs2 := t1.kept.size
  have hST : ∀ k, S' k → ¬ T k := fun k g1 g2 => by
    rcases t1.sub k g1 with h3 | h3
    · exact h.st k h3 g2
    · have := h.s2.lt k g2; omega
  refine ⟨h1.kept t2.kept hST, h2, fun k g1 g2 => ?_, hl, hx, fun k hk' => ?_, fun k hk' => ?_, (h.bel.trans (t1.kept.below (B := w.heap.size) hs (fun k hk' => h.sge k hk'))).trans (t2.kept.below (B := w.heap.size) (by omega) (fun k hk' => h.tge k hk'))⟩
  · rcases t2.sub k g2 with h3 | h3
    · exact hST k g1 h3
    · have := h1.lt k g1; omega
  · rcases t1.sub k hk' with g1 | g1
    · exact h.sge k g1
    · omega
  · rcases t2.sub k hk' with g1 | g1
    · exact h.tge k g1
    · omega

/-- The reference where the program's side has been called. -/
theorem AI5.ref (h : AI5 w wr b rb n j S T s sv mv ox) {wx : World} (hk : Kept S wr wx) : Side2 wx T rb n s mv ox := h.s2.kept hk (fun k h1 h2 => h.st k h2 h1)

/-- What was there ahead of all lies on neither side. -/
theorem AI5.off (h : AI5 w wr b rb n j S T s sv mv ox) {ao : Option Addr} {vs : List Value} {wx : World} (hl : Lies wx w.heap.size ao vs) : vs ≠ [] → ∀ a, ao = some a → ¬ S a.block ∧ ¬ T a.block := fun hne a ha => by
  obtain ⟨b', o', e', hlt', _⟩ := hl hne
  rw [ha] at e'; cases e'
  exact ⟨fun h' => by have := h.sge _ h'; simp only at this; omega, fun h' => by have := h.tge _ h'; simp only at this; omega⟩
end

theorem madeX_saves {er : Int} {x y : SS} {j : Nat} (hx : x.saves = 0) (h : madeX er x = some y) : y.saves ≤ j := by
  unfold madeX at h
  split at h
  · cases h; omega
  · cases h

theorem ssaveX_saves (n : Nat) (t : List UInt8) (x : SS) (s : DS) : (ssaveX n t x s).saves ≤ x.saves + 1 := by
  unfold ssaveX
  split
  · omega
  · split
    · exact Nat.le_refl _
    · split
      · omega
      · simp
theorem ssaveD_len (n : Nat) (hn : n ≤ 16) (t : List UInt8) (x : SS) (s : DS) : (ssaveD n t x s).ws.length ≤ s.ws.length + 40 := by
  unfold ssaveD
  split
  · omega
  · exact put_len4 n hn _ s

end Go.Proofs.YtgefbolnfenfcaaGreat
