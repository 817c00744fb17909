/-
  CONTRACTS of package disk in the document's terms: what is sure, what waits, what the power allows; D: the blocks of the Disk.
-/
import Derived.Test.YtgefbolnfenfcaaGreatDc
namespace Go.Proofs.YtgefbolnfenfcaaGreat
open Go.RowKit Go.Mk

structure Dk (w : World) (D : Nat → Prop) (b n : Nat) (base : List UInt8) (ws : List Wt) (calls : Int) : Prop where
  at_ : ∃ gi tail im ps pv, DkAt w b gi tail im ps pv n calls ∧ Chain base ps im ∧ ws = ps.map Pd.wt ∧ D gi ∧ ∀ g, pv.ownBlock = some g → D g
  len : base.length = 64 * n
  mem : D b
  lt : ∀ k, D k → k < w.heap.size

section
variable {w w' : World} {D : Nat → Prop} {b n : Nat} {base : List UInt8} {ws : List Wt} {calls : Int}

theorem Dk.kept {S : Nat → Prop} (h : Dk w D b n base ws calls) (hk : Kept S w w') (hs : ∀ k, D k → ¬ S k) : Dk w' D b n base ws calls := by
  obtain ⟨gi, tail, im, ps, pv, h1, h2, h3, h4, h5⟩ := h.at_
  exact ⟨⟨gi, tail, im, ps, pv, h1.kept hk (hs b h.mem) (hs gi h4) (fun g hg => hs g (h5 g hg)), h2, h3, h4, h5⟩, h.len, h.mem, fun k hk' => Nat.lt_of_lt_of_le (h.lt k hk') hk.size⟩

theorem Dk.ok (h : Dk w D b n base ws calls) : ∀ x ∈ ws, x.ok n := by
  obtain ⟨gi, tail, im, ps, pv, h1, h2, rfl, h4, h5⟩ := h.at_
  intro x hx
  obtain ⟨p, hp, rfl⟩ := List.mem_map.1 hx
  exact ⟨(h1.ok p hp).1, (h1.ok p hp).2.2⟩

theorem Dk.n1 (h : Dk w D b n base ws calls) : 1 ≤ n ∧ n ≤ 65536 := by
  obtain ⟨gi, tail, im, ps, pv, h1, _⟩ := h.at_
  exact ⟨h1.n1, h1.n2⟩
theorem Dk.cb (h : Dk w D b n base ws calls) : -9223372036854775808 ≤ calls ∧ calls ≤ 9223372036854775807 := by
  obtain ⟨gi, tail, im, ps, pv, h1, _⟩ := h.at_
  exact h1.cb
theorem Dk.ilen (h : Dk w D b n base ws calls) : (image base ws).length = 64 * n := image_length ws base h.len h.ok

theorem dnew_any (w : World) (n : Nat) (h1 : 1 ≤ n) (h2 : n ≤ 65536) :
    Calls Tryz.prog 7 #[.int .i64 n] w fun e w' => ∃ b D, e = .returned (.tuple #[.pointer (some ⟨b, 0, none⟩), .int .i64 0]) ∧ Dk w' D b n (List.replicate (64 * n) 0) [] (-1) ∧ (∀ k, D k → w.heap.size ≤ k) ∧ Below w.heap.size w w' := by
  refine (new_any w n h1 h2).mono ?_
  rintro e w1 ⟨rfl, hx, hb⟩
  refine ⟨w.heap.size + 1, fun k => w.heap.size ≤ k ∧ k < w1.heap.size, rfl, ⟨⟨w.heap.size, [], _, [], _, hx, rfl, rfl, ⟨Nat.le_refl _, hx.lt2⟩, by simp [Value.ownBlock]⟩, by simp, ⟨by omega, hx.lt⟩, fun k hk => hk.2⟩, fun k hk => hk.1, hb⟩

theorem dsize_any (h : Dk w D b n base ws calls) : Calls Tryz.prog 84 #[.pointer (some ⟨b, 0, none⟩)] w fun e w' => e = .returned (.int .i64 n) ∧ w' = w := by
  obtain ⟨gi, tail, im, ps, pv, h1, _⟩ := h.at_
  exact size_any h1

theorem dimage_any (h : Dk w D b n base ws calls) : Calls Tryz.prog 22 #[.pointer (some ⟨b, 0, none⟩)] w fun e w' => ∃ ao' cap', e = .returned (.slice ao' (64 * n) cap') ∧
    w'.ownsRow w.heap.size 5 1 (.slice ao' (64 * n) cap') (64 * n) ((image base ws).map bv) ∧ Below w.heap.size w w' := by
  obtain ⟨gi, tail, im, ps, pv, h1, h2, rfl, _⟩ := h.at_
  rw [← h2.image]
  exact image_any h1

theorem dpower_any (h : Dk w D b n base ws calls) (c : Int) (hc : -9223372036854775808 ≤ c ∧ c ≤ 9223372036854775807) :
    Calls Tryz.prog 11 #[.pointer (some ⟨b, 0, none⟩), .int .i64 c] w fun e w' => (∃ v, e = .returned v) ∧ Dk w' D b n base ws c ∧ Kept D w w' := by
  obtain ⟨gi, tail, im, ps, pv, h1, h2, h3, h4, h5⟩ := h.at_
  refine (power_any h1 c hc).mono ?_
  rintro e w1 ⟨he, hx, hk⟩
  exact ⟨he, ⟨⟨gi, tail, im, ps, pv, hx, h2, h3, h4, h5⟩, h.len, h.mem, fun k hk' => Nat.lt_of_lt_of_le (h.lt k hk') hk.size⟩, hk.mono (fun k _ e => by rw [e]; exact h.mem)⟩

theorem dsync_any (h : Dk w D b n base ws calls) :
    Calls Tryz.prog 61 #[.pointer (some ⟨b, 0, none⟩)] w fun e w' => e = .returned (.int .i64 (if calls = 0 then 20 else 0)) ∧
      Dk w' D b n (if calls = 0 then base else image base ws) (if calls = 0 then ws else []) (less calls) ∧ Kept D w w' := by
  obtain ⟨gi, tail, im, ps, pv, h1, h2, h3, h4, h5⟩ := h.at_
  refine (sync_any h1).mono ?_
  rintro e w1 ⟨he, ⟨pv', hx, hp⟩, hk⟩
  have hpv : ∀ g, pv'.ownBlock = some g → D g := fun g hg => by
    rcases hp with rfl | hp
    · exact h5 g hg
    · rw [hp] at hg; cases hg
  refine ⟨he, ⟨⟨gi, tail, im, _, pv', hx, ?_, ?_, h4, hpv⟩, ?_, h.mem, fun k hk' => Nat.lt_of_lt_of_le (h.lt k hk') hk.size⟩, hk.mono (fun k _ e => by rw [e]; exact h.mem)⟩
  · split
    · exact h2
    · subst h3; exact h2.image
  · split
    · exact h3
    · rfl
  · split
    · exact h.len
    · exact h.ilen

/-- What waits behind a Write, and what is left of the power. -/
def writeW (n : Nat) (calls : Int) (k : Int) (l : List UInt8) (ws : List Wt) : List Wt := if ((0 ≤ k ∧ k < n) ∧ l.length = 64) ∧ calls ≠ 0 then ws ++ [⟨k.toNat, l⟩] else ws
def writeC (n : Nat) (calls : Int) (k : Int) (l : List UInt8) : Int := if (0 ≤ k ∧ k < n) ∧ l.length = 64 then less calls else calls

theorem dwrite_any (h : Dk w D b n base ws calls) (k : Int) (ao : Option Addr) (cap : Nat) (l : List UInt8) (hL : Lies w w.heap.size ao (l.map bv)) (hn : l ≠ [] → ∀ a, ao = some a → ¬ D a.block) (hp : ws.length ≤ 1000000) :
    Calls Tryz.prog 19 #[.pointer (some ⟨b, 0, none⟩), .int .i64 k, .slice ao l.length cap] w fun e w' => e = .returned (.int .i64 (writeE n calls k l)) ∧
      ∃ D', Dk w' D' b n base (writeW n calls k l ws) (writeC n calls k l) ∧ (∀ i, D' i → D i ∨ w.heap.size ≤ i) ∧ Kept D w w' := by
  obtain ⟨gi, tail, im, ps, pv, h1, h2, h3, h4, h5⟩ := h.at_
  by_cases hk : (0 ≤ k ∧ k < n) ∧ l.length = 64
  · by_cases hc : calls = 0
    · subst hc
      have e1 : writeE n 0 k l = 20 := by unfold writeE; rw [if_pos hk, if_pos rfl]
      have e2 : writeW n 0 k l ws = ws := by unfold writeW; rw [if_neg (by simp)]
      have e3 : writeC n 0 k l = 0 := by unfold writeC; rw [if_pos hk]; rfl
      rw [e1, e2, e3, hk.2]
      refine (write_off h1 k ao cap hk.1).mono ?_
      rintro e w1 ⟨rfl, hx, hkk⟩
      exact ⟨rfl, D, ⟨⟨gi, tail, im, ps, pv, hx, h2, h3, h4, h5⟩, h.len, h.mem, fun i hi => Nat.lt_of_lt_of_le (h.lt i hi) hkk.size⟩, fun i hi => .inl hi, hkk.mono (fun i _ e => by rw [e]; exact h.mem)⟩
    · have e1 : writeE n calls k l = 0 := by unfold writeE; rw [if_pos hk, if_neg hc]
      have e2 : writeW n calls k l ws = ws ++ [⟨k.toNat, l⟩] := by unfold writeW; rw [if_pos ⟨hk, hc⟩]
      have e3 : writeC n calls k l = less calls := by unfold writeC; rw [if_pos hk]
      rw [e1, e2, e3, hk.2]
      have hne : l ≠ [] := fun e => by rw [e] at hk; simp at hk
      have hnn := hn hne
      obtain ⟨q, rfl⟩ : ∃ q : Nat, k = q := ⟨k.toNat, by omega⟩
      rw [show ((q : Int)).toNat = q by omega]
      refine (write_ok h1 q (by omega) ao cap l hk.2 hL (fun a ha => ⟨fun e => hnn a ha (h5 _ e), fun e => hnn a ha (by rw [e]; exact h.mem)⟩) hc (by rw [h3, List.length_map] at hp; exact hp)).mono ?_
      rintro e w1 ⟨rfl, ⟨pv', hx, hpv⟩, hkk⟩
      have hok := hx.own
      refine ⟨rfl, fun i => D i ∨ (w.heap.size ≤ i ∧ i < w1.heap.size), ⟨⟨gi, tail, _, _, pv', hx, h2.snoc q l, by rw [List.map_append, ← h3]; rfl, .inl h4, fun g hg => ?_⟩, h.len, .inl h.mem, fun i hi => ?_⟩, fun i hi => hi.imp id (·.1), hkk.mono (fun i _ e => ?_)⟩
      · rcases hpv with e | ⟨g', e, hg'⟩
        · rw [e] at hg; exact .inl (h5 g hg)
        · rw [e] at hg; cases hg
          exact .inr ⟨hg', (owns_lt hok _ e).2⟩
      · rcases hi with hi | hi
        · exact Nat.lt_of_lt_of_le (h.lt i hi) hkk.size
        · exact hi.2
      · rcases e with e | e | e
        · rw [e]; exact h.mem
        · rw [e]; exact h4
        · exact h5 i e
  · have e1 : writeE n calls k l = 2 := by unfold writeE; rw [if_neg hk]
    have e2 : writeW n calls k l ws = ws := by unfold writeW; rw [if_neg (fun h => hk h.1)]
    have e3 : writeC n calls k l = calls := by unfold writeC; rw [if_neg hk]
    rw [e1, e2, e3]
    refine (write_bad h1 k ao cap l.length hk).mono ?_
    rintro e w1 ⟨rfl, rfl⟩
    exact ⟨rfl, D, h, fun i hi => .inl hi, Kept.refl _ _⟩

theorem dcrash_any (h : Dk w D b n base ws calls) (ao : Option Addr) (kcap : Nat) (ks : List Bool) (hL : Lies w w.heap.size ao (ks.map .bool)) (hn : ks ≠ [] → ∀ a, ao = some a → ¬ D a.block) (torn octets : Int) (hp : ws.length ≤ 1000001) (hkl : ks.length ≤ 1000001) :
    Calls Tryz.prog 13 #[.pointer (some ⟨b, 0, none⟩), .slice ao ks.length kcap, .int .i64 torn, .int .i64 octets] w fun e w' => (∃ v, e = .returned v) ∧
      Dk w' D b n (crash ks torn (octs octets) 0 ws base) [] (-1) ∧ Kept D w w' := by
  obtain ⟨gi, tail, im, ps, pv, h1, h2, rfl, h4, h5⟩ := h.at_
  have hok := h.ok
  refine (crash_any h1 base h2 h.len ao kcap ks hL (fun hne a ha e => hn hne a ha (by rw [e]; exact h4)) torn octets (by rw [List.length_map] at hp; exact hp) hkl).mono ?_
  rintro e w1 ⟨he, hx, hk⟩
  refine ⟨he, ⟨⟨gi, tail, _, [], _, hx, rfl, rfl, h4, by simp [Value.ownBlock]⟩, crash_length _ _ _ _ _ _ h.len hok, h.mem, fun i hi => Nat.lt_of_lt_of_le (h.lt i hi) hk.size⟩, hk.mono (fun i _ e => ?_)⟩
  rcases e with e | e
  · rw [e]; exact h.mem
  · rw [e]; exact h4

end

end Go.Proofs.YtgefbolnfenfcaaGreat
