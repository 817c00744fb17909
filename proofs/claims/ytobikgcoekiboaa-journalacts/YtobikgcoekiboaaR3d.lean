/-
  CONTRACTS of the reference of layer 3 beside the disk's: its power is the disk's, of a negative number -1; M: the blocks of the reference's Disk.
-/
import Derived.Test.YtobikgcoekiboaaR3c
namespace Go.Proofs.Ytobikgcoekiboaa
open Go.RowKit Go.Mk

theorem norm_zero (c : Int) : norm c = 0 ↔ c = 0 := by unfold norm; split <;> omega
theorem norm_less (c : Int) : less (norm c) = norm (less c) := by
  rcases Int.lt_trichotomy c 0 with h | h | h
  · have e1 : norm c = -1 := by unfold norm; rw [if_pos h]
    have e2 : less c = c := by unfold less; rw [if_neg (by omega)]
    rw [e1, e2, e1]; rfl
  · subst h; rfl
  · have e1 : norm c = c := by unfold norm; rw [if_neg (by omega)]
    have e2 : less c = c - 1 := by unfold less; rw [if_pos h]
    have e3 : norm (c - 1) = c - 1 := by unfold norm; rw [if_neg (by omega)]
    rw [e1, e2, e3]
theorem writeE_norm (n : Nat) (c k : Int) (l : List UInt8) : writeE n (norm c) k l = writeE n c k l := by
  unfold writeE
  simp only [norm_zero]
theorem writeW_norm (n : Nat) (c k : Int) (l : List UInt8) (ws : List Wt) : writeW n (norm c) k l ws = writeW n c k l ws := by
  unfold writeW
  simp only [ne_eq, norm_zero]
theorem writeC_norm (n : Nat) (c k : Int) (l : List UInt8) : writeC n (norm c) k l = norm (writeC n c k l) := by
  unfold writeC
  split
  · exact norm_less c
  · rfl

structure Rk (w : World) (M : Nat → Prop) (rb n : Nat) (base : List UInt8) (ws : List Wt) (calls : Int) : Prop where
  at_ : ∃ pv, RkAt w rb n base ws pv (norm calls) ∧ ∀ g, pv.ownBlock = some g → M g
  mem : M rb
  lt : ∀ k, M k → k < w.heap.size

section
variable {w w' : World} {M : Nat → Prop} {rb n : Nat} {base : List UInt8} {ws : List Wt} {calls : Int}

theorem Rk.kept {S : Nat → Prop} (h : Rk w M rb n base ws calls) (hk : Kept S w w') (hs : ∀ k, M k → ¬ S k) : Rk w' M rb n base ws calls := by
  obtain ⟨pv, h1, h5⟩ := h.at_
  exact ⟨⟨pv, h1.kept hk (hs rb h.mem) (fun g hg => hs g (h5 g hg)), h5⟩, h.mem, fun k hk' => Nat.lt_of_lt_of_le (h.lt k hk') hk.size⟩

theorem rknew_any (w : World) (n : Nat) (h1 : 1 ≤ n) (h2 : n ≤ 10000) :
    Calls Try.prog 11 #[.int .i64 n] w fun e w' => ∃ rb M, e = .returned (.pointer (some ⟨rb, 0, none⟩)) ∧ Rk w' M rb n (List.replicate (64 * n) 0) [] (-1) ∧ (∀ k, M k → w.heap.size ≤ k) ∧ Below w.heap.size w w' := by
  refine (rnew_any w n h1 h2).mono ?_
  rintro e w1 ⟨rb, rfl, hx, hrb, hb⟩
  exact ⟨rb, fun k => w.heap.size ≤ k ∧ k < w1.heap.size, rfl, ⟨⟨_, hx, by simp [Value.ownBlock]⟩, ⟨hrb, hx.lt⟩, fun k hk => hk.2⟩, fun k hk => hk.1, hb⟩

theorem rkimage_any (h : Rk w M rb n base ws calls) (hw : ws.length ≤ 1000000) :
    Calls Try.prog 30 #[.pointer (some ⟨rb, 0, none⟩)] w fun e w' => e = .returned (.string (bs (image base ws))) ∧ Kept (fun _ => False) w w' := by
  obtain ⟨pv, h1, h5⟩ := h.at_
  exact rimage_any h1 hw

theorem rkpower_any (h : Rk w M rb n base ws calls) (c : Int) (hc : c ≤ 9223372036854775807) :
    Calls Try.prog 19 #[.pointer (some ⟨rb, 0, none⟩), .int .i64 c] w fun e w' => (∃ v, e = .returned v) ∧ Rk w' M rb n base ws c ∧ Kept M w w' := by
  obtain ⟨pv, h1, h5⟩ := h.at_
  refine (rpower_any h1 c hc).mono ?_
  rintro e w1 ⟨he, hx, hk⟩
  exact ⟨he, ⟨⟨pv, hx, h5⟩, h.mem, fun k hk' => Nat.lt_of_lt_of_le (h.lt k hk') hk.size⟩, hk.mono (fun k _ e => by rw [e]; exact h.mem)⟩

theorem rksync_any (h : Rk w M rb n base ws calls) (hw : ws.length ≤ 1000000) :
    Calls Try.prog 74 #[.pointer (some ⟨rb, 0, none⟩)] w fun e w' => e = .returned (.int .i64 (if calls = 0 then 20 else 0)) ∧
      Rk w' M rb n (if calls = 0 then base else image base ws) (if calls = 0 then ws else []) (less calls) ∧ Kept M w w' := by
  obtain ⟨pv, h1, h5⟩ := h.at_
  refine (rsync_any h1 hw).mono ?_
  rintro e w1 ⟨he, ⟨pv', hx, hp⟩, hk⟩
  simp only [norm_zero] at he hx
  rw [norm_less] at hx
  refine ⟨he, ⟨⟨pv', hx, fun g hg => ?_⟩, h.mem, fun k hk' => Nat.lt_of_lt_of_le (h.lt k hk') hk.size⟩, hk.mono (fun k _ e => by rw [e]; exact h.mem)⟩
  rcases hp with rfl | hp
  · exact h5 g hg
  · rw [hp] at hg; cases hg

theorem rkwrite_any (h : Rk w M rb n base ws calls) (k : Int) (l : List UInt8) (hp : ws.length ≤ 1000000) :
    Calls Try.prog 26 #[.pointer (some ⟨rb, 0, none⟩), .int .i64 k, .string (bs l)] w fun e w' => e = .returned (.int .i64 (writeE n calls k l)) ∧
      ∃ M', Rk w' M' rb n base (writeW n calls k l ws) (writeC n calls k l) ∧ (∀ i, M' i → M i ∨ w.heap.size ≤ i) ∧ Kept M w w' := by
  obtain ⟨pv, h1, h5⟩ := h.at_
  by_cases hk : (0 ≤ k ∧ k < n) ∧ l.length = 64
  · by_cases hc : calls = 0
    · subst hc
      have e1 : writeE n 0 k l = 20 := by unfold writeE; rw [if_pos hk, if_pos rfl]
      have e2 : writeW n 0 k l ws = ws := by unfold writeW; rw [if_neg (by simp)]
      have e3 : writeC n 0 k l = 0 := by unfold writeC; rw [if_pos hk]; rfl
      rw [e1, e2, e3]
      refine (rwrite_off h1 k l hk.1 hk.2).mono ?_
      rintro e w1 ⟨rfl, hx, hkk⟩
      exact ⟨rfl, M, ⟨⟨pv, hx, h5⟩, h.mem, fun i hi => Nat.lt_of_lt_of_le (h.lt i hi) hkk.size⟩, fun i hi => .inl hi, hkk.mono (fun i _ e => by rw [e]; exact h.mem)⟩
    · have e1 : writeE n calls k l = 0 := by unfold writeE; rw [if_pos hk, if_neg hc]
      have e2 : writeW n calls k l ws = ws ++ [⟨k.toNat, l⟩] := by unfold writeW; rw [if_pos ⟨hk, hc⟩]
      have e3 : writeC n calls k l = less calls := by unfold writeC; rw [if_pos hk]
      rw [e1, e2, e3]
      obtain ⟨q, rfl⟩ : ∃ q : Nat, k = q := ⟨k.toNat, by omega⟩
      rw [show ((q : Int)).toNat = q by omega]
      refine (rwrite_ok h1 q (by omega) l hk.2 (fun e => hc ((norm_zero _).1 e)) hp).mono ?_
      rintro e w1 ⟨rfl, ⟨pv', hx, hpv⟩, hkk⟩
      rw [norm_less] at hx
      have hok := hx.own
      refine ⟨rfl, fun i => M i ∨ (w.heap.size ≤ i ∧ i < w1.heap.size), ⟨⟨pv', hx, fun g hg => .inr ⟨hpv g hg, (owns_lt hok g hg).2⟩⟩, .inl h.mem, fun i hi => ?_⟩, fun i hi => hi.imp id (·.1), hkk.mono (fun i _ e => by rw [e]; exact h.mem)⟩
      rcases hi with hi | hi
      · exact Nat.lt_of_lt_of_le (h.lt i hi) hkk.size
      · exact hi.2
  · have e1 : writeE n calls k l = 2 := by unfold writeE; rw [if_neg hk]
    have e2 : writeW n calls k l ws = ws := by unfold writeW; rw [if_neg (fun h => hk h.1)]
    have e3 : writeC n calls k l = calls := by unfold writeC; rw [if_neg hk]
    rw [e1, e2, e3]
    refine (rwrite_bad h1 k l hk).mono ?_
    rintro e w1 ⟨rfl, rfl⟩
    exact ⟨rfl, M, h, fun i hi => .inl hi, Kept.refl _ _⟩

theorem rkcrash_any (h : Rk w M rb n base ws calls) (ao : Option Addr) (kcap : Nat) (ks : List Bool) (hL : Lies w w.heap.size ao (ks.map .bool)) (hn : ks ≠ [] → ∀ a, ao = some a → ¬ M a.block) (torn octets : Int) (hob : -9223372036854775808 ≤ octets ∧ octets ≤ 9223372036854775807) (hp : ws.length ≤ 1000000) (hkl : ks.length ≤ 1000000) :
    Calls Try.prog 21 #[.pointer (some ⟨rb, 0, none⟩), .slice ao ks.length kcap, .int .i64 torn, .int .i64 octets] w fun e w' => (∃ v, e = .returned v) ∧
      Rk w' M rb n (crash ks torn (octs octets) 0 ws base) [] (-1) ∧ Kept M w w' := by
  obtain ⟨pv, h1, h5⟩ := h.at_
  refine (rcrash_any h1 ao kcap ks hL (fun hne a ha e => hn hne a ha (by rw [e]; exact h.mem)) torn octets hob hp hkl).mono ?_
  rintro e w1 ⟨he, hx, hk⟩
  exact ⟨he, ⟨⟨_, hx, by simp [Value.ownBlock]⟩, h.mem, fun i hi => Nat.lt_of_lt_of_le (h.lt i hi) hk.size⟩, hk.mono (fun i _ e => by rw [e]; exact h.mem)⟩

end

end Go.Proofs.Ytobikgcoekiboaa
