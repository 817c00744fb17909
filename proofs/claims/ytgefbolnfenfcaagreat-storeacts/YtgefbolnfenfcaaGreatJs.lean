/-
  CONTRACTS of package journal: the steps (writing, its closure, Sync as a method value), inOrder.
-/
import Derived.Test.YtgefbolnfenfcaaGreatJt
namespace Go.Proofs.YtgefbolnfenfcaaGreat
open Go.RowKit Go.Mk

/-- A disk in memory, its state as one. -/
abbrev DkS (w : World) (D : Nat → Prop) (b n : Nat) (s : DS) : Prop := Dk w D b n s.base s.ws s.calls

/-- The error, and the state, behind one call. -/
def powE (c : Int) : Int := if c = 0 then 20 else 0
def DS.step (s : DS) (o : Jop) : DS := if s.calls = 0 then s else s.app o
theorem run_one (s : DS) (o : Jop) (ops : List Jop) : DS.run (o :: ops) s = if s.calls = 0 then (s, 20) else DS.run ops (s.step o) := by
  simp only [DS.run, DS.step]
  split <;> rfl

section
variable {w : World} {D : Nat → Prop} {b n : Nat} {s : DS}

/-- Write of a whole sector that is there. -/
theorem jwrite_any (h : DkS w D b n s) (k : Nat) (kI : Int) (hkI : kI = k) (hk : k < n) (g off len cap : Nat) (l : List UInt8) (hl : l.length = 64) (hlen : len = 64) (hL : Lies w w.heap.size (some ⟨g, off, none⟩) (l.map bv)) (hn : ¬ D g) (hp : s.ws.length ≤ 1000000) :
    Calls Tryz.prog 19 #[.pointer (some ⟨b, 0, none⟩), .int .i64 kI, .slice (some ⟨g, off, none⟩) len cap] w fun e w' => e = .returned (.int .i64 (powE s.calls)) ∧
      ∃ D', DkS w' D' b n (s.step (.wr ⟨k, l⟩)) ∧ (∀ i, D' i → D i ∨ w.heap.size ≤ i) ∧ Kept D w w' := by
  subst hkI hlen
  rw [← hl]
  have hw := dwrite_any h k (some ⟨g, off, none⟩) cap l hL (fun _ a ha => by cases ha; exact hn) hp
  have hc : (0 ≤ (k : Int) ∧ (k : Int) < n) ∧ l.length = 64 := ⟨by omega, hl⟩
  refine hw.mono ?_
  rintro e w' ⟨rfl, D', h1, h2, h3⟩
  unfold writeE
  unfold writeW writeC at h1
  rw [if_pos hc] at h1 ⊢
  refine ⟨rfl, D', ?_, h2, h3⟩
  unfold DS.step
  by_cases h0 : s.calls = 0
  · rw [if_neg (by simp [h0])] at h1
    rw [if_pos h0]
    rw [show less s.calls = s.calls by rw [h0]; rfl] at h1
    exact h1
  · rw [if_pos ⟨hc, h0⟩] at h1
    rw [if_neg h0]
    exact h1

theorem jsync_any (h : DkS w D b n s) :
    Calls Tryz.prog 61 #[.pointer (some ⟨b, 0, none⟩)] w fun e w' => e = .returned (.int .i64 (powE s.calls)) ∧
      DkS w' D b n (s.step .sync) ∧ Kept D w w' := by
  refine (dsync_any h).mono ?_
  rintro e w' ⟨rfl, h1, h2⟩
  refine ⟨rfl, ?_, h2⟩
  unfold DS.step
  by_cases h0 : s.calls = 0
  · rw [if_pos h0, if_pos h0, show less s.calls = s.calls by rw [h0]; rfl] at h1
    rw [if_pos h0]; exact h1
  · rw [if_neg h0, if_neg h0] at h1
    rw [if_neg h0]; exact h1

end

/-- What the closure of 'writing' has captured. -/
structure WrtAt (w : World) (D : Nat → Prop) (b n k : Nat) (l : List UInt8) (xb xd xk g off cap : Nat) : Prop where
  c0 : w.cell? ⟨xb, 0, none⟩ = some (.slice (some ⟨g, off, none⟩) l.length cap)
  c1 : w.cell? ⟨xd, 0, none⟩ = some (.pointer (some ⟨b, 0, none⟩))
  c2 : w.cell? ⟨xk, 0, none⟩ = some (.int .i64 (k : Int))
  lies : Lies w w.heap.size (some ⟨g, off, none⟩) (l.map bv)
  le : l.length ≤ cap
  max : cap ≤ maxLen
  n0 : ¬ D xb
  n1 : ¬ D xd
  n2 : ¬ D xk
  n3 : ¬ D g
  fit : k + l.length / 64 ≤ n
  nl : l ≠ []

theorem WrtAt.lts {w : World} {D : Nat → Prop} {b n k : Nat} {l : List UInt8} {xb xd xk g off cap : Nat} (h : WrtAt w D b n k l xb xd xk g off cap) : xb < w.heap.size ∧ xd < w.heap.size ∧ xk < w.heap.size ∧ g < w.heap.size := by
  refine ⟨World.block_lt_of_cell? _ _ h.c0, World.block_lt_of_cell? _ _ h.c1, World.block_lt_of_cell? _ _ h.c2, ?_⟩
  obtain ⟨b', off', e, hlt, _⟩ := h.lies (fun e => h.nl (List.map_eq_nil_iff.1 e))
  cases e
  exact hlt

theorem WrtAt.kept {w w' : World} {D D' : Nat → Prop} {b n k : Nat} {l : List UInt8} {xb xd xk g off cap : Nat} (h : WrtAt w D b n k l xb xd xk g off cap) (hk : Kept D w w') (hD : ∀ i, D' i → D i ∨ w.heap.size ≤ i) : WrtAt w' D' b n k l xb xd xk g off cap := by
  obtain ⟨l0, l1, l2, l3⟩ := h.lts
  have nd : ∀ x, ¬ D x → x < w.heap.size → ¬ D' x := fun x h1 h2 h3 => by rcases hD x h3 with h | h; exact h1 h; omega
  exact ⟨(hk.cell (p := ⟨xb, 0, none⟩) l0 h.n0).trans h.c0, (hk.cell (p := ⟨xd, 0, none⟩) l1 h.n1).trans h.c1, (hk.cell (p := ⟨xk, 0, none⟩) l2 h.n2).trans h.c2,
    (h.lies.kept hk (fun _ a ha => by cases ha; exact h.n3)).mono hk.size, h.le, h.max, nd _ h.n0 l0, nd _ h.n1 l1, nd _ h.n2 l2, nd _ h.n3 l3, h.fit, h.nl⟩

theorem lies_sec {w : World} {B g off : Nat} {l : List UInt8} (h : Lies w B (some ⟨g, off, none⟩) (l.map bv)) (i : Nat) : Lies w B (some ⟨g, off + i * 64, none⟩) ((sec l i).map bv) := by
  have := (h.drop (64 * i)).take 64
  rw [← List.map_drop, ← List.map_take] at this
  simpa [sec, Addr.add_lit, Nat.mul_comm] using this

section
variable {w : World} {D : Nat → Prop} {b n : Nat} {s : DS}

set_option maxHeartbeats 1000000 in
set_option maxRecDepth 100000 in
theorem jwriting_any (h : DkS w D b n s) (k : Nat) (l : List UInt8) (xb xd xk g off cap m : Nat) (hW : WrtAt w D b n k l xb xd xk g off cap) (hm : l.length = 64 * m) (hp : s.ws.length + m ≤ 1000000) :
    Calls Tryz.prog 93 #[.pointer (some ⟨xb, 0, none⟩), .pointer (some ⟨xd, 0, none⟩), .pointer (some ⟨xk, 0, none⟩)] w fun e w' => e = .returned (.int .i64 (DS.run (secs k l) s).2) ∧
      ∃ D', DkS w' D' b n (DS.run (secs k l) s).1 ∧ (∀ i, D' i → D i ∨ w.heap.size ≤ i) ∧ Kept D w w' := by
  have hl64 : l.length / 64 = m := by omega
  have hkn : k + m ≤ n := by have := hW.fit; omega
  obtain ⟨hn1, hn2⟩ := h.n1
  have c0 := hW.c0
  have hle := hW.le
  have hmx := hW.max
  unfold maxLen at hmx
  rw [hm] at hle
  rw [hm] at c0
  have H := Lib.hid h; have HW := Lib.hid hW; clear h hW
  go_enter Tryz.func93, Tryz.ntmps93
  go_wp2
  go_loopg [9] m (fun q c wr => ∃ (i : Nat) (s' : DS) (D' : Nat → Prop), q = m - i ∧ i ≤ m ∧ c = .int .i64 (i : Int) ∧ Hid (DkS wr D' b n s') ∧ Hid (DS.run (secs k l) s = DS.run ((secs k l).drop i) s') ∧ Hid (∀ x, D' x → D x ∨ w.heap.size ≤ x) ∧ Hid (Kept D w wr) ∧ Hid (s'.ws.length ≤ s.ws.length + i))
  case atStart => exact ⟨0, s, D, rfl, by omega, rfl, H, Lib.hid rfl, Lib.hid (fun _ h => .inl h), Lib.hid (Kept.refl _ _), Lib.hid (by omega)⟩
  case round =>
    obtain ⟨i, s', D', hq, hi, rfl, hd, hrun, hD, hk, hws⟩ := hrel
    have HQ := Lib.hid hq; clear hq
    by_cases hlt : i < m
    · have hWr := HW.out.kept hk.out hD.out
      have hsl : (sec l i).length = 64 := by unfold sec; rw [List.length_take, List.length_drop]; omega
      have q0 := hWr.c0
      have q1 := hWr.c1
      have q2 := hWr.c2
      rw [hm] at q0
      have hdd : DkS wr.drew D' b n s' := hd.out.kept (Kept.drew (Kept.refl (fun _ => False) wr)) (fun _ _ h => h)
      have hcall := jwrite_any hdd (k + i) ((k : Int) + (i : Int)) (by omega) (by omega) g (off + i * 64) ((i + 1) * 64 - i * 64) (cap - i * 64) (sec l i) hsl (by omega)
        ((lies_sec hWr.lies i).kept (Kept.drew (Kept.refl (fun _ => False) wr)) (fun _ _ _ h => h)) hWr.n3 (by have := hws.out; omega)
      have hdr := secs_drop k l i (by omega)
      have hne : ¬ cap = i * 64 := by omega
      have hlo : (0 : Int) ≤ (i : Int) * 64 := by omega
      have hlh : (i : Int) * 64 ≤ ((i : Int) + 1) * 64 := by omega
      have hhc : ((i : Int) + 1) * 64 ≤ (cap : Int) := by omega
      have hv1 : IntKind.i64.wrap ((i : Int) * 64) = (i : Int) * 64 := by rw [IntKind.wrap_i64]; omega
      have hv2 : IntKind.i64.wrap ((i : Int) + 1) = (i : Int) + 1 := by rw [IntKind.wrap_i64]; omega
      have hv3 : IntKind.i64.wrap (((i : Int) + 1) * 64) = ((i : Int) + 1) * 64 := by rw [IntKind.wrap_i64]; omega
      have hv4 : IntKind.i64.wrap ((k : Int) + (i : Int)) = (k : Int) + (i : Int) := by rw [IntKind.wrap_i64]; omega
      have hln : ((i : Int) * 64).toNat = i * 64 := by omega
      have hhn : (((i : Int) + 1) * 64).toNat = (i + 1) * 64 := by omega
      have HC := Lib.hid hcall; have HDR := Lib.hid hdr; have HWR := Lib.hid hWr; clear hcall hdr hdd hWr hsl
      go_wp2_with fail
      go_cut [5] (fun v wx => v = .int .i64 (powE s'.calls) ∧ ∃ D2, Hid (DkS wx D2 b n (s'.step (.wr ⟨k + i, sec l i⟩))) ∧ Hid (∀ x, D2 x → D' x ∨ wr.heap.size ≤ x) ∧ Hid (Kept D' wr wx))
      case first =>
        go_region_with (go_at_call 19; refine HC.out.mono ?_; rintro e w2 ⟨rfl, D2, hd2, hD2, hk2⟩; have HD2 := Lib.hid hd2; have HDD2 := Lib.hid hD2; have HK2 := Lib.hid hk2; clear hd2 hD2 hk2)
        all_goals go_wp2
        all_goals go_meet
        all_goals exact ⟨rfl, D2, HD2, HDD2, Lib.hid (Mk.Kept.of_drew HK2.out)⟩
      case rest =>
        obtain ⟨rfl, D2, hd2, hD2, hk2⟩ := hcut
        have sz := hk.out.size
        have hDD : ∀ x, D2 x → D x ∨ w.heap.size ≤ x := fun x hx => (hD2.out x hx).elim (fun h => hD.out x h) (fun h => .inr (by omega))
        have hkk : Kept D w wc := hk.out.trans hk2.out (fun x hx h => (hD.out x h).elim id (fun h => by omega))
        have HDD := Lib.hid hDD; have HKK := Lib.hid hkk; clear hDD hkk q0 q1 q2 HC HWR hv1 hv2 hv3 hv4 hlo hlh hhc hln hhn
        by_cases hc : s'.calls = 0
        · have er : DS.run (secs k l) s = (s', 20) := by rw [hrun.out, HDR.out, run_one, if_pos hc]
          have e2 : s'.step (.wr ⟨k + i, sec l i⟩) = s' := by unfold DS.step; rw [if_pos hc]
          have e3 : powE s'.calls = 20 := by unfold powE; rw [if_pos hc]
          rw [e2] at hd2
          rw [e3]
          have ER := Lib.hid er; clear er e2 e3 hc
          go_wp2
          go_ret
          rw [ER.out]
          exact ⟨rfl, D2, hd2.out, HDD.out, HKK.out⟩
        · have er : DS.run (secs k l) s = DS.run ((secs k l).drop (i + 1)) (s'.step (.wr ⟨k + i, sec l i⟩)) := by rw [hrun.out, HDR.out, run_one, if_neg hc]
          have e2 : (s'.step (.wr ⟨k + i, sec l i⟩)).ws.length = s'.ws.length + 1 := by unfold DS.step; rw [if_neg hc]; simp [DS.app]
          have e3 : powE s'.calls = 0 := by unfold powE; rw [if_neg hc]
          rw [e3]
          have ER := Lib.hid er; have E2 := Lib.hid e2; clear er e2 e3 hc
          go_wp2
          go_roundg (m - (i + 1))
          case measure => have := HQ.out; omega
          case rel => exact ⟨i + 1, _, D2, rfl, by omega, by go_num, hd2, ER, HDD, HKK, Lib.hid (by have := hws.out; rw [E2.out]; omega)⟩
    · obtain rfl : i = m := by omega
      have er : DS.run (secs k l) s = (s', 0) := by
        rw [hrun.out, List.drop_eq_nil_of_le (by rw [secs_length]; omega)]; rfl
      have ER := Lib.hid er; clear er
      go_wp2
      go_ret
      rw [ER.out]
      exact ⟨rfl, D', hd.out, hD.out, hk.out⟩

end

end Go.Proofs.YtgefbolnfenfcaaGreat
