/-
  The laws of layer 4: a disk that a call has made itself, and all that journal does on it; awake.
-/
import Derived.Test.YtgefbolnfenfcaaGreatJu
import Derived.Test.YtgefbolnfenfcaaGreatJv
import Derived.Lib.SlBytesConst
namespace Go.Proofs.YtgefbolnfenfcaaGreat
open Go.RowKit Go.Mk

/-- A disk at b that was made behind the world W0. -/
def JS (W0 w : World) (b n : Nat) (s : DS) : Prop := ∃ D, DkS w D b n s ∧ (∀ k, D k → W0.heap.size ≤ k) ∧ Below W0.heap.size W0 w

section
variable {W0 w : World} {b n : Nat} {s : DS}

theorem JS.bel (h : JS W0 w b n s) : Below W0.heap.size W0 w := by obtain ⟨_, _, _, h⟩ := h; exact h
theorem JS.n1 (h : JS W0 w b n s) : 1 ≤ n ∧ n ≤ 65536 := by obtain ⟨_, h, _, _⟩ := h; exact Dk.n1 h
theorem JS.fresh {w' : World} (h : JS W0 w b n s) (hb : Below w.heap.size w w') : JS W0 w' b n s := by
  obtain ⟨D, h1, h2, h3⟩ := h
  exact ⟨D, Dk.fresh h1 hb, h2, h3.trans (hb.mono h3.size)⟩
theorem JS.alloc (h : JS W0 w b n s) (o : Obj) : JS W0 (w.alloc o) b n s := h.fresh ((Below.refl _ _).alloc (Nat.le_refl _) _)
theorem JS.drew (h : JS W0 w b n s) : JS W0 w.drew b n s := h.fresh (Below.drew (Below.refl _ _))
theorem JS.did {D : Nat → Prop} {w' : World} {s' : DS} (hD : ∀ k, D k → W0.heap.size ≤ k) (hb : Below W0.heap.size W0 w) (h : JDid w D b n s' w') : JS W0 w' b n s' := by
  obtain ⟨D', h1, h2, h3⟩ := h
  refine ⟨D', h1, fun k hk => (h2 k hk).elim (hD k) (fun h => Nat.le_trans hb.size h), ?_⟩
  exact hb.trans (h3.below hb.size hD)

theorem js_new (hb : Below W0.heap.size W0 w) (n : Nat) (h1 : 1 ≤ n) (h2 : n ≤ 65536) (nI : Int) (hn : nI = n) :
    Calls Tryz.prog 7 #[.int .i64 nI] w fun e w' => ∃ b, e = .returned (.tuple #[.pointer (some ⟨b, 0, none⟩), .int .i64 0]) ∧ JS W0 w' b n ⟨List.replicate (64 * n) 0, [], -1⟩ := by
  subst hn
  refine (dnew_any w n h1 h2).mono ?_
  rintro e w' ⟨b, D, rfl, hd, hD, hb'⟩
  exact ⟨b, rfl, D, hd, fun k hk => Nat.le_trans hb.size (hD k hk), hb.trans (hb'.mono hb.size)⟩

theorem js_format (h : JS W0 w b n s) (ao : Option Addr) (len cap : Nat) (t : List UInt8) (hlen : len = t.length) (hL : Lies w w.heap.size ao (t.map bv)) (hp : s.ws.length ≤ 900000) :
    Calls Tryz.prog 45 #[.pointer (some ⟨b, 0, none⟩), .slice ao len cap] w fun e w' => e = .returned (.int .i64 (jformat n t s).2) ∧ JS W0 w' b n (jformat n t s).1 := by
  obtain ⟨D, h1, h2, h3⟩ := h
  refine (jformat_any h1 ao len cap t hlen hL hp).mono ?_
  rintro e w' ⟨rfl, hd⟩
  exact ⟨rfl, JS.did h2 h3 hd⟩

theorem js_put (h : JS W0 w b n s) (ao : Option Addr) (len cap : Nat) (t : List UInt8) (hlen : len = t.length) (hL : Lies w w.heap.size ao (t.map bv)) (hp : s.ws.length ≤ 900000) :
    Calls Tryz.prog 29 #[.pointer (some ⟨b, 0, none⟩), .slice ao len cap] w fun e w' => e = .returned (.int .i64 (jput n t s).2) ∧ JS W0 w' b n (jput n t s).1 := by
  obtain ⟨D, h1, h2, h3⟩ := h
  refine (jput_any h1 ao len cap t hlen hL hp).mono ?_
  rintro e w' ⟨rfl, hd⟩
  exact ⟨rfl, JS.did h2 h3 hd⟩

theorem js_rec (h : JS W0 w b n s) (hp : s.ws.length ≤ 900000) :
    Calls Tryz.prog 39 #[.pointer (some ⟨b, 0, none⟩)] w fun e w' => e = .returned (.int .i64 (jrec n s).2) ∧ JS W0 w' b n (jrec n s).1 := by
  obtain ⟨D, h1, h2, h3⟩ := h
  refine (jrec_any h1 hp).mono ?_
  rintro e w' ⟨rfl, hd⟩
  exact ⟨rfl, JS.did h2 h3 hd⟩

theorem js_get (h : JS W0 w b n s) :
    Calls Tryz.prog 40 #[.pointer (some ⟨b, 0, none⟩)] w fun e w' => JGot w (jget n (image s.base s.ws)).1 (jget n (image s.base s.ws)).2 e w' ∧ JS W0 w' b n s := by
  have hh := h
  obtain ⟨D, h1, h2, h3⟩ := h
  refine (jget_any h1).mono ?_
  intro e w' hg
  refine ⟨hg, ?_⟩
  obtain ⟨_, _, _, _, _, _, _, hb⟩ := hg
  exact hh.fresh hb

theorem js_power (h : JS W0 w b n s) (c : Int) (hc : -9223372036854775808 ≤ c ∧ c ≤ 9223372036854775807) :
    Calls Tryz.prog 11 #[.pointer (some ⟨b, 0, none⟩), .int .i64 c] w fun e w' => (∃ v, e = .returned v) ∧ JS W0 w' b n ⟨s.base, s.ws, c⟩ := by
  obtain ⟨D, h1, h2, h3⟩ := h
  refine (dpower_any h1 c hc).mono ?_
  rintro e w' ⟨he, hd, hk⟩
  exact ⟨he, D, hd, h2, h3.trans (hk.below h3.size h2)⟩

theorem js_crash (h : JS W0 w b n s) (ao : Option Addr) (len kcap : Nat) (ks : List Bool) (hlen : len = ks.length) (hL : Lies W0 W0.heap.size ao (ks.map .bool)) (torn octets : Int) (hp : s.ws.length ≤ 1000001) (hkl : ks.length ≤ 1000001) :
    Calls Tryz.prog 13 #[.pointer (some ⟨b, 0, none⟩), .slice ao len kcap, .int .i64 torn, .int .i64 octets] w fun e w' => (∃ v, e = .returned v) ∧
      JS W0 w' b n ⟨crash ks torn (octs octets) 0 s.ws s.base, [], -1⟩ := by
  subst hlen
  obtain ⟨D, h1, h2, h3⟩ := h
  refine (dcrash_any h1 ao kcap ks ((hL.below h3).mono h3.size) (fun hne a ha hDa => ?_) torn octets hp hkl).mono ?_
  · obtain ⟨b', off', e, hlt, _⟩ := hL (by simpa using hne)
    rw [e] at ha; cases ha
    have := h2 _ hDa
    simp only at this
    omega
  · rintro e w' ⟨he, hd, hk⟩
    exact ⟨he, D, hd, h2, h3.trans (hk.below h3.size h2)⟩

theorem js_image (h : JS W0 w b n s) : Calls Tryz.prog 22 #[.pointer (some ⟨b, 0, none⟩)] w fun e w' => ∃ ao cap, e = .returned (.slice ao (64 * n) cap) ∧
    Lies w' w'.heap.size ao ((image s.base s.ws).map bv) ∧ (image s.base s.ws).length = 64 * n ∧ JS W0 w' b n s := by
  have hh := h
  obtain ⟨D, h1, h2, h3⟩ := h
  refine (dimage_any h1).mono ?_
  rintro e w' ⟨ao, cap, rfl, ho, hb⟩
  exact ⟨ao, cap, rfl, owns_lies ho, h1.ilen, hh.fresh hb⟩

end

theorem lies_mark4 (w : World) (vs : List Value) (t : TypeId) (fr : Nat × Nat) : Lies (w.alloc (.cells vs.toArray t fr)) (w.alloc (.cells vs.toArray t fr)).heap.size (some ⟨w.heap.size, 0, none⟩) vs := by
  intro _
  refine ⟨w.heap.size, 0, rfl, by simp, fun j u hu => ?_⟩
  simp [World.cell?, World.alloc, -World.alloc_eq]
  simpa using hu

end Go.Proofs.YtgefbolnfenfcaaGreat
