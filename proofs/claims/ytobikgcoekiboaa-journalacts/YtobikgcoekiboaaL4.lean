/-
  The laws of layer 4: a disk that a call has made itself, and all that journal does on it; awake.
-/
import Derived.Test.YtobikgcoekiboaaJu
import Derived.Test.YtobikgcoekiboaaJv
import Derived.Lib.SlBytesConst
namespace Go.Proofs.Ytobikgcoekiboaa
open Go.RowKit Go.Mk

/-- A disk at b that was made behind the world W0. -/
def JS (W0 w : World) (b n : Nat) (s : DS) : Prop := ∃ D, DkS w D b n s ∧ (∀ k, D k → W0.heap.size ≤ k) ∧ Below W0.heap.size W0 w

section
variable {W0 w : World} {b n : Nat} {s : DS}

theorem JS.bel (h : JS W0 w b n s) : Below W0.heap.size W0 w := by obtain ⟨_, _, _, h⟩ := h; exact h
theorem JS.n1 (h : JS W0 w b n s) : 1 ≤ n ∧ n ≤ 65536 := by obtain ⟨_, h, _, _⟩ := h; exact Dk.n1 h
theorem JS.fresh {w' : World} (h : JS W0 w b n s) (hb : Below w.heap.size w w') : JS W0 w' b n s := by
  obtain ⟨D, h1, h2, h3⟩ := h
  exact ⟨D, Dk.fresh h1 hb, h2, h3.trans (hb.mono h3.size)⟩
theorem JS.alloc (h : JS W0 w b n s) (o : Obj) : JS W0 (w.alloc o) b n s := h.fresh ((Below.refl _ _).alloc (Nat.le_refl _) _)
theorem JS.drew (h : JS W0 w b n s) : JS W0 w.drew b n s := h.fresh (Below.drew (Below.refl _ _))
theorem JS.did {D : Nat → Prop} {w' : World} {s' : DS} (hD : ∀ k, D k → W0.heap.size ≤ k) (hb : Below W0.heap.size W0 w) (h : JDid w D b n s' w') : JS W0 w' b n s' := by
  obtain ⟨D', h1, h2, h3⟩ := h
  refine ⟨D', h1, fun k hk => (h2 k hk).elim (hD k) (fun h => Nat.le_trans hb.size h), ?_⟩
  exact hb.trans (h3.below hb.size hD)

theorem js_new (hb : Below W0.heap.size W0 w) (n : Nat) (h1 : 1 ≤ n) (h2 : n ≤ 65536) (nI : Int) (hn : nI = n) :
    Calls Try.prog 10 #[.int .i64 nI] w fun e w' => ∃ b, e = .returned (.tuple #[.pointer (some ⟨b, 0, none⟩), .int .i64 0]) ∧ JS W0 w' b n ⟨List.replicate (64 * n) 0, [], -1⟩ := by
  subst hn
  refine (dnew_any w n h1 h2).mono ?_
  rintro e w' ⟨b, D, rfl, hd, hD, hb'⟩
  exact ⟨b, rfl, D, hd, fun k hk => Nat.le_trans hb.size (hD k hk), hb.trans (hb'.mono hb.size)⟩

theorem js_format (h : JS W0 w b n s) (ao : Option Addr) (len cap : Nat) (t : List UInt8) (hlen : len = t.length) (hL : Lies w w.heap.size ao (t.map bv)) (hp : s.ws.length ≤ 900000) :
    Calls Try.prog 22 #[.pointer (some ⟨b, 0, none⟩), .slice ao len cap] w fun e w' => e = .returned (.int .i64 (jformat n t s).2) ∧ JS W0 w' b n (jformat n t s).1 := by
  obtain ⟨D, h1, h2, h3⟩ := h
  refine (jformat_any h1 ao len cap t hlen hL hp).mono ?_
  rintro e w' ⟨rfl, hd⟩
  exact ⟨rfl, JS.did h2 h3 hd⟩

theorem js_put (h : JS W0 w b n s) (ao : Option Addr) (len cap : Nat) (t : List UInt8) (hlen : len = t.length) (hL : Lies w w.heap.size ao (t.map bv)) (hp : s.ws.length ≤ 900000) :
    Calls Try.prog 14 #[.pointer (some ⟨b, 0, none⟩), .slice ao len cap] w fun e w' => e = .returned (.int .i64 (jput n t s).2) ∧ JS W0 w' b n (jput n t s).1 := by
  obtain ⟨D, h1, h2, h3⟩ := h
  refine (jput_any h1 ao len cap t hlen hL hp).mono ?_
  rintro e w' ⟨rfl, hd⟩
  exact ⟨rfl, JS.did h2 h3 hd⟩

theorem js_rec (h : JS W0 w b n s) (hp : s.ws.length ≤ 900000) :
    Calls Try.prog 15 #[.pointer (some ⟨b, 0, none⟩)] w fun e w' => e = .returned (.int .i64 (jrec n s).2) ∧ JS W0 w' b n (jrec n s).1 := by
  obtain ⟨D, h1, h2, h3⟩ := h
  refine (jrec_any h1 hp).mono ?_
  rintro e w' ⟨rfl, hd⟩
  exact ⟨rfl, JS.did h2 h3 hd⟩

theorem js_get (h : JS W0 w b n s) :
    Calls Try.prog 27 #[.pointer (some ⟨b, 0, none⟩)] w fun e w' => JGot w (jget n (image s.base s.ws)).1 (jget n (image s.base s.ws)).2 e w' ∧ JS W0 w' b n s := by
  have hh := h
  obtain ⟨D, h1, h2, h3⟩ := h
  refine (jget_any h1).mono ?_
  intro e w' hg
  refine ⟨hg, ?_⟩
  obtain ⟨_, _, _, _, _, _, _, hb⟩ := hg
  exact hh.fresh hb

theorem js_power (h : JS W0 w b n s) (c : Int) (hc : -9223372036854775808 ≤ c ∧ c ≤ 9223372036854775807) :
    Calls Try.prog 18 #[.pointer (some ⟨b, 0, none⟩), .int .i64 c] w fun e w' => (∃ v, e = .returned v) ∧ JS W0 w' b n ⟨s.base, s.ws, c⟩ := by
  obtain ⟨D, h1, h2, h3⟩ := h
  refine (dpower_any h1 c hc).mono ?_
  rintro e w' ⟨he, hd, hk⟩
  exact ⟨he, D, hd, h2, h3.trans (hk.below h3.size h2)⟩

theorem js_crash (h : JS W0 w b n s) (ao : Option Addr) (len kcap : Nat) (ks : List Bool) (hlen : len = ks.length) (hL : Lies W0 W0.heap.size ao (ks.map .bool)) (torn octets : Int) (hp : s.ws.length ≤ 1000001) (hkl : ks.length ≤ 1000001) :
    Calls Try.prog 20 #[.pointer (some ⟨b, 0, none⟩), .slice ao len kcap, .int .i64 torn, .int .i64 octets] w fun e w' => (∃ v, e = .returned v) ∧
      JS W0 w' b n ⟨crash ks torn (octs octets) 0 s.ws s.base, [], -1⟩ := by
  subst hlen
  obtain ⟨D, h1, h2, h3⟩ := h
  refine (dcrash_any h1 ao kcap ks ((hL.below h3).mono h3.size) (fun hne a ha hDa => ?_) torn octets hp hkl).mono ?_
  · obtain ⟨b', off', e, hlt, _⟩ := hL (by simpa using hne)
    rw [e] at ha; cases ha
    have := h2 _ hDa
    simp only at this
    omega
  · rintro e w' ⟨he, hd, hk⟩
    exact ⟨he, D, hd, h2, h3.trans (hk.below h3.size h2)⟩

theorem js_image (h : JS W0 w b n s) : Calls Try.prog 29 #[.pointer (some ⟨b, 0, none⟩)] w fun e w' => ∃ ao cap, e = .returned (.slice ao (64 * n) cap) ∧
    Lies w' w'.heap.size ao ((image s.base s.ws).map bv) ∧ (image s.base s.ws).length = 64 * n ∧ JS W0 w' b n s := by
  have hh := h
  obtain ⟨D, h1, h2, h3⟩ := h
  refine (dimage_any h1).mono ?_
  rintro e w' ⟨ao, cap, rfl, ho, hb⟩
  exact ⟨ao, cap, rfl, owns_lies ho, h1.ilen, hh.fresh hb⟩

end

theorem lies_mark4 (w : World) (vs : List Value) (t : TypeId) (fr : Nat × Nat) : Lies (w.alloc (.cells vs.toArray t fr)) (w.alloc (.cells vs.toArray t fr)).heap.size (some ⟨w.heap.size, 0, none⟩) vs := by
  intro _
  refine ⟨w.heap.size, 0, rfl, by simp, fun j u hu => ?_⟩
  simp [World.cell?, World.alloc, -World.alloc_eq]
  simpa using hu

set_option maxHeartbeats 1000000 in
set_option maxRecDepth 100000 in
theorem awake4_any (w : World) : Calls Try.prog 7 #[] w fun e w' => e = .returned (.bool true) ∧ Below w.heap.size w w' := by
  have f1 : fitT 10 [97] := ⟨by decide, by decide⟩
  have f2 : fitT 10 [98, 99] := ⟨by decide, by decide⟩
  have HR := Lib.hid (jroom_any 10 w)
  rw [show roomI 10 = 244 from by decide] at HR
  have HNEW := Lib.hid (js_new (Below.refl w.heap.size w) 10 (by omega) (by omega) 10 rfl)
  have F1 := Lib.hid f1; have F2 := Lib.hid f2; clear f1 f2
  go_enter Try.func7, Try.ntmps7
  go_wp2_with fail
  refine HR.out.mono ?_
  rintro e w0 ⟨rfl, rfl⟩
  go_wp2_with fail
  refine HNEW.out.mono ?_
  rintro e w1 ⟨b, rfl, h1⟩
  have H1 := Lib.hid h1; clear h1 HNEW HR
  have kc := Lib.run_convert_bytes_const (P := Try.prog) w1 35 5 #[.int .u8 97] 1 1 Try.underlying35 Try.underlying5
  have hf := js_format (H1.out.alloc (.cells #[.int .u8 97] 5 (1, 2))) (some ⟨w1.heap.size, 0, none⟩) 1 1 [97] rfl (lies_mark4 w1 [.int .u8 97] 5 (1, 2)) (by simp)
  have hr := format_run (n := 10) (t := [97]) (base := List.replicate (64 * 10) 0) (by simp) F1.out (-1) (by omega)
  generalize jformat 10 [97] ⟨List.replicate (64 * 10) 0, [], -1⟩ = r at *
  obtain ⟨⟨base, ws, c⟩, e0⟩ := r
  obtain ⟨hr1, hr2, hr3, hr4⟩ := hr
  simp only at hr1 hr2 hr3 hr4
  subst hr1 hr2
  have HF := Lib.hid hf; have HC := Lib.hid hr3; have HQ := Lib.hid hr4; clear hf hr3 hr4 H1
  go_wp2_with fail
  refine HF.out.mono ?_
  rintro e w2 ⟨rfl, h2⟩
  clear kc HF
  have kc := Lib.run_convert_bytes_const (P := Try.prog) w2 35 5 #[.int .u8 98, .int .u8 99] 2 2 Try.underlying35 Try.underlying5
  have hf := js_put (h2.alloc (.cells #[.int .u8 98, .int .u8 99] 5 (2, 3))) (some ⟨w2.heap.size, 0, none⟩) 2 2 [98, 99] rfl (lies_mark4 w2 [.int .u8 98, .int .u8 99] 5 (2, 3)) (by simp)
  have hr := put_run (n := 10) F1.out F2.out HQ.out c
  generalize jput 10 [98, 99] ⟨base, [], c⟩ = r at *
  obtain ⟨⟨base2, ws2, c2⟩, e2⟩ := r
  have he2 := hr.2.2 HC.out
  obtain ⟨hw2, hq2⟩ := hr.2.1 he2
  simp only at he2 hw2 hq2
  subst he2 hw2
  have HF := Lib.hid hf; have HQ2 := Lib.hid hq2; clear hf hr hq2 h2 HQ HC
  go_wp2_with fail
  refine HF.out.mono ?_
  rintro e w3 ⟨rfl, h3⟩
  clear kc HF
  have hg := js_get h3
  have e3 : image base2 [] = base2 := rfl
  simp only [e3, get_there (by omega) F2.out HQ2.out] at hg
  have HG := Lib.hid hg; clear hg h3 e3
  go_wp2_with fail
  refine HG.out.mono ?_
  rintro e w4 ⟨⟨ao, cap, rfl, hl, _, _, _, _⟩, h4⟩
  have hs := run_string_of (P := Try.prog) w4 35 9 5 Try.underlying35 Try.underlying5 Try.underlying9 cap 2 rfl hl
  have hq : ((bs [98, 99]).toList == [98, 99]) = true := by rw [bs_list]; rfl
  have HB := Lib.hid h4.bel; clear h4 hl HG
  go_wp2
  go_ret
  exact ⟨rfl, HB.out⟩

end Go.Proofs.Ytobikgcoekiboaa
