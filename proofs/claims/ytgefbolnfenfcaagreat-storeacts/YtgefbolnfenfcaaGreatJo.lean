/-
  CONTRACTS of package journal: inOrder, writing.
-/
import Derived.Test.YtgefbolnfenfcaaGreatJs
namespace Go.Proofs.YtgefbolnfenfcaaGreat
open Go.RowKit Go.Mk

/-- A step: Sync as a method value, or the closure that 'writing' makes. -/
def StepAt (w : World) (D : Nat → Prop) (b n : Nat) (p : Value × List Jop) : Prop :=
  p = (.func (.func 61) #[.pointer (some ⟨b, 0, none⟩)] #[], [.sync]) ∨
  ∃ xb xd xk g off cap k l m, p = (.func (.func 93) #[] #[.pointer (some ⟨xb, 0, none⟩), .pointer (some ⟨xd, 0, none⟩), .pointer (some ⟨xk, 0, none⟩)], secs k l) ∧ l.length = 64 * m ∧ WrtAt w D b n k l xb xd xk g off cap

theorem StepAt.kept {w w' : World} {D D' : Nat → Prop} {b n : Nat} {p : Value × List Jop} (h : StepAt w D b n p) (hk : Kept D w w') (hD : ∀ i, D' i → D i ∨ w.heap.size ≤ i) : StepAt w' D' b n p := by
  rcases h with h | ⟨xb, xd, xk, g, off, cap, k, l, m, h1, h2, h3⟩
  · exact .inl h
  · exact .inr ⟨xb, xd, xk, g, off, cap, k, l, m, h1, h2, h3.kept hk hD⟩

def flat (ps : List (Value × List Jop)) : List Jop := ps.flatMap (·.2)
theorem flat_cons (p : Value × List Jop) (ps : List (Value × List Jop)) : flat (p :: ps) = p.2 ++ flat ps := rfl
theorem flat_drop (ps : List (Value × List Jop)) (j : Nat) (h : j < ps.length) : flat (ps.drop j) = ps[j].2 ++ flat (ps.drop (j + 1)) := by
  rw [List.drop_eq_getElem_cons h, flat_cons]

/-- What a step does to a disk. -/
def StepDid (w : World) (D : Nat → Prop) (b n : Nat) (s : DS) (ops : List Jop) (w' : World) : Prop :=
  ∃ D', Hid (DkS w' D' b n (DS.run ops s).1) ∧ Hid (∀ i, D' i → D i ∨ w.heap.size ≤ i) ∧ Hid (Kept D w w')

theorem run_sync (s : DS) : DS.run [.sync] s = (s.step .sync, powE s.calls) := by
  rw [run_one]
  unfold powE DS.step
  split <;> rfl

section
variable {w : World} {D : Nat → Prop} {b n : Nat} {s : DS}

set_option maxHeartbeats 1000000 in
set_option maxRecDepth 100000 in
theorem jorder_any (h : DkS w D b n s) (fa fcap : Nat) (ps : List (Value × List Jop)) (len : Nat) (hlen : len = ps.length) (hc : ∀ j p, ps[j]? = some p → w.cell? ⟨fa, j, none⟩ = some p.1) (hfD : ¬ D fa) (hfl : fa < w.heap.size) (hst : ∀ p ∈ ps, StepAt w D b n p) (hp : s.ws.length + (flat ps).length ≤ 1000000) (hps : ps.length ≤ 1000) :
    Calls Tryz.prog 59 #[.slice (some ⟨fa, 0, none⟩) len fcap] w fun e w' => e = .returned (.int .i64 (DS.run (flat ps) s).2) ∧ StepDid w D b n s (flat ps) w' := by
  have H := Lib.hid h; have HCE := Lib.hid hc; have HST := Lib.hid hst; have HP := Lib.hid hp; clear h hc hst hp
  subst hlen
  go_enter Tryz.func59, Tryz.ntmps59
  go_wp2
  go_loopg [8] ps.length (fun q c wr => ∃ (j : Nat) (s' : DS) (D' : Nat → Prop), q = ps.length - j ∧ j ≤ ps.length ∧ c = .int .i64 (j : Int) ∧ Hid (DkS wr D' b n s') ∧ Hid (DS.run (flat ps) s = DS.run (flat (ps.drop j)) s') ∧ Hid (∀ x, D' x → D x ∨ w.heap.size ≤ x) ∧ Hid (Kept D w wr) ∧ Hid (s'.ws.length + (flat (ps.drop j)).length ≤ 1000000))
  case atStart => exact ⟨0, s, D, rfl, by omega, rfl, H, Lib.hid rfl, Lib.hid (fun _ h => .inl h), Lib.hid (Kept.refl _ _), HP⟩
  case round =>
    obtain ⟨j, s', D', hq, hj, rfl, hd, hrun, hD, hk, hws⟩ := hrel
    have HQ := Lib.hid hq; clear hq
    by_cases hlt : j < ps.length
    · have hsz := hk.out.size
      have hst := (HST.out ps[j] (List.getElem_mem hlt)).kept hk.out hD.out
      have hcell : wr.cell? ⟨fa, j, none⟩ = some ps[j].1 := (hk.out.cell (p := ⟨fa, j, none⟩) hfl hfD).trans (HCE.out j _ (List.getElem?_eq_getElem hlt))
      have hfd := flat_drop ps j hlt
      rw [hfd] at hws
      generalize ps[j] = p at hst hcell hfd hws
      have HFD := Lib.hid hfd; have HS := Lib.hid hst; clear hfd hst
      go_upto_region 4 with fail
      go_cut [5] (fun v wx => v = .int .i64 (DS.run p.2 s').2 ∧ StepDid wr D' b n s' p.2 wx)
      case first =>
        rcases HS.out with rfl | ⟨xb, xd, xk, g, off, cap, k, l, m, rfl, hm, hW⟩
        · have HSY := Lib.hid (jsync_any hd.out)
          go_wp2_with fail
          refine HSY.out.mono ?_
          rintro e w2 ⟨rfl, hd2, hk2⟩
          have HD2 := Lib.hid hd2; have HK2 := Lib.hid hk2; clear hd2 hk2
          go_wp2_with fail
          go_meet
          case rel =>
            show Value.int .i64 _ = .int .i64 (DS.run [.sync] s').2 ∧ StepDid wr D' b n s' [.sync] w2
            rw [run_sync]
            refine ⟨rfl, D', ?_, Lib.hid (fun _ h => .inl h), HK2⟩
            rw [run_sync]
            exact HD2
        · have hwr := jwriting_any hd.out k l xb xd xk g off cap m hW hm (by have := hws.out; rw [List.length_append, secs_length] at this; omega)
          have HWR := Lib.hid hwr; clear hwr
          go_wp2_with fail
          refine HWR.out.mono ?_
          rintro e w2 ⟨rfl, D2, hd2, hD2, hk2⟩
          have HD2 := Lib.hid hd2; have HK2 := Lib.hid hk2; have HDD2 := Lib.hid hD2; clear hd2 hk2 hD2
          go_wp2_with fail
          go_meet
          case rel => exact ⟨rfl, D2, HD2, HDD2, HK2⟩
      case rest =>
        obtain ⟨rfl, D2, hd2, hD2, hk2⟩ := hcut
        have hDD : ∀ x, D2 x → D x ∨ w.heap.size ≤ x := fun x hx => (hD2.out x hx).elim (fun h => hD.out x h) (fun h => .inr (by omega))
        have hkk : Kept D w wc := hk.out.trans hk2.out (fun x hx h => (hD.out x h).elim id (fun h => by omega))
        have HDD := Lib.hid hDD; have HKK := Lib.hid hkk; clear hDD hkk hcell HS
        by_cases hc : (DS.run p.2 s').2 = 0
        · have er : DS.run (flat ps) s = DS.run (flat (ps.drop (j + 1))) (DS.run p.2 s').1 := by rw [hrun.out, HFD.out, DS.run_append, if_pos hc]
          have hln := DS.run_len p.2 s'
          have ER := Lib.hid er; have HLN := Lib.hid hln; clear er hln
          rw [hc]
          clear hc
          go_wp2
          go_roundg (ps.length - (j + 1))
          case measure => have := HQ.out; omega
          case rel => exact ⟨j + 1, _, D2, rfl, by omega, by go_num, hd2, ER, HDD, HKK, Lib.hid (by have := hws.out; have := HLN.out; simp only [List.length_append] at *; omega)⟩
        · have er : DS.run (flat ps) s = DS.run p.2 s' := by rw [hrun.out, HFD.out, DS.run_append, if_neg hc]
          have e2 : (DS.run p.2 s').2 = 20 := (DS.run_err p.2 s').resolve_left hc
          have ER := Lib.hid er; have E2 := Lib.hid e2; clear er hc
          rw [e2]
          clear e2
          go_wp2
          go_ret
          rw [ER.out, E2.out]
          exact ⟨rfl, D2, by rw [ER.out]; exact hd2, HDD, HKK⟩
    · have er : flat (ps.drop j) = [] := by rw [List.drop_eq_nil_of_le (by omega)]; rfl
      rw [er] at hrun
      have e2 : DS.run (flat ps) s = (s', 0) := hrun.out
      have E2 := Lib.hid e2; clear e2 er
      go_wp2
      go_ret
      rw [E2.out]
      exact ⟨rfl, D', by rw [E2.out]; exact hd, hD, hk⟩

theorem jmaking_any (b k : Nat) (kI : Int) (hk : kI = k) (ao : Option Addr) (len cap : Nat) (w : World) :
    Calls Tryz.prog 60 #[.pointer (some ⟨b, 0, none⟩), .int .i64 kI, .slice ao len cap] w fun e w' =>
      e = .returned (.func (.func 93) #[] #[.pointer (some ⟨w.heap.size + 2, 0, none⟩), .pointer (some ⟨w.heap.size, 0, none⟩), .pointer (some ⟨w.heap.size + 1, 0, none⟩)]) ∧
      w'.cell? ⟨w.heap.size + 2, 0, none⟩ = some (.slice ao len cap) ∧ w'.cell? ⟨w.heap.size, 0, none⟩ = some (.pointer (some ⟨b, 0, none⟩)) ∧ w'.cell? ⟨w.heap.size + 1, 0, none⟩ = some (.int .i64 (k : Int)) ∧ Below w.heap.size w w' := by
  subst hk
  have hmf : ∀ (fn : Fn) (first cap : Array Value) (w : World), (Instr.makeFunc fn first cap).run Tryz.prog w = .ok (.func fn first cap) w := fun _ _ _ _ => rfl
  go_enter Tryz.func60, Tryz.ntmps60
  go_wp2
  go_ret
  refine ⟨rfl, ?_, ?_, ?_, (((Below.refl _ _).alloc (Nat.le_refl _) _).alloc (by simp) _).alloc (by simp; omega) _⟩
  · have := World.cell?_alloc_new ((w.alloc (.cells #[.pointer (some ⟨b, 0, none⟩)] 26)).alloc (.cells #[.int .i64 (k : Int)] 3)) #[.slice ao len cap] 34 0
    simpa using this
  · rw [World.cell?_alloc_lt _ _ _ (by simp; omega), World.cell?_alloc_lt _ _ _ (by simp)]
    have := World.cell?_alloc_new w #[.pointer (some ⟨b, 0, none⟩)] 26 0
    exact this
  · rw [World.cell?_alloc_lt _ _ _ (by simp)]
    have := World.cell?_alloc_new (w.alloc (.cells #[.pointer (some ⟨b, 0, none⟩)] 26)) #[.int .i64 (k : Int)] 3 0
    rw [World.size_alloc] at this
    exact this

/-- The step that 'writing' makes. -/
def stepV (x : Nat) : Value := .func (.func 93) #[] #[.pointer (some ⟨x + 2, 0, none⟩), .pointer (some ⟨x, 0, none⟩), .pointer (some ⟨x + 1, 0, none⟩)]

theorem jmake_any (hD : ∀ i, D i → i < w.heap.size) (k m : Nat) (kI : Int) (hk : kI = k) (l : List UInt8) (hm : l.length = 64 * m) (h1 : 1 ≤ m) (hkn : k + m ≤ n) (g off len cap : Nat) (hlen : len = l.length) (hcap : l.length ≤ cap) (hmax : cap ≤ maxLen) (hL : Lies w w.heap.size (some ⟨g, off, none⟩) (l.map bv)) (hg : ¬ D g) :
    Calls Tryz.prog 60 #[.pointer (some ⟨b, 0, none⟩), .int .i64 kI, .slice (some ⟨g, off, none⟩) len cap] w fun e w' =>
      e = .returned (.func (.func 93) #[] #[.pointer (some ⟨w.heap.size + 2, 0, none⟩), .pointer (some ⟨w.heap.size, 0, none⟩), .pointer (some ⟨w.heap.size + 1, 0, none⟩)]) ∧ StepAt w' D b n (stepV w.heap.size, secs k l) ∧ Below w.heap.size w w' := by
  refine (jmaking_any b k kI hk (some ⟨g, off, none⟩) len cap w).mono ?_
  rintro e w' ⟨rfl, c0, c1, c2, hb⟩
  subst hlen
  refine ⟨rfl, .inr ⟨_, _, _, g, off, cap, k, l, m, rfl, hm, c0, c1, c2, Lies.lt' (hL.below hb), hcap, hmax, fun h => ?_, fun h => ?_, fun h => ?_, hg, by omega, fun e => by rw [e] at hm; simp at hm; omega⟩, hb⟩
  all_goals have := hD _ h; omega

end

end Go.Proofs.YtgefbolnfenfcaaGreat
