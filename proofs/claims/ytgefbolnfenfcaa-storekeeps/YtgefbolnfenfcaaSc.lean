/-
  CONTRACT of package store: Save.
-/
import Derived.Test.YtgefbolnfenfcaaSb
import Derived.Deep.RegionWith
namespace Go.Proofs.Ytgefbolnfenfcaa
open Go.RowKit Go.Mk

/-- What Save leaves. -/
def SSaved (w : World) (D C : Nat → Prop) (sb b n : Nat) (s' : DS) (x' : SS) (w' : World) : Prop :=
  ∃ D' C', DkS w' D' b n s' ∧ St w' C' sb b x' ∧ (∀ i, D' i → D i ∨ w.heap.size ≤ i) ∧ (∀ i, C' i → C i ∨ w.heap.size ≤ i) ∧ (∀ k, D' k → ¬ C' k) ∧ Kept (fun k => D k ∨ C k) w w'

section
variable {w : World} {D C : Nat → Prop} {sb b n : Nat} {s : DS} {x : SS}

theorem SSaved.same (h : DkS w D b n s) (g : St w C sb b x) (hd : ∀ k, D k → ¬ C k) : SSaved w D C sb b n s x w :=
  ⟨D, C, h, g, fun _ h => .inl h, fun _ h => .inl h, hd, Kept.refl _ _⟩

/-- The disk has turned; the store is as it was. -/
theorem SSaved.disk {w' : World} {s' : DS} (g : St w C sb b x) (hd : ∀ k, D k → ¬ C k) (h : JDid w D b n s' w') : SSaved w D C sb b n s' x w' := by
  obtain ⟨D', h1, h2, h3⟩ := h
  refine ⟨D', C, h1, g.kept h3 (fun k hc h' => hd k h' hc), h2, fun _ h => .inl h, fun k h' hc => ?_, h3.mono (fun _ _ h => .inl h)⟩
  rcases h2 k h' with h | h
  · exact hd k h hc
  · have := g.lt k hc; omega

theorem SSaved.drew {w' : World} {s' : DS} (h : SSaved w D C sb b n s' x w') : SSaved w D C sb b n s' x w'.drew := by
  obtain ⟨D', C', h1, h2, h3, h4, h5, h6⟩ := h
  have kd : Kept (fun _ => False) w' w'.drew := Kept.drew (Kept.refl _ _)
  exact ⟨D', C', h1.kept kd (fun _ _ h => h), h2.kept kd (fun _ _ h => h), h3, h4, h5, h6.drew⟩

/-- .. and is broken. -/
theorem SSaved.broken {w' : World} {s' : DS} (h : SSaved w D C sb b n s' x w') : SSaved w D C sb b n s' ⟨x.text, true, x.saves⟩ (w'.setCell ⟨sb, 2, none⟩ (.int .u32 1)) := by
  obtain ⟨D', C', h1, ⟨⟨ao, cap, g1, g2⟩, g3, g4⟩, h3, h4, h5, h6⟩ := h
  have kp : Kept (fun k => k = sb) w' (w'.setCell ⟨sb, 2, none⟩ (.int .u32 1)) := Kept.setCell (p := ⟨sb, 2, none⟩) (Kept.refl (fun k => k = sb) w') (fun _ => rfl) _
  refine ⟨D', C', h1.kept kp (fun k hk e => h5 k hk (by subst e; exact g3)), ⟨⟨ao, cap, g1.setBroken, g2⟩, g3, fun k hk => Nat.lt_of_lt_of_le (g4 k hk) kp.size⟩, h3, h4, h5, h6.trans kp (fun k hk e => ?_)⟩
  subst e
  rcases h4 k g3 with h | h
  · exact .inr h
  · omega

/-- .. or has another text, and one more was saved. -/
theorem SSaved.text {w' w3 : World} {s' : DS} {t : List UInt8} {ao : Option Addr} {cap : Nat} {e : TypeId} {m : Nat} {k : Int} (h : SSaved w D C sb b n s' x w') (ho : w3.ownsRow w'.heap.size e 1 (.slice ao t.length cap) t.length (t.map bv)) (hb : Below w'.heap.size w' w3) (ht : t.length ≤ 1073741824) (hm : m = t.length) (hk : k = (x.saves : Int) + 1) (hx : x.broken = false) :
    SSaved w D C sb b n s' ⟨t, false, x.saves + 1⟩ ((w3.setCell ⟨sb, 1, none⟩ (.slice ao m cap)).setCell ⟨sb, 3, none⟩ (.int .i64 k)) := by
  subst hm
  have hk' : k = ((x.saves + 1 : Nat) : Int) := by omega
  obtain ⟨D', C', h1, ⟨⟨ao1, cap1, g1, g2⟩, g3, g4⟩, h3, h4, h5, h6⟩ := h
  have hsb := g4 sb g3
  have k3 : Kept (fun _ => False) w' w3 := kob hb (Nat.le_refl _)
  have g1' := g1.kept k3 (fun h => h) (fun _ _ _ h => h)
  have hge : t ≠ [] → ∀ a, ao = some a → a.block ≠ sb := fun _ a ha e => by have := owns_ge ho a ha; omega
  have hlt : t ≠ [] → ∀ a, ao = some a → a.block < w3.heap.size := fun hne a ha => by
    obtain ⟨b', o', e, hlt, _⟩ := owns_lies ho (by simpa using hne)
    rw [e] at ha; cases ha
    exact hlt
  have g5 := (g1'.setText ao cap t (owns_lies ho) hge ht).setSaves (x.saves + 1) k hk'
  rw [hx] at g5
  have kp1 : Kept (fun k => k = sb) w3 (w3.setCell ⟨sb, 1, none⟩ (.slice ao t.length cap)) := Kept.setCell (p := ⟨sb, 1, none⟩) (Kept.refl (fun k => k = sb) w3) (fun _ => rfl) _
  have kp : Kept (fun k => k = sb) w3 ((w3.setCell ⟨sb, 1, none⟩ (.slice ao t.length cap)).setCell ⟨sb, 3, none⟩ (.int .i64 k)) := Kept.setCell (p := ⟨sb, 3, none⟩) kp1 (fun _ => rfl) _
  have kp' : Kept (fun k => k = sb) w' ((w3.setCell ⟨sb, 1, none⟩ (.slice ao t.length cap)).setCell ⟨sb, 3, none⟩ (.int .i64 k)) := (k3.mono (S' := fun k => k = sb) (fun _ _ h => h.elim)).trans kp (fun _ _ h => h)
  refine ⟨D', fun k => k = sb ∨ t ≠ [] ∧ ∃ a, ao = some a ∧ k = a.block, h1.kept kp' (fun k hk e => h5 k hk (by subst e; exact g3)), ⟨⟨ao, cap, g5, fun hne a ha => .inr ⟨hne, a, ha, rfl⟩⟩, .inl rfl, fun k hk => Nat.lt_of_lt_of_le ?_ kp.size⟩, h3, fun k hk => ?_, fun k hk hc => ?_, h6.trans kp' (fun k hk e => ?_)⟩
  · rcases hk with rfl | ⟨hne, a, ha, rfl⟩
    · exact Nat.lt_of_lt_of_le hsb hb.size
    · exact hlt hne a ha
  · rcases hk with rfl | ⟨hne, a, ha, rfl⟩
    · exact h4 _ g3
    · exact .inr (Nat.le_trans h6.size (owns_ge ho a ha))
  · rcases hc with rfl | ⟨hne, a, ha, rfl⟩
    · exact h5 _ hk g3
    · have := owns_ge ho a ha
      have := h1.lt _ hk
      omega
  · subst e
    rcases h4 k g3 with h | h
    · exact .inr h
    · omega

theorem ssave_nil (w : World) (v : Value) : Calls Try.prog 9 #[.pointer none, v] w fun e w' => e = .returned (.int .i64 2) ∧ w = w' := by
  go_enter Try.func9, Try.ntmps9
  go_wp2_with fail
  refine (sopen_nil w).mono ?_
  rintro e w1 ⟨rfl, rfl⟩
  go_wp2
  go_ret
  exact ⟨rfl, rfl⟩

/-- Behind Put: its answer, and what is there. -/
structure SvI (w : World) (D C : Nat → Prop) (sb b n : Nat) (s' : DS) (x : SS) (ao : Option Addr) (t : List UInt8) (w2 : World) : Prop where
  sv : SSaved w D C sb b n s' x w2
  li : Lies w2 w2.heap.size ao (t.map bv)

theorem SvI.of {w1 w2 : World} {s' : DS} {ao : Option Addr} {t : List UInt8} (g : St w C sb b x) (hd : ∀ k, D k → ¬ C k) (hL : Lies w w.heap.size ao (t.map bv)) (hn : t ≠ [] → ∀ a, ao = some a → ¬ D a.block) (hb : Below w.heap.size w w1) (h : JDid w1 D b n s' w2) : SvI w D C sb b n s' x ao t w2 := by
  refine ⟨SSaved.disk g hd (JDid.after hb h), ?_⟩
  obtain ⟨_, _, _, hk⟩ := h
  exact ((hL.below hb).kept hk (fun hne => hn (by simpa using hne))).mono (Nat.le_trans hb.size hk.size)

set_option maxHeartbeats 1000000 in
theorem ssave_any (h : DkS w D b n s) (g : St w C sb b x) (hd : ∀ k, D k → ¬ C k) (ao : Option Addr) (cap : Nat) (t : List UInt8) (hL : Lies w w.heap.size ao (t.map bv)) (hn : t ≠ [] → ∀ a, ao = some a → ¬ D a.block) (ht : t.length ≤ 1000000) (hx : x.saves ≤ 1000000) (hp : s.ws.length ≤ 900000) :
    Calls Try.prog 9 #[.pointer (some ⟨sb, 0, none⟩), .slice ao t.length cap] w fun e w' => e = .returned (.int .i64 (ssaveE n t x s)) ∧ SSaved w D C sb b n (ssaveD n t x s) (ssaveX n t x s) w' := by
  have hg := g
  obtain ⟨⟨ao1, cap1, h1, h2⟩, _, _⟩ := hg
  have HO := Lib.hid (sopen_is h1)
  have hbl := abload_any sb x.broken w h1.c2
  by_cases hbr : x.broken = true
  · have e1 : ssaveE n t x s = 80 := by unfold ssaveE; rw [if_pos hbr]
    have e2 : ssaveX n t x s = x := by unfold ssaveX; rw [if_pos hbr]
    have e3 : ssaveD n t x s = s := by unfold ssaveD; rw [if_pos hbr]
    rw [e1, e2, e3]
    rw [hbr] at hbl
    have HB := Lib.hid hbl; have HG := Lib.hid (SSaved.same h g hd)
    clear hbl e1 e2 e3 hbr h g hd hL hn h1 h2
    go_enter Try.func9, Try.ntmps9
    go_wp2_with fail
    refine HO.out.mono ?_
    rintro e w1 ⟨rfl, rfl⟩
    go_wp2_with fail
    refine HB.out.mono ?_
    rintro e w1 ⟨rfl, rfl⟩
    go_wp2
    go_ret
    exact ⟨rfl, HG.out⟩
  · have hbf : x.broken = false := by simpa using hbr
    unfold ssaveE ssaveX ssaveD
    simp only [if_neg hbr]
    rw [hbf] at hbl
    have hf := fun (w1 : World) (hb : Below w.heap.size w w1) (a1 : Option Addr) (c1 : Nat) (hl : Lies w1 w1.heap.size a1 ((sealL t).map bv)) => jput_any (h.fresh hb) a1 (t.length + 4) c1 (sealL t) (sealL_length t).symm hl hp
    have HS := Lib.hid (cseal_any ao cap t w.heap.size w.drew (hL.kept (S := fun _ => False) (Kept.drew (Kept.refl _ w)) (fun _ _ _ h => h)) (by omega))
    have c0 : w.cell? ⟨sb, 0, none⟩ = some (.pointer (some ⟨b, 0, none⟩)) := h1.c0
    have hsb := h1.lt
    generalize jput n (sealL t) s = r at *
    obtain ⟨s', er⟩ := r
    simp only at hf ⊢
    generalize hE : (if er = 0 then (0 : Int) else if er = 21 then 21 else 80) = E
    generalize hX : (if er = 0 then (⟨t, false, x.saves + 1⟩ : SS) else if er = 21 then x else ⟨x.text, true, x.saves⟩) = X
    have HE := Lib.hid hE; have HX := Lib.hid hX; clear hE hX
    have HF := Lib.hid hf; have HL := Lib.hid hL; have HN := Lib.hid hn; have HB := Lib.hid hbl; have HG := Lib.hid g; have HD := Lib.hid hd; have HBF := Lib.hid hbf
    clear hf hL hn h g hd hbl h1 h2 hbr hbf
    go_enter Try.func9, Try.ntmps9
    go_wp2_with fail
    refine HO.out.mono ?_
    rintro e w1 ⟨rfl, rfl⟩
    go_wp2_with fail
    refine HB.out.mono ?_
    rintro e w1 ⟨rfl, rfl⟩
    go_upto_region 5 with fail
    go_cut [18] (fun v18 wx => v18 = .int .i64 er ∧ Hid (SvI w D C sb b n s' x ao t wx))
    case first =>
      go_region_with (first
        | (go_at_call 15; refine HS.out.mono ?_; rintro e w1 ⟨a1, c1, rfl, ho1, b1⟩; have b1' : Below w.heap.size w w1 := Below.of_drew b1; have c01 : w1.cell? ⟨sb, 0, none⟩ = some (.pointer (some ⟨b, 0, none⟩)) := (b1'.cell (p := ⟨sb, 0, none⟩) hsb).trans c0; have HF1 := Lib.hid (HF.out w1 b1' a1 c1 (owns_lies ho1)); have B1 := Lib.hid b1'; clear ho1 b1 b1')
        | (go_at_call 19; refine HF1.out.mono ?_; rintro e w2 ⟨rfl, hj⟩; have HI := Lib.hid (SvI.of HG.out HD.out HL.out HN.out B1.out hj); clear hj))
      all_goals go_wp2_with fail
      all_goals go_meet
      all_goals exact ⟨rfl, HI⟩
    case rest =>
      obtain ⟨rfl, hi⟩ := hcut
      clear HF HS HO HB c0
      by_cases he : er = 0
      · obtain rfl : (0 : Int) = E := by rw [← HE.out, if_pos he]
        obtain rfl : (⟨t, false, x.saves + 1⟩ : SS) = X := by rw [← HX.out, if_pos he]
        clear HE HX
        subst he
        have HC := Lib.hid (clone_any ao cap t wc.heap.size wc hi.out.li (by omega))
        obtain ⟨c1, f1, c3, f3⟩ : (∃ u, wc.cell? ⟨sb, 1, none⟩ = some u) ∧ wc.frozen? ⟨sb, 1, none⟩ = false ∧ wc.cell? ⟨sb, 3, none⟩ = some (.int .i64 (x.saves : Int)) ∧ wc.frozen? ⟨sb, 3, none⟩ = false := by
          obtain ⟨_, _, _, ⟨⟨_, _, g1, _⟩, _, _⟩, _⟩ := hi.out.sv
          exact ⟨⟨_, g1.c1⟩, g1.f1, g1.c3, g1.f3⟩
        obtain ⟨u1, c1⟩ := c1
        have hsc : sb < wc.heap.size := World.block_lt_of_cell? _ _ c3
        go_wp2_with fail
        refine HC.out.mono ?_
        rintro e w3 ⟨a3, k3, rfl, ho3, b3⟩
        have d1 : w3.cell? ⟨sb, 1, none⟩ = some u1 := (b3.cell (p := ⟨sb, 1, none⟩) hsc).trans c1
        have d3 : w3.cell? ⟨sb, 3, none⟩ = some (.int .i64 (x.saves : Int)) := (b3.cell (p := ⟨sb, 3, none⟩) hsc).trans c3
        have z1 : w3.frozen? ⟨sb, 1, none⟩ = false := (b3.frozen (p := ⟨sb, 1, none⟩) hsc).trans f1
        have z3 : w3.frozen? ⟨sb, 3, none⟩ = false := (b3.frozen (p := ⟨sb, 3, none⟩) hsc).trans f3
        have HA := Lib.hid (aiadd_any sb (x.saves : Int) (w3.setCell ⟨sb, 1, none⟩ (.slice a3 t.length k3)) (by rw [World.cell?_setCell_other _ _ _ _ (by simp)]; exact d3) (by rw [World.frozen?_setCell]; exact z3) (by omega))
        have HT := Lib.hid (hi.out.sv.text ho3 b3 (by omega) (m := t.length) rfl (k := (x.saves : Int) + 1) rfl HBF.out); clear ho3 b3 HC
        go_wp2_with fail
        refine HA.out.mono ?_
        rintro e w4 ⟨rfl, rfl⟩
        go_wp2
        go_ret
        exact ⟨rfl, HT.out⟩
      · have HE2 := Lib.hid (HE.out.symm.trans (if_neg he)); have HX2 := Lib.hid (HX.out.symm.trans (if_neg he))
        clear HE HX
        have heb : (er == 0) = false := by simpa using he
        clear he
        by_cases h21 : er = 21
        · obtain rfl : E = 21 := by rw [HE2.out, if_pos h21]
          obtain rfl : X = x := by rw [HX2.out, if_pos h21]
          clear HE2 HX2
          subst h21
          go_wp2
          go_ret
          exact ⟨rfl, hi.out.sv⟩
        · obtain rfl : E = 80 := by rw [HE2.out, if_neg h21]
          obtain rfl : X = ⟨x.text, true, x.saves⟩ := by rw [HX2.out, if_neg h21]
          clear HE2 HX2
          have h21b : (er == 21) = false := by simpa using h21
          clear h21
          obtain ⟨c2, f2⟩ : (∃ u, wc.cell? ⟨sb, 2, none⟩ = some u) ∧ wc.frozen? ⟨sb, 2, none⟩ = false := by
            obtain ⟨_, _, _, ⟨⟨_, _, g1, _⟩, _, _⟩, _⟩ := hi.out.sv
            exact ⟨⟨_, g1.c2⟩, g1.f2⟩
          obtain ⟨u2, c2⟩ := c2
          have HA := Lib.hid (abstore_any sb u2 wc c2 f2)
          go_wp2_with fail
          refine HA.out.mono ?_
          rintro e w4 ⟨⟨v4, rfl⟩, rfl⟩
          go_wp2
          go_ret
          exact ⟨rfl, hi.out.sv.drew.broken⟩

end

end Go.Proofs.Ytgefbolnfenfcaa
