/-
  CONTRACTS of the reference of layer 5: how its Store lies in memory; Format, Open, Save.
-/
import Derived.Test.YtgefbolnfenfcaaGreatR4c
import Derived.Test.YtgefbolnfenfcaaGreatGSa
namespace Go.Proofs.YtgefbolnfenfcaaGreat
open Go.RowKit Go.Mk

/-- The reference's Store at mb, of its disk at rb. -/
structure RSt (w : World) (mb rb : Nat) (x : SS) : Prop where
  c0 : w.cell? ⟨mb, 0, none⟩ = some (.pointer (some ⟨rb, 0, none⟩))
  c1 : w.cell? ⟨mb, 1, none⟩ = some (.string (bs x.text))
  c2 : w.cell? ⟨mb, 2, none⟩ = some (.bool x.broken)
  c3 : w.cell? ⟨mb, 3, none⟩ = some (.int .i64 (x.saves : Int))
  f1 : w.frozen? ⟨mb, 1, none⟩ = false
  f2 : w.frozen? ⟨mb, 2, none⟩ = false
  f3 : w.frozen? ⟨mb, 3, none⟩ = false

section
variable {w w' : World} {mb rb : Nat} {x : SS}

theorem RSt.lt (h : RSt w mb rb x) : mb < w.heap.size := World.block_lt_of_cell? _ _ h.c0

theorem RSt.kept {S : Nat → Prop} (h : RSt w mb rb x) (hk : Kept S w w') (h1 : ¬ S mb) : RSt w' mb rb x :=
  ⟨(hk.cell (p := ⟨mb, 0, none⟩) h.lt h1).trans h.c0, (hk.cell (p := ⟨mb, 1, none⟩) h.lt h1).trans h.c1, (hk.cell (p := ⟨mb, 2, none⟩) h.lt h1).trans h.c2, (hk.cell (p := ⟨mb, 3, none⟩) h.lt h1).trans h.c3,
    (hk.frozen (p := ⟨mb, 1, none⟩) h.lt h1).trans h.f1, (hk.frozen (p := ⟨mb, 2, none⟩) h.lt h1).trans h.f2, (hk.frozen (p := ⟨mb, 3, none⟩) h.lt h1).trans h.f3⟩

theorem RSt.fresh (h : RSt w mb rb x) (hb : Below w.heap.size w w') : RSt w' mb rb x := h.kept (kob (S := fun _ => False) hb (Nat.le_refl _)) (fun h => h)

theorem RSt.setText (h : RSt w mb rb x) (t : List UInt8) : RSt (w.setCell ⟨mb, 1, none⟩ (.string (bs t))) mb rb ⟨t, x.broken, x.saves⟩ := by
  refine ⟨?_, World.cell?_setCell_same _ _ _ h.c1, ?_, ?_, ?_, ?_, ?_⟩
  · rw [World.cell?_setCell_other _ _ _ _ (by simp)]; exact h.c0
  · rw [World.cell?_setCell_other _ _ _ _ (by simp)]; exact h.c2
  · rw [World.cell?_setCell_other _ _ _ _ (by simp)]; exact h.c3
  · rw [World.frozen?_setCell]; exact h.f1
  · rw [World.frozen?_setCell]; exact h.f2
  · rw [World.frozen?_setCell]; exact h.f3
theorem RSt.setBroken (h : RSt w mb rb x) : RSt (w.setCell ⟨mb, 2, none⟩ (.bool true)) mb rb ⟨x.text, true, x.saves⟩ := by
  refine ⟨?_, ?_, World.cell?_setCell_same _ _ _ h.c2, ?_, ?_, ?_, ?_⟩
  · rw [World.cell?_setCell_other _ _ _ _ (by simp)]; exact h.c0
  · rw [World.cell?_setCell_other _ _ _ _ (by simp)]; exact h.c1
  · rw [World.cell?_setCell_other _ _ _ _ (by simp)]; exact h.c3
  · rw [World.frozen?_setCell]; exact h.f1
  · rw [World.frozen?_setCell]; exact h.f2
  · rw [World.frozen?_setCell]; exact h.f3
theorem RSt.setSaves (h : RSt w mb rb x) (m : Nat) (mI : Int) (hm : mI = m) : RSt (w.setCell ⟨mb, 3, none⟩ (.int .i64 mI)) mb rb ⟨x.text, x.broken, m⟩ := by
  subst hm
  refine ⟨?_, ?_, ?_, World.cell?_setCell_same _ _ _ h.c3, ?_, ?_, ?_⟩
  · rw [World.cell?_setCell_other _ _ _ _ (by simp)]; exact h.c0
  · rw [World.cell?_setCell_other _ _ _ _ (by simp)]; exact h.c1
  · rw [World.cell?_setCell_other _ _ _ _ (by simp)]; exact h.c2
  · rw [World.frozen?_setCell]; exact h.f1
  · rw [World.frozen?_setCell]; exact h.f2
  · rw [World.frozen?_setCell]; exact h.f3

theorem RSt.made (w : World) (rb : Nat) (t : List UInt8) (ty : TypeId) : RSt (w.alloc (.cells #[.pointer (some ⟨rb, 0, none⟩), .string (bs t), .bool false, .int .i64 0] ty)) w.heap.size rb ⟨t, false, 0⟩ := by
  have hc : ∀ i, (w.alloc (.cells #[.pointer (some ⟨rb, 0, none⟩), .string (bs t), .bool false, .int .i64 0] ty)).cell? ⟨w.heap.size, i, none⟩ = _ := fun i => World.cell?_alloc_new w _ ty i
  exact ⟨hc 0, hc 1, hc 2, hc 3, by simp, by simp, by simp⟩
end

section
variable {w : World} {M : Nat → Prop} {mb rb n : Nat} {s : DS} {x : SS}

/-- What Format and Open leave. -/
def RMade (w : World) (M : Nat → Prop) (rb n : Nat) (s' : DS) (er : Int) (x : SS) (e : Ending) (w' : World) : Prop :=
  ∃ M', RkS w' M' rb n s' ∧ (∀ i, M' i → M i ∨ w.heap.size ≤ i) ∧ Kept M w w' ∧
    ((er ≠ 0 ∧ e = .returned (.tuple #[.pointer none, .int .i64 er])) ∨
      (er = 0 ∧ ∃ mb, e = .returned (.tuple #[.pointer (some ⟨mb, 0, none⟩), .int .i64 0]) ∧ RSt w' mb rb x ∧ w.heap.size ≤ mb ∧ ¬ M' mb))

theorem RMade.none_ {w' : World} {s' : DS} {er : Int} (h : RDid w M rb n s' w') (he : er ≠ 0) : RMade w M rb n s' er x (.returned (.tuple #[.pointer none, .int .i64 er])) w' := by
  obtain ⟨M', h1, h2, h3⟩ := h
  exact ⟨M', h1, h2, h3, .inl ⟨he, rfl⟩⟩

theorem RMade.some_ {w2 : World} {s' : DS} {t : List UInt8} {z : Nat} (h : RDid w M rb n s' w2) (ty : TypeId) (hz : z = w2.heap.size) :
    RMade w M rb n s' 0 ⟨t, false, 0⟩ (.returned (.tuple #[.pointer (some ⟨z, 0, none⟩), .int .i64 0])) (w2.alloc (.cells #[.pointer (some ⟨rb, 0, none⟩), .string (bs t), .bool false, .int .i64 0] ty)) := by
  subst hz
  obtain ⟨M', h1, h2, h3⟩ := h
  have hb : Below w2.heap.size w2 (w2.alloc (.cells #[.pointer (some ⟨rb, 0, none⟩), .string (bs t), .bool false, .int .i64 0] ty)) := (Below.refl _ _).alloc (Nat.le_refl _) _
  exact ⟨M', h1.fresh hb, h2, h3.alloc _, .inr ⟨rfl, w2.heap.size, rfl, RSt.made w2 rb t ty, h3.size, fun h => by have := h1.lt _ h; omega⟩⟩

theorem RDid.fresh5 {w1 w2 : World} {s2 : DS} (h : RDid w M rb n s2 w1) (hb : Below w1.heap.size w1 w2) : RDid w M rb n s2 w2 := by
  obtain ⟨M', h1, h2, h3⟩ := h
  exact ⟨M', h1.fresh hb, h2, h3.trans (kob (S := fun _ => False) hb (Nat.le_refl _)) (fun _ _ h => h.elim)⟩

set_option maxHeartbeats 400000 in
theorem rformat5_any (h : RkS w M rb n s) (t : List UInt8) (ht : t.length ≤ 1000000) (hn : n ≤ 10000) (hp : s.ws.length ≤ 700000) :
    Calls Tryz.prog 18 #[.pointer (some ⟨rb, 0, none⟩), .string (bs t)] w (RMade w M rb n (jformat n (sealL t) s).1 (jformat n (sealL t) s).2 ⟨t, false, 0⟩) := by
  have hf := fun (w1 : World) (hb : Below w.heap.size w w1) => rformat_any (h.fresh hb) (sealL t) (by rw [sealL_length]; omega) hn (by omega)
  have HM := Lib.hid h.lt
  have HS := Lib.hid (rseal2_any t w (by omega))
  generalize jformat n (sealL t) s = r at *
  obtain ⟨s', er⟩ := r
  simp only at hf ⊢
  generalize sealL t = st at *
  have HF := Lib.hid hf; clear hf h
  by_cases he : er = 0
  · subst he
    go_enter Tryz.func18, Tryz.ntmps18
    go_wp2_with fail
    refine HS.out.mono ?_
    rintro e w1 ⟨rfl, b1⟩
    have HF1 := Lib.hid (HF.out w1 b1); have B1 := Lib.hid b1; clear b1
    go_wp2_with fail
    refine HF1.out.mono ?_
    rintro e w2 ⟨rfl, hj⟩
    have HJ := Lib.hid (RDid.after B1.out hj HM.out); clear hj
    go_wp2
    go_ret2
    exact RMade.some_ HJ.out _ rfl
  · have heb : (er != 0) = true := by simpa using he
    have HE := Lib.hid he; clear he
    go_enter Tryz.func18, Tryz.ntmps18
    go_wp2_with fail
    refine HS.out.mono ?_
    rintro e w1 ⟨rfl, b1⟩
    have HF1 := Lib.hid (HF.out w1 b1); have B1 := Lib.hid b1; clear b1
    go_wp2_with fail
    refine HF1.out.mono ?_
    rintro e w2 ⟨rfl, hj⟩
    have HJ := Lib.hid (RDid.after B1.out hj HM.out); clear hj
    go_wp2
    go_ret2
    exact RMade.none_ HJ.out HE.out

theorem rec_len5 (n : Nat) (hn : n ≤ 65536) (s : DS) (hl : (image s.base s.ws).length = 64 * n) : (jrec n s).1.ws.length ≤ s.ws.length + 100000 := by
  unfold jrec
  split
  · simp
  · refine Nat.le_trans (DS.run_len _ _) ?_
    have ha : areaN n ≤ 32767 := by unfold areaN; omega
    have hj := jrL_length (n := n) hl
    unfold recOps
    split
    · simp
    · split
      · simp only [homeOps, List.length_append, blk_length, hj, headL_length]
        omega
      · simp [blk_length, headL_length]

set_option maxHeartbeats 400000 in
theorem ropen5_any (h : RkS w M rb n s) (hn : n ≤ 10000) (hp : s.ws.length ≤ 500000) :
    Calls Tryz.prog 16 #[.pointer (some ⟨rb, 0, none⟩)] w (RMade w M rb n (jrec n s).1 (sopenE n s) ⟨sopenT n s, false, 0⟩) := by
  obtain ⟨_, hn2, hbl, hok⟩ := h.n1
  have ha : areaN n ≤ 5000 := by unfold areaN; omega
  have hre := rrec_any h hn (by omega)
  have hil : (image s.base s.ws).length = 64 * n := image_length s.ws s.base hbl hok
  have hlen := rec_len5 n hn2 s hil
  clear hil hbl hok
  unfold sopenE sopenT
  generalize jrec n s = r at *
  obtain ⟨s', er⟩ := r
  simp only at hre hlen ⊢
  have hg := fun (w1 : World) (M1 : Nat → Prop) (hd : RkS w1 M1 rb n s') => rget_any hd hn (by omega)
  have hgl := jget_len n (image s'.base s'.ws)
  generalize jget n (image s'.base s'.ws) = G at *
  obtain ⟨gl, ge⟩ := G
  simp only at hg hgl ⊢
  have hgl : gl.length ≤ 1073741824 := by omega
  have hco := fun (w1 : World) => ropen2_any gl w1 hgl
  generalize openB gl = O at *
  obtain ⟨ol, oe⟩ := O
  simp only at hco ⊢
  have HRE := Lib.hid hre; have HG := Lib.hid hg; have HCO := Lib.hid hco; clear hre hg hco h
  by_cases he : er = 0
  · subst he
    by_cases hge : ge = 0
    · subst hge
      by_cases hoe : oe = 0
      · subst hoe
        simp only [ne_eq, not_true_eq_false, if_false]
        go_enter Tryz.func16, Tryz.ntmps16
        go_wp2_with fail
        refine HRE.out.mono ?_
        rintro e w1 ⟨rfl, hj⟩
        have hgg := hj
        obtain ⟨D1, hd1, _, _⟩ := hgg
        have HG1 := Lib.hid (HG.out w1 D1 hd1); have HJ := Lib.hid hj; clear hj hd1
        go_wp2_with fail
        refine HG1.out.mono ?_
        rintro e w2 ⟨rfl, b2⟩
        have HC2 := Lib.hid (HCO.out w2); have HJ2 := Lib.hid (RDid.fresh5 HJ.out b2); clear b2 HG1
        go_wp2_with fail
        refine HC2.out.mono ?_
        rintro e w3 ⟨rfl, b3⟩
        have HJ3 := Lib.hid (RDid.fresh5 HJ2.out b3); clear b3
        go_wp2
        go_ret2
        exact RMade.some_ HJ3.out _ rfl
      · have hob : (oe != 0) = true := by simpa using hoe
        have HE := Lib.hid hoe; clear hoe
        simp only [ne_eq, not_true_eq_false, if_false]
        go_enter Tryz.func16, Tryz.ntmps16
        go_wp2_with fail
        refine HRE.out.mono ?_
        rintro e w1 ⟨rfl, hj⟩
        have hgg := hj
        obtain ⟨D1, hd1, _, _⟩ := hgg
        have HG1 := Lib.hid (HG.out w1 D1 hd1); have HJ := Lib.hid hj; clear hj hd1
        go_wp2_with fail
        refine HG1.out.mono ?_
        rintro e w2 ⟨rfl, b2⟩
        have HC2 := Lib.hid (HCO.out w2); have HJ2 := Lib.hid (RDid.fresh5 HJ.out b2); clear b2 HG1
        go_wp2_with fail
        refine HC2.out.mono ?_
        rintro e w3 ⟨rfl, b3⟩
        have HJ3 := Lib.hid (RDid.fresh5 HJ2.out b3); clear b3
        go_wp2
        go_ret2
        exact RMade.none_ HJ3.out HE.out
    · have hgb : (ge != 0) = true := by simpa using hge
      have HE := Lib.hid hge
      rw [if_neg (by simp), if_pos hge]
      clear hge
      go_enter Tryz.func16, Tryz.ntmps16
      go_wp2_with fail
      refine HRE.out.mono ?_
      rintro e w1 ⟨rfl, hj⟩
      have hgg := hj
      obtain ⟨D1, hd1, _, _⟩ := hgg
      have HG1 := Lib.hid (HG.out w1 D1 hd1); have HJ := Lib.hid hj; clear hj hd1
      go_wp2_with fail
      refine HG1.out.mono ?_
      rintro e w2 ⟨rfl, b2⟩
      have HJ2 := Lib.hid (RDid.fresh5 HJ.out b2); clear b2 HG1
      go_wp2
      go_ret2
      exact RMade.none_ HJ2.out HE.out
  · have heb : (er != 0) = true := by simpa using he
    have HE := Lib.hid he
    rw [if_pos he]
    clear he
    go_enter Tryz.func16, Tryz.ntmps16
    go_wp2_with fail
    refine HRE.out.mono ?_
    rintro e w1 ⟨rfl, hj⟩
    have HJ := Lib.hid hj; clear hj
    go_wp2
    go_ret2
    exact RMade.none_ HJ.out HE.out

/-- What Save leaves. -/
def RSaved (w : World) (M : Nat → Prop) (mb rb n : Nat) (s' : DS) (x' : SS) (w' : World) : Prop :=
  ∃ M', RkS w' M' rb n s' ∧ RSt w' mb rb x' ∧ (∀ i, M' i → M i ∨ w.heap.size ≤ i) ∧ ¬ M' mb ∧ Kept (fun k => M k ∨ k = mb) w w'

theorem RSaved.same (h : RkS w M rb n s) (g : RSt w mb rb x) (hd : ¬ M mb) : RSaved w M mb rb n s x w := ⟨M, h, g, fun _ h => .inl h, hd, Kept.refl _ _⟩
theorem RSaved.disk {w' : World} {s' : DS} (g : RSt w mb rb x) (hd : ¬ M mb) (h : RDid w M rb n s' w') : RSaved w M mb rb n s' x w' := by
  obtain ⟨M', h1, h2, h3⟩ := h
  refine ⟨M', h1, g.kept h3 hd, h2, fun h' => ?_, h3.mono (fun _ _ h => .inl h)⟩
  rcases h2 _ h' with h | h
  · exact hd h
  · have := g.lt; omega
theorem RSaved.set {w' : World} {s' : DS} {x' : SS} (h : RSaved w M mb rb n s' x w') (i : Nat) (v : Value) (hx : RSt (w'.setCell ⟨mb, i, none⟩ v) mb rb x') : RSaved w M mb rb n s' x' (w'.setCell ⟨mb, i, none⟩ v) := by
  obtain ⟨M', h1, h2, h3, h4, h5⟩ := h
  have kp : Kept (fun k => k = mb) w' (w'.setCell ⟨mb, i, none⟩ v) := Kept.setCell (p := ⟨mb, i, none⟩) (Kept.refl (fun k => k = mb) w') (fun _ => rfl) _
  exact ⟨M', h1.kept kp (fun k hk e => h4 (by subst e; exact hk)), hx, h3, h4, h5.trans kp (fun _ _ h => .inr h)⟩

/-- Behind Put. -/
theorem RSaved.of {w1 w2 : World} {s' : DS} (g : RSt w mb rb x) (hd : ¬ M mb) (hlt : ∀ k, M k → k < w.heap.size) (hb : Below w.heap.size w w1) (h : RDid w1 M rb n s' w2) : RSaved w M mb rb n s' x w2 :=
  RSaved.disk g hd (RDid.after hb h hlt)

set_option maxHeartbeats 1000000 in
theorem rsave5_any (h : RkS w M rb n s) (g : RSt w mb rb x) (hd : ¬ M mb) (t : List UInt8) (ht : t.length ≤ 1000000) (hx : x.saves ≤ 1000000) (hn : n ≤ 10000) (hp : s.ws.length ≤ 700000) :
    Calls Tryz.prog 10 #[.pointer (some ⟨mb, 0, none⟩), .string (bs t)] w fun e w' => e = .returned (.int .i64 (ssaveE n t x s)) ∧ RSaved w M mb rb n (ssaveD n t x s) (ssaveX n t x s) w' := by
  have c2 := g.c2
  by_cases hbr : x.broken = true
  · have e1 : ssaveE n t x s = 80 := by unfold ssaveE; rw [if_pos hbr]
    have e2 : ssaveX n t x s = x := by unfold ssaveX; rw [if_pos hbr]
    have e3 : ssaveD n t x s = s := by unfold ssaveD; rw [if_pos hbr]
    rw [e1, e2, e3]
    rw [hbr] at c2
    have HG := Lib.hid (RSaved.same h g hd)
    clear e1 e2 e3 hbr h g hd
    go_enter Tryz.func10, Tryz.ntmps10
    go_wp2
    go_ret
    exact ⟨rfl, HG.out⟩
  · have hbf : x.broken = false := by simpa using hbr
    unfold ssaveE ssaveX ssaveD
    simp only [if_neg hbr]
    rw [hbf] at c2
    have hf := fun (w1 : World) (hb : Below w.heap.size w w1) => rput_any (h.fresh hb) (sealL t) (by rw [sealL_length]; omega) hn hp
    have HS := Lib.hid (rseal2_any t w.drew (by omega))
    have c0 : w.cell? ⟨mb, 0, none⟩ = some (.pointer (some ⟨rb, 0, none⟩)) := g.c0
    have hsb := g.lt
    have HM := Lib.hid h.lt
    generalize jput n (sealL t) s = r at *
    obtain ⟨s', er⟩ := r
    simp only at hf ⊢
    generalize sealL t = st at *
    generalize hE : (if er = 0 then (0 : Int) else if er = 21 then 21 else 80) = E
    generalize hX : (if er = 0 then (⟨t, false, x.saves + 1⟩ : SS) else if er = 21 then x else ⟨x.text, true, x.saves⟩) = X
    have HE := Lib.hid hE; have HX := Lib.hid hX; clear hE hX
    have HF := Lib.hid hf; have HG := Lib.hid g; have HD := Lib.hid hd; have HBF := Lib.hid hbf
    clear hf h g hd hbr hbf
    go_enter Tryz.func10, Tryz.ntmps10
    go_upto_region 3 with fail
    go_cut [5] (fun v5 wx => v5 = .int .i64 er ∧ Hid (RSaved w M mb rb n s' x wx))
    case first =>
      go_region_with (first
        | (go_at_call 35; refine HS.out.mono ?_; rintro e w1 ⟨rfl, b1⟩; have b1' : Below w.heap.size w w1 := Below.of_drew b1; have c01 : w1.cell? ⟨mb, 0, none⟩ = some (.pointer (some ⟨rb, 0, none⟩)) := (b1'.cell (p := ⟨mb, 0, none⟩) hsb).trans c0; have HF1 := Lib.hid (HF.out w1 b1'); have B1 := Lib.hid b1'; clear b1 b1')
        | (go_at_call 34; refine HF1.out.mono ?_; rintro e w2 ⟨rfl, hj⟩; have HI := Lib.hid (RSaved.of HG.out HD.out HM.out B1.out hj); clear hj))
      all_goals go_wp2_with fail
      all_goals go_meet
      all_goals exact ⟨rfl, HI⟩
    case rest =>
      obtain ⟨rfl, hi⟩ := hcut
      clear HF HS c0 c2
      obtain ⟨g1, f1, g2, f2, g3, f3, hst⟩ : wc.cell? ⟨mb, 1, none⟩ = some (.string (bs x.text)) ∧ wc.frozen? ⟨mb, 1, none⟩ = false ∧ wc.cell? ⟨mb, 2, none⟩ = some (.bool x.broken) ∧ wc.frozen? ⟨mb, 2, none⟩ = false ∧ wc.cell? ⟨mb, 3, none⟩ = some (.int .i64 (x.saves : Int)) ∧ wc.frozen? ⟨mb, 3, none⟩ = false ∧ RSt wc mb rb x := by
        obtain ⟨_, _, g, _⟩ := hi.out
        exact ⟨g.c1, g.f1, g.c2, g.f2, g.c3, g.f3, g⟩
      have HST := Lib.hid hst; clear hst
      by_cases he : er = 0
      · obtain rfl : (0 : Int) = E := by rw [← HE.out, if_pos he]
        obtain rfl : (⟨t, false, x.saves + 1⟩ : SS) = X := by rw [← HX.out, if_pos he]
        clear HE HX
        subst he
        have k3 : (wc.setCell ⟨mb, 1, none⟩ (.string (bs t))).cell? ⟨mb, 3, none⟩ = some (.int .i64 (x.saves : Int)) := by rw [World.cell?_setCell_other _ _ _ _ (by simp)]; exact g3
        have z3 : (wc.setCell ⟨mb, 1, none⟩ (.string (bs t))).frozen? ⟨mb, 3, none⟩ = false := by rw [World.frozen?_setCell]; exact f3
        have ew : wrap64 ((x.saves : Int) + 1) = (x.saves : Int) + 1 := by unfold wrap64; omega
        have s1 := HST.out.setText t
        have s2 := s1.setSaves (x.saves + 1) ((x.saves : Int) + 1) (by omega)
        simp only [HBF.out] at s2
        have HT := Lib.hid (((hi.out.set 1 _ s1).set 3 _ s2)); clear s1 s2 HST
        go_wp2
        go_ret
        exact ⟨rfl, HT.out⟩
      · have HE2 := Lib.hid (HE.out.symm.trans (if_neg he)); have HX2 := Lib.hid (HX.out.symm.trans (if_neg he))
        clear HE HX
        have heb : (er == 0) = false := by simpa using he
        have heb2 : (er != 0) = true := by simpa using he
        clear he
        by_cases h21 : er = 21
        · obtain rfl : E = 21 := by rw [HE2.out, if_pos h21]
          obtain rfl : X = x := by rw [HX2.out, if_pos h21]
          clear HE2 HX2
          subst h21
          go_wp2
          go_ret
          exact ⟨rfl, hi.out⟩
        · obtain rfl : E = 80 := by rw [HE2.out, if_neg h21]
          obtain rfl : X = ⟨x.text, true, x.saves⟩ := by rw [HX2.out, if_neg h21]
          clear HE2 HX2
          have h21b : (er == 21) = false := by simpa using h21
          clear h21
          have HT := Lib.hid (hi.out.set 2 _ HST.out.setBroken)
          go_wp2
          go_ret
          exact ⟨rfl, HT.out⟩

end

end Go.Proofs.YtgefbolnfenfcaaGreat
