/-
  The reference's Read, whatever its reader.
-/
import Derived.Test.YtjnpmbdehalmpaaGreatGPt
import Derived.Test.YtjnpmbdehalmpaaGreatGR7
import Derived.Deep.CutBlock
import Derived.Deep.DeepCutAuto
namespace Go.Proofs.YtjnpmbdehalmpaaGreat
open Go.RowKit Go.Mk

/-- The reference's reader, the box that is filled, and the box of the result, in a world behind w. -/
structure Gl (w : World) (b : Nat) (r x : Nat) (ao : Option Addr) (cap : Nat) (s : RS) (d : DD) (wx : World) : Prop where
  rd : Mr wx b s
  res : Bz wx r none 0 zeroD
  box : Bz wx x ao cap d
  own : wx.ownsRow w.heap.size 9 1 (.slice ao d.vs.length cap) d.vs.length (strs d.vs)
  k : Kept (fun k => k = b) w wx
  ne : b < w.heap.size
  hr : w.heap.size ≤ r
  hx : w.heap.size ≤ x
  rx : r ≠ x
  ob : ∀ k, (Value.slice ao d.vs.length cap).ownBlock = some k → k ≠ x ∧ k ≠ r

theorem Gl.step {w : World} {b r x : Nat} {ao : Option Addr} {cap : Nat} {s s' : RS} {d : DD} {wx wy : World} (h : Gl w b r x ao cap s d wx) (hr : Mr wy b s') (hk : Kept (fun k => k = b) wx wy) : Gl w b r x ao cap s' d wy :=
  ⟨hr, h.res.kept hk (by have := h.hr; have := h.ne; omega), h.box.kept hk (by have := h.hx; have := h.ne; omega), owns_kept h.own hk (fun k hk e => by have := (owns_lt h.own k hk).1; have := h.ne; omega), h.k.trans hk (fun _ _ h => h), h.ne, h.hr, h.hx, h.rx, h.ob⟩

theorem Gl.rdput {w : World} {b r x : Nat} {ao : Option Addr} {cap : Nat} {s : RS} {d : DD} {wx : World} (h : Gl w b r x ao cap s d wx) (i : Nat) (v : Value) : Mr (wx.setCell ⟨x, i, none⟩ v) b s :=
  h.rd.kept (kept_at wx x i v) (by have := h.hx; have := h.ne; omega)

theorem Gl.put {w : World} {b r x : Nat} {ao : Option Addr} {cap : Nat} {s : RS} {d d' : DD} {wx : World} (h : Gl w b r x ao cap s d wx) (i : Nat) (v : Value) (hb : Bz (wx.setCell ⟨x, i, none⟩ v) x ao cap d') (hv : d'.vs = d.vs) : Gl w b r x ao cap s d' (wx.setCell ⟨x, i, none⟩ v) :=
  ⟨h.rdput i v, h.res.kept (kept_at wx x i v) h.rx, hb, by rw [hv]; exact owns_kept h.own (kept_at wx x i v) (fun k hk => (h.ob k hk).1), kept_put h.k h.hx, h.ne, h.hr, h.hx, h.rx, by rw [hv]; exact h.ob⟩

theorem Gl.put3 {w : World} {b r x : Nat} {ao ao' : Option Addr} {cap cap' z : Nat} {s : RS} {d : DD} {wx : World} (h : Gl w b r x ao cap s d wx) (l : List (List UInt8)) (ho : wx.ownsRow z 9 1 (.slice ao' l.length cap') l.length (strs l)) (h1 : x < z) (h2 : r < z) :
    Gl w b r x ao' cap' s { d with vs := l } (wx.setCell ⟨x, 3, none⟩ (.slice ao' l.length cap')) :=
  ⟨h.rdput 3 _, h.res.kept (kept_at wx x 3 _) h.rx, h.box.put3 l, owns_base (owns_kept ho (kept_at wx x 3 _) (fun k hk e => by have := (owns_lt ho k hk).1; omega)) (fun k hk => by have := (owns_lt ho k hk).1; have := h.hx; omega), kept_put h.k h.hx, h.ne, h.hr, h.hx, h.rx,
    fun k hk => by have := (owns_lt ho k hk).1; omega⟩

def RvPost (w : World) (b : Nat) (s' : RS) (d : DD) (er : Int) (e : Ending) (w' : World) : Prop :=
  ∃ ao cap, e = .returned (.tuple #[.agg #[.int .i64 d.k, .string (bs d.c), .string (bs d.p), .slice ao d.vs.length cap, .string (bs d.s), .string (bs d.t)], .int .i64 er]) ∧ w'.ownsRow w.heap.size 9 1 (.slice ao d.vs.length cap) d.vs.length (strs d.vs) ∧ Mr w' b s' ∧ Kept (fun k => k = b) w w'

set_option maxHeartbeats 1600000 in
set_option maxRecDepth 100000 in
theorem rread_any (b : Nat) (s : RS) (w : World) (h : Mr w b s) (hl : s.rest.length ≤ 1099511627776) :
    Calls Tryz.prog 91 #[.pointer (some ⟨b, 0, none⟩)] w (RvPost w b (fieldsR s).1 (judgeR (fieldsR s)).1 (judgeR (fieldsR s)).2) := by
  have hlt := h.lt
  have hz0 := bz_new w none 0 zeroD 46
  have hk0 := (Kept.refl (fun k => k = b) w).alloc (.cells #[.int .i64 0, .string ⟨#[]⟩, .string ⟨#[]⟩, .slice none 0 0, .string ⟨#[]⟩, .string ⟨#[]⟩] 46)
  have hr0 := h.kept (S := fun _ => False) ((Kept.refl _ w).alloc (.cells #[.int .i64 0, .string ⟨#[]⟩, .string ⟨#[]⟩, .slice none 0 0, .string ⟨#[]⟩, .string ⟨#[]⟩] 46)) (fun h => h)
  have HZ0 := Lib.hid hz0; have HK0 := Lib.hid hk0
  have HN := Lib.hid (mnum_any b s _ hr0 hl)
  have HS := Lib.hid (fields_s s hl)
  have HV := Lib.hid (fields_v s)
  have HL := Lib.hid (Nat.le_trans (num_len s) hl)
  clear hz0 hk0 hr0 h hl
  have hJ : judgeR (fieldsR s) = if (fieldsR s).1.err ≠ 0 then (zeroD, (fieldsR s).1.err) else if rightD (fieldsR s).2 = true then ((fieldsR s).2, 0) else (zeroD, 31) := rfl
  have HJ := Lib.hid hJ; clear hJ
  have hF : fieldsR s = if s.num.2 = 1 then (s.num.1.text.1.text.1.texts.1, ⟨1, s.num.1.text.2, s.num.1.text.1.text.2, s.num.1.text.1.text.1.texts.2, [], []⟩)
    else if s.num.2 = 2 then (s.num.1.text.1.text.1.text.1, ⟨2, s.num.1.text.2, [], [], s.num.1.text.1.text.2, s.num.1.text.1.text.1.text.2⟩)
    else (s.num.1, ⟨s.num.2, [], [], [], [], []⟩) := rfl
  have HF := Lib.hid hF; clear hF
  generalize judgeR (fieldsR s) = jj at *
  generalize fieldsR s = r at *
  generalize s.num = q at *
  obtain ⟨s1, n⟩ := q
  obtain ⟨s', d⟩ := r
  obtain ⟨d', er⟩ := jj
  dsimp only at HN HS HJ HV HL HF
  go_enter Tryz.func91, Tryz.ntmps91
  go_wp2_with fail
  refine HN.out.mono ?_
  rintro e w1 ⟨rfl, r1, k1⟩
  have HR1 := Lib.hid r1; have K1 := Lib.hid k1; clear r1 k1
  go_upto_if 10 with fail
  have fl : Gl w b w.heap.size w1.heap.size none 0 s1 ⟨n, [], [], [], [], []⟩ (w1.alloc (.cells #[.int .i64 n, .string ⟨#[]⟩, .string ⟨#[]⟩, .slice none 0 0, .string ⟨#[]⟩, .string ⟨#[]⟩] 46)) := by
    have hsz := K1.out.size
    rw [World.size_alloc] at hsz
    exact ⟨HR1.out.kept (S := fun _ => False) ((Kept.refl _ w1).alloc _) (fun h => h), (HZ0.out.kept K1.out (by omega)).kept (S := fun _ => False) ((Kept.refl _ w1).alloc _) (fun h => h), bz_new w1 none 0 ⟨n, [], [], [], [], []⟩ _, World.ownsRow_nil _ _ _ _,
      (HK0.out.trans K1.out (fun _ _ h => h)).alloc _, hlt, Nat.le_refl _, by omega, by omega, fun k hk => by cases hk⟩
  have FL := Lib.hid fl; clear fl
  have L2 := Lib.hid (Nat.le_trans (text_len1 s1) HL.out)
  have L3 := Lib.hid (Nat.le_trans (text_len1 s1.text.1) L2.out)
  go_cut [] (fun wx => (n = 1 ∧ ∃ ao cap, Gl w b w.heap.size w1.heap.size ao cap s' d wx) ∨ (n ≠ 1 ∧ Gl w b w.heap.size w1.heap.size none 0 s1 ⟨n, [], [], [], [], []⟩ wx))
  case first =>
    by_cases h1 : n = 1
    · subst h1
      go_wp2_with fail
      refine (mtext_any b s1 _ FL.out.rd HL.out).mono ?_
      rintro e w2 ⟨rfl, r3, k3⟩
      have F2 := Lib.hid (FL.out.step r3 k3); clear r3 k3
      have m1 := F2.out.box.f1
      have m2 := F2.out.box.bx.c1
      have F3 := Lib.hid (F2.out.put 1 _ (F2.out.box.put1 s1.text.2) (by rfl))
      go_wp2_with fail
      refine (mtext_any b s1.text.1 _ F3.out.rd L2.out).mono ?_
      rintro e w3 ⟨rfl, r4, k4⟩
      have F4 := Lib.hid (F3.out.step r4 k4); clear r4 k4 m1 m2
      have m1 := F4.out.box.f2
      have m2 := F4.out.box.bx.c2
      have F5 := Lib.hid (F4.out.put 2 _ (F4.out.box.put2 s1.text.1.text.2) (by rfl))
      have hx5 := F5.out.box.lt
      have hr5 := F5.out.res.lt
      go_wp2_with fail
      refine (mtexts_any b s1.text.1.text.1 _ F5.out.rd L3.out).mono ?_
      rintro e w5 ⟨⟨aoT, capT, rfl, hoT⟩, r6, k6⟩
      have F6 := Lib.hid (F5.out.step r6 k6); clear r6 k6 m1 m2
      have m1 := F6.out.box.f3
      have m2 := F6.out.box.bx.c3
      have F7 := Lib.hid (F6.out.put3 _ hoT hx5 hr5); clear hoT hx5 hr5
      go_wp2_with fail
      go_meet
      case rel =>
        have := HF.out
        simp at this
        obtain ⟨rfl, rfl⟩ := this
        exact .inl ⟨by simp, _, _, F7.out⟩
    · have g1 : (n == 1) = false := by simpa using h1
      have H1 := Lib.hid h1; clear h1
      go_wp2_with fail
      go_meet
      case rel => exact .inr ⟨H1.out, FL.out⟩
  case rest =>
    have HC := Lib.hid hcut; clear hcut
    have c0 : wc.cell? ⟨w1.heap.size, 0, none⟩ = some (.int .i64 n) := by
      rcases HC.out with ⟨rfl, ao, cap, g⟩ | ⟨_, g⟩
      · have := g.box.bx.c0
        have hf := HF.out
        simp at hf
        obtain ⟨rfl, rfl⟩ := hf
        exact this
      · exact g.box.bx.c0
    go_upto_if 22 with fail
    go_cut [] (fun wx => ∃ ao cap, Gl w b w.heap.size w1.heap.size ao cap s' d wx)
    case first =>
      by_cases h2 : n = 2
      · subst h2
        have fl : Gl w b w.heap.size w1.heap.size none 0 s1 ⟨2, [], [], [], [], []⟩ wc := by
          rcases HC.out with ⟨h, _⟩ | ⟨_, g⟩
          · exact absurd h (by decide)
          · exact g
        have FL := Lib.hid fl; clear fl
        go_wp2_with fail
        refine (mtext_any b s1 _ FL.out.rd HL.out).mono ?_
        rintro e w2 ⟨rfl, r3, k3⟩
        have F2 := Lib.hid (FL.out.step r3 k3); clear r3 k3
        have m1 := F2.out.box.f1
        have m2 := F2.out.box.bx.c1
        have F3 := Lib.hid (F2.out.put 1 _ (F2.out.box.put1 s1.text.2) (by rfl))
        go_wp2_with fail
        refine (mtext_any b s1.text.1 _ F3.out.rd L2.out).mono ?_
        rintro e w3 ⟨rfl, r4, k4⟩
        have F4 := Lib.hid (F3.out.step r4 k4); clear r4 k4 m1 m2
        have m1 := F4.out.box.f4
        have m2 := F4.out.box.bx.c4
        have F5 := Lib.hid (F4.out.put 4 _ (F4.out.box.put4 s1.text.1.text.2) (by rfl))
        go_wp2_with fail
        refine (mtext_any b s1.text.1.text.1 _ F5.out.rd L3.out).mono ?_
        rintro e w5 ⟨rfl, r6, k6⟩
        have F6 := Lib.hid (F5.out.step r6 k6); clear r6 k6 m1 m2
        have m1 := F6.out.box.f5
        have m2 := F6.out.box.bx.c5
        have F7 := Lib.hid (F6.out.put 5 _ (F6.out.box.put5 s1.text.1.text.1.text.2) (by rfl))
        go_wp2_with fail
        go_meet
        case rel =>
          have := HF.out
          simp at this
          obtain ⟨rfl, rfl⟩ := this
          exact ⟨_, _, F7.out⟩
      · have g2 : (n == 2) = false := by simpa using h2
        have H2 := Lib.hid h2; clear h2
        go_wp2_with fail
        go_meet
        case rel =>
          rcases HC.out with ⟨_, g⟩ | ⟨h1, g⟩
          · exact g
          · have := HF.out
            rw [if_neg h1, if_neg H2.out] at this
            cases this
            exact ⟨_, _, g⟩
    case rest =>
      rename_i wd
      obtain ⟨ao, cap, fl⟩ := hcut
      clear c0
      have FX := Lib.hid fl; clear fl
      obtain ⟨⟨z0, z1, z2, z3, z4, z5⟩, f0, f1, f2, f3, f4, f5⟩ := FX.out.res
      obtain ⟨x0, x1, x2, x3, x4, x5⟩ := FX.out.box.bx
      have p1 := FX.out.rd.c1
      by_cases he : s'.err = 0
      · have he1 : (s'.err == 0) = true := by simp [he]
        have HE := Lib.hid he; clear he
        go_wp2_with fail
        refine (rright_any d ao cap _ wc (owns_lies FX.out.own) (owns_le FX.out.own) HV.out HS.out).mono ?_
        rintro e w3 ⟨rfl, k3⟩
        have HZ3 := Lib.hid (FX.out.res.kept k3 (fun h => h))
        have HBX3 := Lib.hid (FX.out.box.bx.kept k3 (fun h => h))
        have HO3 := Lib.hid (owns_kept FX.out.own k3 (fun _ _ h => h))
        have HR3 := Lib.hid (FX.out.rd.kept k3 (fun h => h))
        have HK3 := Lib.hid (FX.out.k.trans k3 (fun _ _ h => h.elim))
        clear z0 z1 z2 z3 z4 z5 f0 f1 f2 f3 f4 f5 x0 x1 x2 x3 x4 x5 k3 p1
        obtain ⟨⟨z0, z1, z2, z3, z4, z5⟩, f0, f1, f2, f3, f4, f5⟩ := HZ3.out
        obtain ⟨x0, x1, x2, x3, x4, x5⟩ := HBX3.out
        cases hr : rightD d with
        | true =>
          have HRT := Lib.hid hr; clear hr
          go_wp2
          have hb := HZ3.out.set ao cap d
          refine bodyPost_ret (results_box2 rfl rfl (load_def hb.bx)) rfl ?_
          have := HJ.out
          rw [if_neg (by simp [HE.out]), if_pos HRT.out] at this
          cases this
          exact ⟨ao, cap, rfl, owns_kept HO3.out (kept_setD w3 _ _ _ _) (fun k hk => (FX.out.ob k hk).2), HR3.out.kept (kept_setD w3 _ _ _ _) (by omega), kept_setD' HK3.out (Nat.le_refl _)⟩
        | false =>
          have HRT := Lib.hid hr; clear hr
          go_wp2
          have hb := HZ3.out.set none 0 zeroD
          refine bodyPost_ret (results_box2 rfl rfl (load_def hb.bx)) rfl ?_
          have := HJ.out
          rw [if_neg (by simp [HE.out]), if_neg (by simp [HRT.out])] at this
          cases this
          exact ⟨none, 0, rfl, World.ownsRow_nil _ _ _ _, HR3.out.kept (kept_setD w3 w.heap.size none 0 zeroD) (by omega), kept_setD' (r := w.heap.size) (ao := none) (cap := 0) (d := zeroD) HK3.out (Nat.le_refl _)⟩
      · have he1 : (s'.err == 0) = false := by simp [he]
        have HE := Lib.hid he; clear he
        go_wp2_with fail
        go_region
        all_goals go_wp2
        all_goals
          have kd : Kept (fun _ => False) (setD wc w.heap.size none 0 zeroD) (setD wc w.heap.size none 0 zeroD).drew := Kept.drew (Kept.refl _ _)
          have hb := (FX.out.res.set none 0 zeroD).bx.kept kd (fun h => h)
          refine bodyPost_ret (results_box2 rfl rfl (load_def hb)) rfl ?_
          have := HJ.out
          rw [if_pos HE.out] at this
          cases this
          exact ⟨none, 0, rfl, World.ownsRow_nil _ _ _ _, (FX.out.rd.kept (kept_setD wc w.heap.size none 0 zeroD) (by omega)).kept kd (fun h => h), (kept_setD' (r := w.heap.size) (ao := none) (cap := 0) (d := zeroD) FX.out.k (Nat.le_refl _)).drew⟩

end Go.Proofs.YtjnpmbdehalmpaaGreat
