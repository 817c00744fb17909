/-
  Lemmas towards the claim of this folder: contracts of the functions that the law reaches; joined texts.
-/
import Derived.Test.YtecjecdgjmipcaaGreatPt
import Derived.Test.YtecjecdgjmipcaaGreatDv
import Derived.Test.YtecjecdgjmipcaaGreatGR7
import Derived.Deep.CutBlock
import Derived.Deep.DeepCutAuto
import Derived.Test.YtecjecdgjmipcaaGreatGR8
import Derived.Test.YtecjecdgjmipcaaGreatPp
import Derived.Test.YtecjecdgjmipcaaGreatGTh
import Derived.Test.YtecjecdgjmipcaaGreatGL7
import Derived.Deep.RegionHeld
/-
  The reference's Read, whatever its reader.
-/
namespace Go.Proofs.YtecjecdgjmipcaaGreat
open Go.RowKit Go.Mk

/-- The reference's reader, the box that is filled, and the box of the result, in a world behind w. -/
structure Gl (w : World) (b : Nat) (r x : Nat) (ao : Option Addr) (cap : Nat) (s : RS) (d : DD) (wx : World) : Prop where
  rd : Mr wx b s
  res : Bz wx r none 0 zeroD
  box : Bz wx x ao cap d
  own : wx.ownsRow w.heap.size 9 1 (.slice ao d.vs.length cap) d.vs.length (strs d.vs)
  k : Kept (fun k => k = b) w wx
  ne : b < w.heap.size
  hr : w.heap.size ≤ r
  hx : w.heap.size ≤ x
  rx : r ≠ x
  ob : ∀ k, (Value.slice ao d.vs.length cap).ownBlock = some k → k ≠ x ∧ k ≠ r

theorem Gl.step {w : World} {b r x : Nat} {ao : Option Addr} {cap : Nat} {s s' : RS} {d : DD} {wx wy : World} (h : Gl w b r x ao cap s d wx) (hr : Mr wy b s') (hk : Kept (fun k => k = b) wx wy) : Gl w b r x ao cap s' d wy :=
  ⟨hr, h.res.kept hk (by have := h.hr; have := h.ne; omega), h.box.kept hk (by have := h.hx; have := h.ne; omega), owns_kept h.own hk (fun k hk e => by have := (owns_lt h.own k hk).1; have := h.ne; omega), h.k.trans hk (fun _ _ h => h), h.ne, h.hr, h.hx, h.rx, h.ob⟩

theorem Gl.rdput {w : World} {b r x : Nat} {ao : Option Addr} {cap : Nat} {s : RS} {d : DD} {wx : World} (h : Gl w b r x ao cap s d wx) (i : Nat) (v : Value) : Mr (wx.setCell ⟨x, i, none⟩ v) b s :=
  h.rd.kept (kept_at wx x i v) (by have := h.hx; have := h.ne; omega)

theorem Gl.put {w : World} {b r x : Nat} {ao : Option Addr} {cap : Nat} {s : RS} {d d' : DD} {wx : World} (h : Gl w b r x ao cap s d wx) (i : Nat) (v : Value) (hb : Bz (wx.setCell ⟨x, i, none⟩ v) x ao cap d') (hv : d'.vs = d.vs) : Gl w b r x ao cap s d' (wx.setCell ⟨x, i, none⟩ v) :=
  ⟨h.rdput i v, h.res.kept (kept_at wx x i v) h.rx, hb, by rw [hv]; exact owns_kept h.own (kept_at wx x i v) (fun k hk => (h.ob k hk).1), kept_put h.k h.hx, h.ne, h.hr, h.hx, h.rx, by rw [hv]; exact h.ob⟩

theorem Gl.put3 {w : World} {b r x : Nat} {ao ao' : Option Addr} {cap cap' z : Nat} {s : RS} {d : DD} {wx : World} (h : Gl w b r x ao cap s d wx) (l : List (List UInt8)) (ho : wx.ownsRow z 9 1 (.slice ao' l.length cap') l.length (strs l)) (h1 : x < z) (h2 : r < z) :
    Gl w b r x ao' cap' s { d with vs := l } (wx.setCell ⟨x, 3, none⟩ (.slice ao' l.length cap')) :=
  ⟨h.rdput 3 _, h.res.kept (kept_at wx x 3 _) h.rx, h.box.put3 l, owns_base (owns_kept ho (kept_at wx x 3 _) (fun k hk e => by have := (owns_lt ho k hk).1; omega)) (fun k hk => by have := (owns_lt ho k hk).1; have := h.hx; omega), kept_put h.k h.hx, h.ne, h.hr, h.hx, h.rx,
    fun k hk => by have := (owns_lt ho k hk).1; omega⟩

def RvPost (w : World) (b : Nat) (s' : RS) (d : DD) (er : Int) (e : Ending) (w' : World) : Prop :=
  ∃ ao cap, e = .returned (.tuple #[.agg #[.int .i64 d.k, .string (bs d.c), .string (bs d.p), .slice ao d.vs.length cap, .string (bs d.s), .string (bs d.t)], .int .i64 er]) ∧ w'.ownsRow w.heap.size 9 1 (.slice ao d.vs.length cap) d.vs.length (strs d.vs) ∧ Mr w' b s' ∧ Kept (fun k => k = b) w w'

set_option maxHeartbeats 1600000 in
set_option maxRecDepth 100000 in
theorem rread_any (b : Nat) (s : RS) (w : World) (h : Mr w b s) (hl : s.rest.length ≤ 1099511627776) :
    Calls Tryz.prog 70 #[.pointer (some ⟨b, 0, none⟩)] w (RvPost w b (fieldsR s).1 (judgeR (fieldsR s)).1 (judgeR (fieldsR s)).2) := by
  have hlt := h.lt
  have hz0 := bz_new w none 0 zeroD 49
  have hk0 := (Kept.refl (fun k => k = b) w).alloc (.cells #[.int .i64 0, .string ⟨#[]⟩, .string ⟨#[]⟩, .slice none 0 0, .string ⟨#[]⟩, .string ⟨#[]⟩] 49)
  have hr0 := h.kept (S := fun _ => False) ((Kept.refl _ w).alloc (.cells #[.int .i64 0, .string ⟨#[]⟩, .string ⟨#[]⟩, .slice none 0 0, .string ⟨#[]⟩, .string ⟨#[]⟩] 49)) (fun h => h)
  have HZ0 := Lib.hid hz0; have HK0 := Lib.hid hk0
  have HN := Lib.hid (mnum_any b s _ hr0 hl)
  have HS := Lib.hid (fields_s s hl)
  have HV := Lib.hid (fields_v s)
  have HL := Lib.hid (Nat.le_trans (num_len s) hl)
  clear hz0 hk0 hr0 h hl
  have hJ : judgeR (fieldsR s) = if (fieldsR s).1.err ≠ 0 then (zeroD, (fieldsR s).1.err) else if rightD (fieldsR s).2 = true then ((fieldsR s).2, 0) else (zeroD, 31) := rfl
  have HJ := Lib.hid hJ; clear hJ
  have hF : fieldsR s = if s.num.2 = 1 then (s.num.1.text.1.text.1.texts.1, ⟨1, s.num.1.text.2, s.num.1.text.1.text.2, s.num.1.text.1.text.1.texts.2, [], []⟩)
    else if s.num.2 = 2 then (s.num.1.text.1.text.1.text.1, ⟨2, s.num.1.text.2, [], [], s.num.1.text.1.text.2, s.num.1.text.1.text.1.text.2⟩)
    else (s.num.1, ⟨s.num.2, [], [], [], [], []⟩) := rfl
  have HF := Lib.hid hF; clear hF
  generalize judgeR (fieldsR s) = jj at *
  generalize fieldsR s = r at *
  generalize s.num = q at *
  obtain ⟨s1, n⟩ := q
  obtain ⟨s', d⟩ := r
  obtain ⟨d', er⟩ := jj
  dsimp only at HN HS HJ HV HL HF
  go_enter Tryz.func70, Tryz.ntmps70
  go_wp2_with fail
  refine HN.out.mono ?_
  rintro e w1 ⟨rfl, r1, k1⟩
  have HR1 := Lib.hid r1; have K1 := Lib.hid k1; clear r1 k1
  go_upto_if 10 with fail
  have fl : Gl w b w.heap.size w1.heap.size none 0 s1 ⟨n, [], [], [], [], []⟩ (w1.alloc (.cells #[.int .i64 n, .string ⟨#[]⟩, .string ⟨#[]⟩, .slice none 0 0, .string ⟨#[]⟩, .string ⟨#[]⟩] 49)) := by
    have hsz := K1.out.size
    rw [World.size_alloc] at hsz
    exact ⟨HR1.out.kept (S := fun _ => False) ((Kept.refl _ w1).alloc _) (fun h => h), (HZ0.out.kept K1.out (by omega)).kept (S := fun _ => False) ((Kept.refl _ w1).alloc _) (fun h => h), bz_new w1 none 0 ⟨n, [], [], [], [], []⟩ _, World.ownsRow_nil _ _ _ _,
      (HK0.out.trans K1.out (fun _ _ h => h)).alloc _, hlt, Nat.le_refl _, by omega, by omega, fun k hk => by cases hk⟩
  have FL := Lib.hid fl; clear fl
  have L2 := Lib.hid (Nat.le_trans (text_len1 s1) HL.out)
  have L3 := Lib.hid (Nat.le_trans (text_len1 s1.text.1) L2.out)
  go_cut [] (fun wx => (n = 1 ∧ ∃ ao cap, Gl w b w.heap.size w1.heap.size ao cap s' d wx) ∨ (n ≠ 1 ∧ Gl w b w.heap.size w1.heap.size none 0 s1 ⟨n, [], [], [], [], []⟩ wx))
  case first =>
    by_cases h1 : n = 1
    · subst h1
      go_wp2_with fail
      refine (mtext_any b s1 _ FL.out.rd HL.out).mono ?_
      rintro e w2 ⟨rfl, r3, k3⟩
      have F2 := Lib.hid (FL.out.step r3 k3); clear r3 k3
      have m1 := F2.out.box.f1
      have m2 := F2.out.box.bx.c1
      have F3 := Lib.hid (F2.out.put 1 _ (F2.out.box.put1 s1.text.2) (by rfl))
      go_wp2_with fail
      refine (mtext_any b s1.text.1 _ F3.out.rd L2.out).mono ?_
      rintro e w3 ⟨rfl, r4, k4⟩
      have F4 := Lib.hid (F3.out.step r4 k4); clear r4 k4 m1 m2
      have m1 := F4.out.box.f2
      have m2 := F4.out.box.bx.c2
      have F5 := Lib.hid (F4.out.put 2 _ (F4.out.box.put2 s1.text.1.text.2) (by rfl))
      have hx5 := F5.out.box.lt
      have hr5 := F5.out.res.lt
      go_wp2_with fail
      refine (mtexts_any b s1.text.1.text.1 _ F5.out.rd L3.out).mono ?_
      rintro e w5 ⟨⟨aoT, capT, rfl, hoT⟩, r6, k6⟩
      have F6 := Lib.hid (F5.out.step r6 k6); clear r6 k6 m1 m2
      have m1 := F6.out.box.f3
      have m2 := F6.out.box.bx.c3
      have F7 := Lib.hid (F6.out.put3 _ hoT hx5 hr5); clear hoT hx5 hr5
      go_wp2_with fail
      go_meet
      case rel =>
        have := HF.out
        simp at this
        obtain ⟨rfl, rfl⟩ := this
        exact .inl ⟨by simp, _, _, F7.out⟩
    · have g1 : (n == 1) = false := by simpa using h1
      have H1 := Lib.hid h1; clear h1
      go_wp2_with fail
      go_meet
      case rel => exact .inr ⟨H1.out, FL.out⟩
  case rest =>
    have HC := Lib.hid hcut; clear hcut
    have c0 : wc.cell? ⟨w1.heap.size, 0, none⟩ = some (.int .i64 n) := by
      rcases HC.out with ⟨rfl, ao, cap, g⟩ | ⟨_, g⟩
      · have := g.box.bx.c0
        have hf := HF.out
        simp at hf
        obtain ⟨rfl, rfl⟩ := hf
        exact this
      · exact g.box.bx.c0
    go_upto_if 22 with fail
    go_cut [] (fun wx => ∃ ao cap, Gl w b w.heap.size w1.heap.size ao cap s' d wx)
    case first =>
      by_cases h2 : n = 2
      · subst h2
        have fl : Gl w b w.heap.size w1.heap.size none 0 s1 ⟨2, [], [], [], [], []⟩ wc := by
          rcases HC.out with ⟨h, _⟩ | ⟨_, g⟩
          · exact absurd h (by decide)
          · exact g
        have FL := Lib.hid fl; clear fl
        go_wp2_with fail
        refine (mtext_any b s1 _ FL.out.rd HL.out).mono ?_
        rintro e w2 ⟨rfl, r3, k3⟩
        have F2 := Lib.hid (FL.out.step r3 k3); clear r3 k3
        have m1 := F2.out.box.f1
        have m2 := F2.out.box.bx.c1
        have F3 := Lib.hid (F2.out.put 1 _ (F2.out.box.put1 s1.text.2) (by rfl))
        go_wp2_with fail
        refine (mtext_any b s1.text.1 _ F3.out.rd L2.out).mono ?_
        rintro e w3 ⟨rfl, r4, k4⟩
        have F4 := Lib.hid (F3.out.step r4 k4); clear r4 k4 m1 m2
        have m1 := F4.out.box.f4
        have m2 := F4.out.box.bx.c4
        have F5 := Lib.hid (F4.out.put 4 _ (F4.out.box.put4 s1.text.1.text.2) (by rfl))
        go_wp2_with fail
        refine (mtext_any b s1.text.1.text.1 _ F5.out.rd L3.out).mono ?_
        rintro e w5 ⟨rfl, r6, k6⟩
        have F6 := Lib.hid (F5.out.step r6 k6); clear r6 k6 m1 m2
        have m1 := F6.out.box.f5
        have m2 := F6.out.box.bx.c5
        have F7 := Lib.hid (F6.out.put 5 _ (F6.out.box.put5 s1.text.1.text.1.text.2) (by rfl))
        go_wp2_with fail
        go_meet
        case rel =>
          have := HF.out
          simp at this
          obtain ⟨rfl, rfl⟩ := this
          exact ⟨_, _, F7.out⟩
      · have g2 : (n == 2) = false := by simpa using h2
        have H2 := Lib.hid h2; clear h2
        go_wp2_with fail
        go_meet
        case rel =>
          rcases HC.out with ⟨_, g⟩ | ⟨h1, g⟩
          · exact g
          · have := HF.out
            rw [if_neg h1, if_neg H2.out] at this
            cases this
            exact ⟨_, _, g⟩
    case rest =>
      rename_i wd
      obtain ⟨ao, cap, fl⟩ := hcut
      clear c0
      have FX := Lib.hid fl; clear fl
      obtain ⟨⟨z0, z1, z2, z3, z4, z5⟩, f0, f1, f2, f3, f4, f5⟩ := FX.out.res
      obtain ⟨x0, x1, x2, x3, x4, x5⟩ := FX.out.box.bx
      have p1 := FX.out.rd.c1
      by_cases he : s'.err = 0
      · have he1 : (s'.err == 0) = true := by simp [he]
        have HE := Lib.hid he; clear he
        go_wp2_with fail
        refine (rright_any d ao cap _ wc (owns_lies FX.out.own) (owns_le FX.out.own) HV.out HS.out).mono ?_
        rintro e w3 ⟨rfl, k3⟩
        have HZ3 := Lib.hid (FX.out.res.kept k3 (fun h => h))
        have HBX3 := Lib.hid (FX.out.box.bx.kept k3 (fun h => h))
        have HO3 := Lib.hid (owns_kept FX.out.own k3 (fun _ _ h => h))
        have HR3 := Lib.hid (FX.out.rd.kept k3 (fun h => h))
        have HK3 := Lib.hid (FX.out.k.trans k3 (fun _ _ h => h.elim))
        clear z0 z1 z2 z3 z4 z5 f0 f1 f2 f3 f4 f5 x0 x1 x2 x3 x4 x5 k3 p1
        obtain ⟨⟨z0, z1, z2, z3, z4, z5⟩, f0, f1, f2, f3, f4, f5⟩ := HZ3.out
        obtain ⟨x0, x1, x2, x3, x4, x5⟩ := HBX3.out
        cases hr : rightD d with
        | true =>
          have HRT := Lib.hid hr; clear hr
          go_wp2
          have hb := HZ3.out.set ao cap d
          refine bodyPost_ret (results_box2 rfl rfl (load_def hb.bx)) rfl ?_
          have := HJ.out
          rw [if_neg (by simp [HE.out]), if_pos HRT.out] at this
          cases this
          exact ⟨ao, cap, rfl, owns_kept HO3.out (kept_setD w3 _ _ _ _) (fun k hk => (FX.out.ob k hk).2), HR3.out.kept (kept_setD w3 _ _ _ _) (by omega), kept_setD' HK3.out (Nat.le_refl _)⟩
        | false =>
          have HRT := Lib.hid hr; clear hr
          go_wp2
          have hb := HZ3.out.set none 0 zeroD
          refine bodyPost_ret (results_box2 rfl rfl (load_def hb.bx)) rfl ?_
          have := HJ.out
          rw [if_neg (by simp [HE.out]), if_neg (by simp [HRT.out])] at this
          cases this
          exact ⟨none, 0, rfl, World.ownsRow_nil _ _ _ _, HR3.out.kept (kept_setD w3 w.heap.size none 0 zeroD) (by omega), kept_setD' (r := w.heap.size) (ao := none) (cap := 0) (d := zeroD) HK3.out (Nat.le_refl _)⟩
      · have he1 : (s'.err == 0) = false := by simp [he]
        have HE := Lib.hid he; clear he
        go_wp2_with fail
        go_region
        all_goals go_wp2
        all_goals
          have kd : Kept (fun _ => False) (setD wc w.heap.size none 0 zeroD) (setD wc w.heap.size none 0 zeroD).drew := Kept.drew (Kept.refl _ _)
          have hb := (FX.out.res.set none 0 zeroD).bx.kept kd (fun h => h)
          refine bodyPost_ret (results_box2 rfl rfl (load_def hb)) rfl ?_
          have := HJ.out
          rw [if_pos HE.out] at this
          cases this
          exact ⟨none, 0, rfl, World.ownsRow_nil _ _ _ _, (FX.out.rd.kept (kept_setD wc w.heap.size none 0 zeroD) (by omega)).kept kd (fun h => h), (kept_setD' (r := w.heap.size) (ao := none) (cap := 0) (d := zeroD) FX.out.k (Nat.le_refl _)).drew⟩

end Go.Proofs.YtecjecdgjmipcaaGreat

/-
  The reference of layer 8: Parse.
-/
namespace Go.Proofs.YtecjecdgjmipcaaGreat
open Go.RowKit Go.Mk Go.Maps

theorem lastK_at : ∀ (m : List Ent) (i : Nat) (h : m.length = i + 1), lastK (dds m) = keyD (m[i]'(by omega)).1
  | [], _, h => by simp at h
  | [_], 0, _ => rfl
  | [_], i + 1, h => by simp at h
  | _ :: _ :: _, 0, h => by simp at h
  | _ :: y :: r, i + 1, h => lastK_at (y :: r) i (by simpa using h)

/-- The reference's Parse under way. -/
structure Rg (w : World) (b : Nat) (s : RS) (m : List Ent) (v : Value) (wx : World) : Prop where
  rd : Mr wx b s
  own : wx.ownsRow (b + 1) 49 6 v m.length (cellsE m)
  lies : ∀ e ∈ m, Lies wx wx.heap.size e.2.1 (strs e.1.vs) ∧ e.1.vs.length ≤ e.2.2
  rows : ∀ e ∈ m, e.1.vs ≠ [] → ∀ a, e.2.1 = some a → b + 1 ≤ a.block ∧ v.ownBlock ≠ some a.block
  right : ∀ e ∈ m, rightD e.1 = true
  rise : Rise keyE m
  k : Kept (fun _ => False) w wx
  b1 : w.heap.size ≤ b

theorem Rg.kept {S : Nat → Prop} {w : World} {b : Nat} {s s' : RS} {m : List Ent} {v : Value} {wx wy : World} (h : Rg w b s m v wx) (hr : Mr wy b s') (hk : Kept S wx wy) (hS : ∀ k, S k → k = b) : Rg w b s' m v wy := by
  have hb1 := h.b1
  refine ⟨hr, owns_kept h.own hk (fun k hk2 e => by have := (owns_lt h.own k hk2).1; have := hS k e; omega), fun e he => ⟨((h.lies e he).1.kept hk (fun hn a ha e2 => ?_)).mono hk.size, (h.lies e he).2⟩, h.rows, h.right, h.rise, h.k.trans hk (fun i hi e => by have := hS i e; omega), hb1⟩
  have := (h.rows e he (fun e0 => hn (by rw [e0]; rfl)) a ha).1
  have := hS _ e2
  omega

theorem Rg.keep {w : World} {b : Nat} {s : RS} {m : List Ent} {v : Value} {wx wy : World} (h : Rg w b s m v wx) (hk : Kept (fun _ => False) wx wy) : Rg w b s m v wy := h.kept (h.rd.kept hk (fun h => h)) hk (fun _ h => h.elim)

/-- Behind an append of one definition. -/
theorem Rg.app {w : World} {b : Nat} {s : RS} {m : List Ent} {v v' : Value} {wx wy : World} {o : Obj} (h : Rg w b s m v wx) (y : Ent) (ho : wy.ownsRow 0 49 6 v' (m.length + 1) (cellsE m ++ cellsE1 y)) (hg : (wx.alloc o).grownBy wy v.ownBlock) (hb : v'.ownBlock = v.ownBlock ∨ v'.ownBlock = some (wx.heap.size + 1))
    (hL : Lies wx wx.heap.size y.2.1 (strs y.1.vs) ∧ y.1.vs.length ≤ y.2.2) (hR : y.1.vs ≠ [] → ∀ a, y.2.1 = some a → b + 1 ≤ a.block ∧ v.ownBlock ≠ some a.block) (hr : rightD y.1 = true) (hlast : lastK (dds m) < keyE y) : Rg w b s (m ++ [y]) v' wy := by
  have hb1 := h.b1
  have hlo := owns_lt h.own
  have hrl := h.rd.lt
  have k4 : Kept (fun k => v.ownBlock = some k) wx wy := Kept.grown ((Kept.refl _ wx).alloc _) hg (fun k hk _ => hk)
  have hrow : ∀ k, v'.ownBlock = some k → b + 1 ≤ k := fun k hk => by
    rcases hb with hb | hb
    · rw [hb] at hk; exact (hlo k hk).1
    · rw [hb] at hk; cases hk; omega
  have hall : ∀ e ∈ m ++ [y], (Lies wx wx.heap.size e.2.1 (strs e.1.vs) ∧ e.1.vs.length ≤ e.2.2) ∧ (e.1.vs ≠ [] → ∀ a, e.2.1 = some a → b + 1 ≤ a.block ∧ v.ownBlock ≠ some a.block) ∧ rightD e.1 = true := fun e he => by
    rcases List.mem_append.1 he with he | he
    · exact ⟨h.lies e he, h.rows e he, h.right e he⟩
    · rw [List.mem_singleton] at he
      subst he
      exact ⟨hL, hR, hr⟩
  refine ⟨h.rd.kept k4 (fun e => by have := (hlo b e).1; omega), ?_, fun e he => ⟨((hall e he).1.1.kept k4 (fun hn a ha e2 => ?_)).mono k4.size, (hall e he).1.2⟩, fun e he hn a ha => ⟨((hall e he).2.1 hn a ha).1, fun e2 => ?_⟩, fun e he => (hall e he).2.2, ?_, h.k.trans k4 (fun i hi e => by have := (hlo i e).1; omega), hb1⟩
  · have := owns_base (base' := b + 1) ho hrow
    rw [← cellsE_snoc] at this
    simpa using this
  · exact ((hall e he).2.1 (fun e0 => hn (by rw [e0]; rfl)) a ha).2 e2
  · rcases hb with hb | hb
    · rw [hb] at e2; exact ((hall e he).2.1 hn a ha).2 e2
    · rw [hb] at e2
      obtain ⟨b', off, e3, hlt, _⟩ := (hall e he).1.1 (by unfold strs; simpa using hn)
      rw [e3] at ha
      cases ha
      have h9 : wx.heap.size + 1 = b' := Option.some.inj e2
      omega
  · rw [← putK_last (rise_last h.rise hlast)]
    exact rise_putK h.rise

theorem Rg.rl {w : World} {b : Nat} {s : RS} {m : List Ent} {oa : Option Addr} {oc : Nat} {wx : World} (h : Rg w b s m (.slice oa m.length oc) wx) : Rl wx oa m :=
  ⟨owns_ds h.own h.lies, fun e he => small_len8 (right_small (h.right e he)), h.rise⟩

theorem rg_new {w wx : World} {b : Nat} {s : RS} (hr : Mr wx b s) (hk : Kept (fun _ => False) w wx) (hb : w.heap.size ≤ b) : Rg w b s [] (.slice none 0 0) wx :=
  ⟨hr, World.ownsRow_nil _ _ _ _, by simp, by simp, by simp, List.Pairwise.nil, hk, hb⟩

abbrev cells12 (b1 o1 b2 : Nat) (x : Ent) (y : Ent) (w' : World) : Prop :=
  w'.cell? ⟨b1, o1, none⟩ = some (.int .i64 x.1.k) ∧ w'.cell? ⟨b1, o1 + 1, none⟩ = some (.string (bs x.1.c)) ∧ w'.cell? ⟨b1, o1 + 2, none⟩ = some (.string (bs x.1.p)) ∧ w'.cell? ⟨b1, o1 + 3, none⟩ = some (.slice x.2.1 x.1.vs.length x.2.2) ∧ w'.cell? ⟨b1, o1 + 4, none⟩ = some (.string (bs x.1.s)) ∧ w'.cell? ⟨b1, o1 + 5, none⟩ = some (.string (bs x.1.t)) ∧
  w'.cell? ⟨b2, 0, none⟩ = some (.int .i64 y.1.k) ∧ w'.cell? ⟨b2, 1, none⟩ = some (.string (bs y.1.c)) ∧ w'.cell? ⟨b2, 2, none⟩ = some (.string (bs y.1.p)) ∧ w'.cell? ⟨b2, 3, none⟩ = some (.slice y.2.1 y.1.vs.length y.2.2) ∧ w'.cell? ⟨b2, 4, none⟩ = some (.string (bs y.1.s)) ∧ w'.cell? ⟨b2, 5, none⟩ = some (.string (bs y.1.t))

theorem cells12_of {b1 o1 b2 : Nat} {x y : Ent} {w : World} (h : Bo w b1 o1 x.2.1 x.2.2 x.1) (g : Bx w b2 y.2.1 y.2.2 y.1) : cells12 b1 o1 b2 x y w := ⟨h.c0, h.c1, h.c2, h.c3, h.c4, h.c5, g.c0, g.c1, g.c2, g.c3, g.c4, g.c5⟩

theorem mr_new8 (w : World) (l : List UInt8) (t : TypeId) : Mr (w.alloc (.cells #[.string (bs l), .int .i64 0] t)) w.heap.size ⟨l, 0⟩ :=
  ⟨World.cell?_alloc_new w _ t 0, World.cell?_alloc_new w _ t 1, by simp, by simp⟩

theorem parseL_eq' (l : List UInt8) : parseL l = if (RS.num ⟨l, 0⟩).1.err ≠ 0 then ((RS.num ⟨l, 0⟩).1.err, []) else if 500 < (RS.num ⟨l, 0⟩).2 then (21, []) else finP (parseN (RS.num ⟨l, 0⟩).2.toNat (RS.num ⟨l, 0⟩).1 []) := rfl

set_option maxHeartbeats 4000000 in
set_option maxRecDepth 100000 in
theorem rparse_any (l : List UInt8) (w : World) (hl : l.length ≤ 1099511627776) :
    Calls Tryz.prog 33 #[.string (bs l)] w (RnPost w (parseL l)) := by
  obtain ⟨i0, hi, hz0, hz1, hz2⟩ := info_parts Tryz.infoDef
  have HLL := Lib.hid hl
  clear hl
  have MR := Lib.hid (mr_new8 w l 101)
  have KA := Lib.hid ((Kept.refl (fun _ => False) w).alloc (.cells #[.string (bs l), .int .i64 0] 101))
  have HRN := Lib.hid (mnum_any _ ⟨l, 0⟩ _ MR.out HLL.out)
  have HPL := Lib.hid (parseL_eq' l)
  have HNC := Lib.hid (RS.num_cases ⟨l, 0⟩)
  have HNL := Lib.hid (num_len ⟨l, 0⟩)
  generalize hPL : parseL l = PL at *
  clear hPL
  generalize RS.num ⟨l, 0⟩ = q at *
  obtain ⟨s1, n⟩ := q
  dsimp only at HRN HPL HNC HNL
  go_enter Tryz.func33, Tryz.ntmps33
  go_wp2_with fail
  refine HRN.out.mono ?_
  rintro e w2 ⟨rfl, rd2, k2⟩
  have K2 := Lib.hid (KA.out.trans k2 (fun i hi e => by omega))
  have RD2 := Lib.hid rd2
  clear rd2 k2
  have hn : 0 ≤ n ∧ n ≤ 2147483647 := by
    rcases HNC.out with ⟨h1, h2⟩ | ⟨_, _, k, hk, h2⟩
    · have := (Prod.mk.inj h2).2; exact ⟨by omega, by omega⟩
    · have h3 := (Prod.mk.inj h2).2; exact ⟨by omega, by omega⟩
  obtain ⟨hn0, hn1⟩ := hn
  have c1 := RD2.out.c1
  by_cases he : s1.err = 0
  · have he1 : (s1.err != 0) = false := by simp [he]
    have HEZ := Lib.hid he
    by_cases h5 : 500 < n
    · have HE := Lib.hid (HPL.out.trans (by rw [if_neg (by simp [he]), if_pos h5]))
      clear he hn0 hn1
      go_wp2
      go_ret2
      rw [HE.out]
      exact rn_err K2.out
    · obtain ⟨N, rfl⟩ : ∃ N : Nat, n = N := ⟨n.toNat, by omega⟩
      have HE := Lib.hid (show PL = finP (parseN N s1 []) by rw [HPL.out, if_neg (by simp [he]), if_neg h5]; rfl)
      clear HPL HNC
      have hN5 : N ≤ 500 := by omega
      have PG0 := Lib.hid (rg_new RD2.out K2.out (Nat.le_refl _))
      clear hn0 hn1 he
      obtain ⟨R, hR⟩ : ∃ R, R = parseN N s1 [] := ⟨_, rfl⟩
      rw [← hR] at HE
      have HR := Lib.hid hR
      clear hR
      go_wp2
      go_loopg [6, 7] N (fun k v c wr => ∃ j s m, k = N - j ∧ j ≤ N ∧ c = .int .i64 (j : Int) ∧ R = parseN (N - j) s (dds m) ∧ m.length = j ∧ s.err = 0 ∧ s.rest.length ≤ l.length ∧ Rg w w.heap.size s m v wr)
      case atStart => exact ⟨0, s1, [], rfl, Nat.zero_le _, rfl, HR.out, rfl, HEZ.out, HNL.out, PG0.out⟩
      case round =>
        clear PG0 HR HRN c1 he1
        obtain ⟨j, s, m, hk, hj, rfl, hR, hm, hse, hsl, hw⟩ := hrel
        have HK := Lib.hid hk; have HR := Lib.hid hR; have HM := Lib.hid hm; have HSL := Lib.hid hsl; have HW := Lib.hid hw; have HSE := Lib.hid hse
        clear hk hR hm hsl hw hse
        obtain ⟨oa, oc, rfl⟩ := owns_slice HW.out.own
        by_cases hlt : j < N
        · have hR := HR.out
          rw [show N - j = (N - (j + 1)) + 1 by omega, parseN] at hR
          have HDR := Lib.hid (rread_any w.heap.size s wr HW.out.rd (by have := HSL.out; have := HLL.out; omega))
          have HJO := Lib.hid (judge_ok (r := fieldsR s))
          have HFL := Lib.hid (fields_len s)
          have HR2 := Lib.hid hR
          have i1 : (j : Int) < (N : Int) := by omega
          clear hR
          rcases hjr : judgeR (fieldsR s) with ⟨d, er⟩
          rw [hjr] at HDR HJO HR2
          generalize (fieldsR s) = fs at *
          obtain ⟨s', d0⟩ := fs
          dsimp only at HDR HJO HR2 HFL
          clear hjr
          go_wp2_with fail
          refine HDR.out.mono ?_
          rintro e w3 ⟨ao, cap, rfl, ho, hr3, k3⟩
          have P3 := Lib.hid (HW.out.kept hr3 k3 (fun _ h => h))
          have HO := Lib.hid ho
          clear ho hr3 k3
          have KB := Lib.hid ((Kept.refl (fun _ => False) w3).alloc (.cells #[.int .i64 d.k, .string (bs d.c), .string (bs d.p), .slice ao d.vs.length cap, .string (bs d.s), .string (bs d.t)] 49))
          have BX := Lib.hid (bx_new w3 ao cap d 49)
          have P4 := Lib.hid (P3.out.keep KB.out)
          by_cases he : er = 0
          · subst he
            obtain ⟨hse', hrt0, hd0⟩ := HJO.out rfl
            have HSE' := Lib.hid (show s'.err = 0 from hse')
            have HRT := Lib.hid (show rightD d = true by rw [hd0]; exact hrt0)
            clear hrt0 hd0 HJO hse'
            have HL8 := Lib.hid (small_len8 (right_small HRT.out))
            have HLI := Lib.hid (show Lies w3 w3.heap.size ao (strs d.vs) ∧ d.vs.length ≤ cap from ⟨owns_lies HO.out, owns_cap HO.out⟩)
            have HBB := Lib.hid (show d.vs ≠ [] → ∀ a, ao = some a → w.heap.size + 1 ≤ a.block ∧ (Value.slice oa m.length oc).ownBlock ≠ some a.block from fun hv a ha => by
              rcases HO.out.2 with ⟨_, h2⟩ | ⟨g, c, cur, hv2, _, _, _⟩
              · exact (hv (List.eq_nil_of_length_eq_zero h2)).elim
              · cases hv2
                cases ha
                have h1 := (owns_lt HO.out g rfl).1
                have h2 := HW.out.rd.lt
                refine ⟨?_, fun e => ?_⟩
                · show w.heap.size + 1 ≤ g
                  omega
                · have := (owns_lt HW.out.own g e).2
                  omega)
            have HKEY := Lib.hid (fun (wx : World) (h : Kept (fun _ => False) w3 wx) => rkey_any d ao cap w3.heap.size wx (HLI.out.1.kept h (fun _ _ _ h => h)) HLI.out.2 HL8.out.n HL8.out.s HL8.out.c)
            have HKE := Lib.hid (show keyE (d, ao, cap) = keyD d from rfl)
            have HKN := Lib.hid (keyD_right HRT.out)
            have hleq : ∀ t (a b : ByteArray), binOp .leq t (.string a) (.string b) = pure (.bool (Op.bytesLess a.toList b.toList || a.toList == b.toList)) := fun t a b => by simp [binOp, Op.stringOp]
            generalize keyD d = key at *
            have z5 := bs_list key
            go_upto_region 14 with fail
            go_cut [51] (fun v wx => v = .bool (Op.bytesLess key (lastK (dds m)) || key == lastK (dds m)) ∧ Rg w w.heap.size s' m (.slice oa m.length oc) wx ∧ Bx wx w3.heap.size ao cap d ∧ Kept (fun _ => False) w3 wx)
            case first =>
              have PD := Lib.hid (P4.out.keep (Kept.drew (Kept.refl _ _)))
              have BD := Lib.hid (BX.out.kept (S := fun _ => False) (Kept.drew (Kept.refl _ _)) (fun h => h))
              have KD := Lib.hid (KB.out.trans (Kept.drew (Kept.refl (fun _ => False) _)) (fun _ _ h => h))
              by_cases hj0 : j = 0
              · obtain rfl : m = [] := List.eq_nil_of_length_eq_zero (by rw [HM.out]; exact hj0)
                have HQ := Lib.hid (show (Op.bytesLess key (lastK (dds [])) || key == lastK (dds [])) = false by
                  have h1 : (key == []) = false := by simpa using HKN.out
                  have h2 : Op.bytesLess key [] = false := by rw [bytesLess_lt]; simp
                  show (Op.bytesLess key [] || key == []) = false
                  rw [h1, h2]; rfl)
                subst hj0
                have i2 : ((0 : Nat) : Int) = 0 := rfl
                go_region
                all_goals go_wp2_with fail
                all_goals go_meet
                all_goals exact ⟨by rw [HQ.out], PD.out, BD.out, KD.out⟩
              · obtain ⟨i, hji⟩ : ∃ i, j = i + 1 := ⟨j - 1, by omega⟩
                have hmi : m.length = i + 1 := by rw [HM.out]; exact hji
                have him : i < m.length := by omega
                have hla : lastK (dds m) = keyD (m[i]'him).1 := lastK_at m i hmi
                obtain ⟨xb, xo, rfl, hxb, hcc⟩ := PD.out.rl.ds.row (by intro h; rw [h] at hmi; simp at hmi)
                have HBO := Lib.hid (hcc i him)
                have HRE := Lib.hid (PD.out.right m[i] (List.getElem_mem him))
                have HLE := Lib.hid (PD.out.lies m[i] (List.getElem_mem him))
                have i2 : 0 < j := by omega
                have i3 : (i : Int) < (m.length : Int) := by omega
                have i4 : IntKind.i64.wrap ((j : Int) - 1) = (i : Int) := by rw [IntKind.wrap_i64]; omega
                have i5 : wrap64 ((j : Int) - 1) = (i : Int) := by unfold wrap64; omega
                clear hcc hj0 hmi hji
                have HLA := Lib.hid hla
                clear hla
                generalize m[i] = y at *
                obtain ⟨d2, ao2, cap2⟩ := y
                dsimp only at HBO HRE HLE HLA
                have HL82 := Lib.hid (small_len8 (right_small HRE.out))
                have HKEY2 := Lib.hid (fun (wx : World) (h : Kept (fun _ => False) _ wx) => rkey_any d2 ao2 cap2 _ wx (HLE.out.1.kept h (fun _ _ _ h => h)) HLE.out.2 HL82.out.n HL82.out.s HL82.out.c)
                have hS := cells12_of (x := (d2, ao2, cap2)) (y := (d, ao, cap)) HBO.out BD.out
                generalize keyD d2 = key2 at *
                have z6 := bs_list key2
                go_region_held (cells12 xb (xo + i * 6) w3.heap.size (d2, ao2, cap2) (d, ao, cap)) (with_reducible assumption) (first
                  | (go_at_call_of 38 (Value.slice ao d.vs.length cap); refine (HKEY.out _ KD.out).mono ?_; rintro e w5 ⟨rfl, k5⟩; have P5 := Lib.hid (PD.out.keep k5); have B5 := Lib.hid (BD.out.kept k5 (fun h => h)); have K5 := Lib.hid (KD.out.trans k5 (fun _ _ h => h)); have KK5 := Lib.hid k5; have hS5 := cells12_of (x := (d2, ao2, cap2)) (y := (d, ao, cap)) (HBO.out.kept k5 (fun h => h)) B5.out; clear k5)
                  | (go_at_call_of 38 (Value.slice ao2 d2.vs.length cap2); refine (HKEY2.out _ KK5.out).mono ?_; rintro e w6 ⟨rfl, k6⟩; have P6 := Lib.hid (P5.out.keep k6); have B6 := Lib.hid (B5.out.kept k6 (fun h => h)); have K6 := Lib.hid (K5.out.trans k6 (fun _ _ h => h)); have hS6 := cells12_of (x := (d2, ao2, cap2)) (y := (d, ao, cap)) ((HBO.out.kept KK5.out (fun h => h)).kept k6 (fun h => h)) B6.out; clear k6))
                all_goals go_wp2_with fail
                all_goals go_meet
                all_goals exact ⟨by rw [HLA.out], P6.out, B6.out, K6.out⟩
            case rest =>
              obtain ⟨rfl, p7, b7, k7⟩ := hcut
              have P7 := Lib.hid p7; have B7 := Lib.hid b7; have K7 := Lib.hid k7
              clear p7 b7 k7
              by_cases hlk : lastK (dds m) < key
              · have q1 : (Op.bytesLess key (lastK (dds m)) || key == lastK (dds m)) = false := by rw [bytesLess_lt, decide_eq_false (lt_asy hlk)]; simpa using fun h => lt_ne hlk h.symm
                rw [q1]
                have hr3 := HR2.out
                rw [if_neg (by simp), if_pos hlk] at hr3
                have HR3 := Lib.hid hr3
                have HLK := Lib.hid (show lastK (dds m) < keyE (d, ao, cap) by rw [HKE.out]; exact hlk)
                clear hr3 hlk q1
                obtain ⟨c0, c1, c2, c3, c4, c5⟩ := B7.out
                have hla : m.length ≤ 500 := by have := HM.out; omega
                go_wp2_with (at_builtin; refine wpList_app _ rfl (.tmp 52) (.tmp 54) 22 22 rfl 49 i0 (.agg #[.int .i64 0, .string ⟨#[]⟩, .string ⟨#[]⟩, .slice none 0 0, .string ⟨#[]⟩, .string ⟨#[]⟩]) 6 96 Tryz.underlying22 hi hz0 hz1 hz2 rfl _ _ _ rfl ((owns_base (base' := 0) P7.out.own (fun _ _ => Nat.zero_le _)).alloc _) (.slice (some ⟨wc.heap.size, 0, none⟩) 1 1) 1 (cellsE1 (d, ao, cap)) rfl (src_def wc (d, ao, cap) _) ?b1 ?b2 ?next)
                case b1 => unfold maxLen; omega
                case b2 => omega
                case next =>
                  intro v' w8 ho8 hg8 hb8 _
                  have P8 := Lib.hid (P7.out.app (d, ao, cap) ho8 hg8 hb8 ⟨(HLI.out.1.kept K7.out (fun _ _ _ h => h)).mono K7.out.size, HLI.out.2⟩ HBB.out HRT.out HLK.out)
                  clear ho8 hg8 hb8 c0 c1 c2 c3 c4 c5
                  go_wp2
                  go_roundg (N - (j + 1))
                  case measure => have := HK.out; omega
                  case rel => exact ⟨j + 1, s', m ++ [(d, ao, cap)], rfl, by omega, by go_num, by rw [show dds (m ++ [(d, ao, cap)]) = dds m ++ [d] by simp [dds]]; exact HR3.out, by have := HM.out; simp; omega, HSE'.out, Nat.le_trans HFL.out HSL.out, P8.out⟩
              · have q1 : (Op.bytesLess key (lastK (dds m)) || key == lastK (dds m)) = true := by
                  rcases lt_tri key (lastK (dds m)) with h | h | h
                  · rw [bytesLess_lt, decide_eq_true h]; rfl
                  · simp [h]
                  · exact (hlk h).elim
                rw [q1]
                have hr3 := HR2.out
                rw [if_neg (by simp), if_neg hlk] at hr3
                have HF := Lib.hid (show finP R = (32, []) by rw [hr3]; rfl)
                clear hr3 hlk q1
                go_wp2
                go_ret2
                rw [HE.out, HF.out]
                exact rn_err P7.out.k
          · have he1 : (er != 0) = true := by simp [he]
            have hr3 := HR2.out
            rw [if_pos he] at hr3
            have HF := Lib.hid (show finP R = (er, []) by rw [hr3]; unfold finP; rw [if_pos he])
            clear hr3 he
            go_wp2
            go_ret2
            rw [HE.out, HF.out]
            exact rn_err P4.out.k
        · obtain rfl : j = N := by omega
          have hR := HR.out
          rw [Nat.sub_self, parseN] at hR
          have c0 := HW.out.rd.c0
          have hse := HSE.out
          have hzs : (bs s.rest).size = s.rest.length := rfl
          by_cases hr : s.rest = []
          · have HF := Lib.hid (show finP R = (0, dds m) by rw [hR]; unfold finP; simp [RS.endE, hse, hr])
            rw [hr] at c0 hzs
            clear hR hlt hse hr
            go_wp2
            go_ret2
            rw [HE.out, HF.out]
            exact ⟨oa, oc, m, rfl, rfl, by have := HM.out; omega, HW.out.rl, HW.out.k⟩
          · have HF := Lib.hid (show finP R = (11, []) by rw [hR]; unfold finP; simp [RS.endE, hse, hr])
            have hp : 0 < (s.rest.length : Int) := by have := List.length_pos_iff.2 hr; omega
            clear hR hlt hse hr
            go_wp2
            go_ret2
            rw [HE.out, HF.out]
            exact rn_err HW.out.k
  · have he1 : (s1.err != 0) = true := by simp [he]
    have HE := Lib.hid (HPL.out.trans (if_pos he))
    have c1' : w2.drew.cell? ⟨w.heap.size, 1, none⟩ = some (.int .i64 s1.err) := c1
    clear he hn0 hn1
    go_upto_region 4 with fail
    go_region
    all_goals go_wp2
    all_goals go_ret2
    all_goals rw [HE.out]
    all_goals exact rn_err (K2.out.trans (Kept.drew (Kept.refl (fun _ => False) w2)) (fun _ _ h => h))

end Go.Proofs.YtecjecdgjmipcaaGreat
