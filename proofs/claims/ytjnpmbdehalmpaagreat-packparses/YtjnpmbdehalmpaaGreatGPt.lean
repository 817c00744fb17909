/-
  Lemmas towards the claim of this folder: contracts of the functions that the law reaches; joined texts.
-/
import Derived.Test.YtjnpmbdehalmpaaGreatGPr
import Derived.Test.YtjnpmbdehalmpaaGreatGMr
import Derived.Test.YtjnpmbdehalmpaaGreatGRs
import Derived.Test.YtjnpmbdehalmpaaGreatGDg
import Derived.Deep.CutBlock
import Derived.Deep.DeepCutAuto
/-
  How much a reading of a definition takes (plain).
-/
namespace Go.Proofs.YtjnpmbdehalmpaaGreat
open Go.RowKit Go.Mk

theorem num_len (s : RS) : s.num.1.rest.length ≤ s.rest.length := by
  unfold RS.num; split; exact Nat.le_refl _; split; exact Nat.le_refl _; split; exact Nat.le_refl _; simp

theorem text_len1 (s : RS) : s.text.1.rest.length ≤ s.rest.length := by
  have := num_len s
  unfold RS.text; split; simp; split; simp; simp; omega

theorem text_len2 (s : RS) : s.text.2.length ≤ s.rest.length := by
  have := num_len s
  unfold RS.text; split; simp; split; simp; simp; omega

theorem texts_len1 (s : RS) : s.texts.1.rest.length ≤ s.rest.length := by
  have h1 := num_len s
  unfold RS.texts
  split
  · exact Nat.le_refl _
  · refine Nat.le_trans (many_len _ _) ?_
    unfold RS.head
    split
    · exact h1
    · exact h1

theorem many_cnt (n : Nat) (s : RS) : (RS.many n s).2.length ≤ n := by
  induction n generalizing s with
  | zero => exact Nat.le_refl _
  | succ n ih =>
    unfold RS.many
    split
    · exact Nat.zero_le _
    · have := ih s.text.1
      simp only [List.length_cons]
      omega

theorem texts_cnt (s : RS) : s.texts.2.length ≤ 1099511627776 := by
  have hn : s.num.2.toNat ≤ 2147483647 := by
    rcases s.num_cases with ⟨_, hq⟩ | ⟨_, _, m, hm, hq⟩
    · rw [hq]; simp
    · rw [hq]; simp; omega
  unfold RS.texts
  split
  · exact Nat.zero_le _
  · have := many_cnt s.num.2.toNat s.head
    omega

theorem fields_len (s : RS) : (fieldsR s).1.rest.length ≤ s.rest.length := by
  have h1 := num_len s
  have h2 := text_len1 s.num.1
  have h3 := text_len1 s.num.1.text.1
  have h4 := text_len1 s.num.1.text.1.text.1
  have h5 := texts_len1 s.num.1.text.1.text.1
  unfold fieldsR
  split
  · dsimp only; omega
  · split
    · dsimp only; omega
    · dsimp only; omega

theorem fields_s (s : RS) (h : s.rest.length ≤ 1099511627776) : (fieldsR s).2.s.length ≤ 1099511627776 := by
  have h1 := num_len s
  have h2 := text_len1 s.num.1
  have h3 := text_len2 s.num.1.text.1
  unfold fieldsR
  split
  · simp
  · split
    · dsimp only; omega
    · simp

theorem fields_v (s : RS) : (fieldsR s).2.vs.length ≤ 1099511627776 := by
  have h1 := texts_cnt s.num.1.text.1.text.1
  unfold fieldsR
  split
  · exact h1
  · split
    · simp
    · simp

theorem judge_v (s : RS) : (judgeR (fieldsR s)).1.vs.length ≤ 1099511627776 := by
  have h1 := fields_v s
  unfold judgeR
  split
  · simp [zeroD]
  · split
    · exact h1
    · simp [zeroD]

end Go.Proofs.YtjnpmbdehalmpaaGreat

/-
  def.fields and def.Read, whatever the reader.
-/
namespace Go.Proofs.YtjnpmbdehalmpaaGreat
open Go.RowKit Go.Mk

def FlPost (w : World) (D : Nat → Prop) (b : Nat) (s' : RS) (d : DD) (e : Ending) (w' : World) : Prop :=
  ∃ ao cap, e = .returned (.agg #[.int .i64 d.k, .string (bs d.c), .string (bs d.p), .slice ao d.vs.length cap, .string (bs d.s), .string (bs d.t)]) ∧ w'.ownsRow w.heap.size 9 1 (.slice ao d.vs.length cap) d.vs.length (strs d.vs) ∧ (∃ a c, Rd w' D b a c s') ∧ Kept (fun k => k = b) w w'

set_option maxHeartbeats 400000 in
set_option maxRecDepth 100000 in
theorem dfields_any (D : Nat → Prop) (b : Nat) (a : Option Addr) (c : Nat) (s : RS) (w : World) (hD : ∀ k, D k → k < w.heap.size) (h : Rd w D b a c s) :
    Calls Tryz.prog 109 #[.pointer (some ⟨b, 0, none⟩)] w (FlPost w D b (fieldsR s).1 (fieldsR s).2) := by
  have hlt := h.lt
  have hz0 := bz_new w none 0 zeroD 46
  have hk0 := (Kept.refl (fun k => k = b) w).alloc (.cells #[.int .i64 0, .string ⟨#[]⟩, .string ⟨#[]⟩, .slice none 0 0, .string ⟨#[]⟩, .string ⟨#[]⟩] 46)
  have hr0 := h.kept (S := fun _ => False) ((Kept.refl _ w).alloc (.cells #[.int .i64 0, .string ⟨#[]⟩, .string ⟨#[]⟩, .slice none 0 0, .string ⟨#[]⟩, .string ⟨#[]⟩] 46)) (fun h => h) (fun _ _ _ h => h)
  have HZ0 := Lib.hid hz0; have HK0 := Lib.hid hk0; have HD := Lib.hid hD
  have HN := Lib.hid (rnum_any' D b a c s _ hr0)
  clear hz0 hk0 hr0 h hD
  have hF : fieldsR s = if s.num.2 = 1 then (s.num.1.text.1.text.1.texts.1, ⟨1, s.num.1.text.2, s.num.1.text.1.text.2, s.num.1.text.1.text.1.texts.2, [], []⟩)
    else if s.num.2 = 2 then (s.num.1.text.1.text.1.text.1, ⟨2, s.num.1.text.2, [], [], s.num.1.text.1.text.2, s.num.1.text.1.text.1.text.2⟩)
    else (s.num.1, ⟨s.num.2, [], [], [], [], []⟩) := rfl
  have HF := Lib.hid hF; clear hF
  generalize fieldsR s = r at *
  generalize s.num = q at *
  obtain ⟨s1, n⟩ := q
  go_enter Tryz.func109, Tryz.ntmps109
  go_wp2_with fail
  refine HN.out.mono ?_
  rintro e w1 ⟨rfl, ⟨a1, c1, r1⟩, k1⟩
  have HR1 := Lib.hid r1; have K1 := Lib.hid k1; clear r1 k1
  go_upto_block 0 with fail
  have fl : Fl w D b w.heap.size w1.heap.size none 0 s1 ⟨n, [], [], [], [], []⟩ (w1.alloc (.cells #[.int .i64 n, .string ⟨#[]⟩, .string ⟨#[]⟩, .slice none 0 0, .string ⟨#[]⟩, .string ⟨#[]⟩] 46)) := by
    have hsz := K1.out.size
    rw [World.size_alloc] at hsz
    exact ⟨⟨_, _, HR1.out.kept (S := fun _ => False) ((Kept.refl _ w1).alloc _) (fun h => h) (fun _ _ _ h => h)⟩, (HZ0.out.kept K1.out (by omega)).kept (S := fun _ => False) ((Kept.refl _ w1).alloc _) (fun h => h), bz_new w1 none 0 ⟨n, [], [], [], [], []⟩ _, World.ownsRow_nil _ _ _ _,
      (HK0.out.trans K1.out (fun _ _ h => h)).alloc _, hlt, Nat.le_refl _, by omega, by omega, HD.out, fun k hk => by cases hk⟩
  have FL := Lib.hid fl; clear fl
  go_cut [] (fun wx => ∃ ao cap, Fl w D b w.heap.size w1.heap.size ao cap r.1 r.2 wx)
  case first =>
    by_cases h1 : n = 1
    · subst h1
      obtain ⟨a2, c2, r2⟩ := FL.out.rd
      have H2 := Lib.hid r2; clear r2
      go_wp2_with fail
      refine (rtext_any' D b a2 c2 s1 _ H2.out).mono ?_
      rintro e w2 ⟨rfl, r3, k3⟩
      have F2 := Lib.hid (FL.out.step r3 k3); clear r3 k3
      have m1 := F2.out.box.f1
      have m2 := F2.out.box.bx.c1
      have F3 := Lib.hid (F2.out.put 1 _ (F2.out.box.put1 s1.text.2) (by rfl))
      obtain ⟨a3, c3, r3⟩ := F3.out.rd
      have H3 := Lib.hid r3; clear r3
      go_wp2_with fail
      refine (rtext_any' D b a3 c3 s1.text.1 _ H3.out).mono ?_
      rintro e w3 ⟨rfl, r4, k4⟩
      have F4 := Lib.hid (F3.out.step r4 k4); clear r4 k4 m1 m2
      have m1 := F4.out.box.f2
      have m2 := F4.out.box.bx.c2
      have F5 := Lib.hid (F4.out.put 2 _ (F4.out.box.put2 s1.text.1.text.2) (by rfl))
      obtain ⟨a5, c5, r5⟩ := F5.out.rd
      have hx5 := F5.out.box.lt
      have hr5 := F5.out.res.lt
      have H5 := Lib.hid r5; clear r5
      go_wp2_with fail
      refine (rtexts_any' D b a5 c5 s1.text.1.text.1 _ (fun k hk => by have := HD.out k hk; have := F5.out.k.size; omega) H5.out).mono ?_
      rintro e w5 ⟨⟨aoT, capT, rfl, hoT⟩, r6, k6⟩
      have F6 := Lib.hid (F5.out.step r6 k6); clear r6 k6 m1 m2
      have m1 := F6.out.box.f3
      have m2 := F6.out.box.bx.c3
      have F7 := Lib.hid (F6.out.put3 _ hoT hx5 hr5); clear hoT hx5 hr5
      go_wp2_with fail
      go_meet
      case rel =>
        have := HF.out
        simp at this
        subst this
        exact ⟨_, _, F7.out⟩
    · by_cases h2 : n = 2
      · subst h2
        obtain ⟨a2, c2, r2⟩ := FL.out.rd
        have H2 := Lib.hid r2; clear r2 h1
        go_wp2_with fail
        refine (rtext_any' D b a2 c2 s1 _ H2.out).mono ?_
        rintro e w2 ⟨rfl, r3, k3⟩
        have F2 := Lib.hid (FL.out.step r3 k3); clear r3 k3
        have m1 := F2.out.box.f1
        have m2 := F2.out.box.bx.c1
        have F3 := Lib.hid (F2.out.put 1 _ (F2.out.box.put1 s1.text.2) (by rfl))
        obtain ⟨a3, c3, r3⟩ := F3.out.rd
        have H3 := Lib.hid r3; clear r3
        go_wp2_with fail
        refine (rtext_any' D b a3 c3 s1.text.1 _ H3.out).mono ?_
        rintro e w3 ⟨rfl, r4, k4⟩
        have F4 := Lib.hid (F3.out.step r4 k4); clear r4 k4 m1 m2
        have m1 := F4.out.box.f4
        have m2 := F4.out.box.bx.c4
        have F5 := Lib.hid (F4.out.put 4 _ (F4.out.box.put4 s1.text.1.text.2) (by rfl))
        obtain ⟨a5, c5, r5⟩ := F5.out.rd
        have H5 := Lib.hid r5; clear r5
        go_wp2_with fail
        refine (rtext_any' D b a5 c5 s1.text.1.text.1 _ H5.out).mono ?_
        rintro e w5 ⟨rfl, r6, k6⟩
        have F6 := Lib.hid (F5.out.step r6 k6); clear r6 k6 m1 m2
        have m1 := F6.out.box.f5
        have m2 := F6.out.box.bx.c5
        have F7 := Lib.hid (F6.out.put 5 _ (F6.out.box.put5 s1.text.1.text.1.text.2) (by rfl))
        go_wp2_with fail
        go_meet
        case rel =>
          have := HF.out
          simp at this
          subst this
          exact ⟨_, _, F7.out⟩
      · have g1 : (n == 1) = false := by simpa using h1
        have g2 : (n == 2) = false := by simpa using h2
        have hfr := HF.out
        rw [if_neg h1, if_neg h2] at hfr
        have HFR := Lib.hid hfr; clear hfr h1 h2
        go_wp2_with fail
        go_meet
        case rel =>
          have := HFR.out
          subst this
          exact ⟨_, _, FL.out⟩
  case rest =>
    obtain ⟨ao, cap, fl⟩ := hcut
    obtain ⟨c0, c1', c2, c3, c4, c5⟩ := fl.box.bx
    obtain ⟨⟨z0, z1, z2, z3, z4, z5⟩, f0, f1, f2, f3, f4, f5⟩ := fl.res
    have FX := Lib.hid fl; clear fl
    go_wp2
    have hb := FX.out.res.set ao cap r.2
    refine bodyPost_ret (results_box rfl rfl (load_def hb.bx)) rfl ?_
    exact ⟨ao, cap, rfl, owns_kept FX.out.own (kept_setD wc _ _ _ _) (fun k hk => (FX.out.ob k hk).2), ⟨_, _, FX.out.rd.choose_spec.choose_spec.kept (kept_setD wc _ _ _ _) (by omega) (fun k _ hd e => by have := HD.out k hd; omega)⟩, kept_setD' FX.out.k (Nat.le_refl _)⟩

theorem owns_le {w : World} {base : Nat} {e : TypeId} {size n cap : Nat} {ao : Option Addr} {xs : List Value} (h : w.ownsRow base e size (.slice ao n cap) n xs) : n ≤ cap := by
  rcases h.2 with ⟨h1, h2⟩ | ⟨g, c, cur, hv, _, _, hle, _⟩
  · omega
  · cases hv; exact hle

def DrPost (w : World) (D : Nat → Prop) (b : Nat) (s' : RS) (d : DD) (er : Int) (e : Ending) (w' : World) : Prop :=
  ∃ ao cap, e = .returned (.tuple #[.agg #[.int .i64 d.k, .string (bs d.c), .string (bs d.p), .slice ao d.vs.length cap, .string (bs d.s), .string (bs d.t)], .int .i64 er]) ∧ w'.ownsRow w.heap.size 9 1 (.slice ao d.vs.length cap) d.vs.length (strs d.vs) ∧ (∃ a c, Rd w' D b a c s') ∧ Kept (fun k => k = b) w w'

set_option maxHeartbeats 1600000 in
set_option maxRecDepth 100000 in
theorem dread_any (D : Nat → Prop) (b : Nat) (a : Option Addr) (c : Nat) (s : RS) (w : World) (hD : ∀ k, D k → k < w.heap.size) (h : Rd w D b a c s) (hl : s.rest.length ≤ 1099511627776) :
    Calls Tryz.prog 101 #[.pointer (some ⟨b, 0, none⟩)] w (DrPost w D b (fieldsR s).1 (judgeR (fieldsR s)).1 (judgeR (fieldsR s)).2) := by
  have hlt := h.lt
  have hz0 := bz_new w none 0 zeroD 46
  have hk0 := (Kept.refl (fun k => k = b) w).alloc (.cells #[.int .i64 0, .string ⟨#[]⟩, .string ⟨#[]⟩, .slice none 0 0, .string ⟨#[]⟩, .string ⟨#[]⟩] 46)
  have hr0 := h.kept (S := fun _ => False) ((Kept.refl _ w).alloc (.cells #[.int .i64 0, .string ⟨#[]⟩, .string ⟨#[]⟩, .slice none 0 0, .string ⟨#[]⟩, .string ⟨#[]⟩] 46)) (fun h => h) (fun _ _ _ h => h)
  have HZ0 := Lib.hid hz0; have HK0 := Lib.hid hk0; have HD := Lib.hid hD
  have HN := Lib.hid (dfields_any D b a c s _ (fun k hk => by have := hD k hk; rw [World.size_alloc]; omega) hr0)
  have HS := Lib.hid (fields_s s hl)
  have hJ : judgeR (fieldsR s) = if (fieldsR s).1.err ≠ 0 then (zeroD, (fieldsR s).1.err) else if rightD (fieldsR s).2 = true then ((fieldsR s).2, 0) else (zeroD, 31) := rfl
  have HJ := Lib.hid hJ
  clear hz0 hk0 hr0 h hD hl hJ
  generalize judgeR (fieldsR s) = j at *
  generalize fieldsR s = r at *
  obtain ⟨s', d⟩ := r
  obtain ⟨d', er⟩ := j
  dsimp only at HN HS HJ
  go_enter Tryz.func101, Tryz.ntmps101
  go_wp2_with fail
  refine HN.out.mono ?_
  rintro e w1 ⟨ao, cap, rfl, ho, ⟨a1, c1, r1⟩, k1⟩
  have hsz := k1.size
  rw [World.size_alloc] at hsz
  have HO := Lib.hid (owns_base ho (base' := w.heap.size) (fun k hk => by have := (owns_lt ho k hk).1; rw [World.size_alloc] at this; omega))
  have HOB := Lib.hid (show ∀ k, (Value.slice ao d.vs.length cap).ownBlock = some k → k ≠ w.heap.size from fun k hk => by have := (owns_lt ho k hk).1; rw [World.size_alloc] at this; omega)
  have hr2 := r1.kept (S := fun _ => False) ((Kept.refl _ w1).alloc (.cells #[.int .i64 d.k, .string (bs d.c), .string (bs d.p), .slice ao d.vs.length cap, .string (bs d.s), .string (bs d.t)] 46)) (fun h => h) (fun _ _ _ h => h)
  have HR2 := Lib.hid hr2
  have HZ2 := Lib.hid ((HZ0.out.kept k1 (by omega)).kept (S := fun _ => False) ((Kept.refl _ w1).alloc (.cells #[.int .i64 d.k, .string (bs d.c), .string (bs d.p), .slice ao d.vs.length cap, .string (bs d.s), .string (bs d.t)] 46)) (fun h => h))
  have HBX := Lib.hid (bx_new w1 ao cap d 46)
  have HO2 := Lib.hid (owns_kept (S := fun _ => False) HO.out ((Kept.refl _ w1).alloc (.cells #[.int .i64 d.k, .string (bs d.c), .string (bs d.p), .slice ao d.vs.length cap, .string (bs d.s), .string (bs d.t)] 46)) (fun _ _ h => h))
  have HK2 := Lib.hid ((HK0.out.trans k1 (fun _ _ h => h)).alloc (.cells #[.int .i64 d.k, .string (bs d.c), .string (bs d.p), .slice ao d.vs.length cap, .string (bs d.s), .string (bs d.t)] 46))
  clear r1 k1 ho hr2 HO HZ0 HK0 HN
  go_wp2_with fail
  generalize (w1.alloc (.cells #[.int .i64 d.k, .string (bs d.c), .string (bs d.p), .slice ao d.vs.length cap, .string (bs d.s), .string (bs d.t)] 46)) = w2 at *
  generalize w1.heap.size = x at *
  refine HR2.out.errs.mono ?_
  rintro e w3 ⟨rfl, rfl⟩
  obtain ⟨⟨z0, z1, z2, z3, z4, z5⟩, f0, f1, f2, f3, f4, f5⟩ := HZ2.out
  obtain ⟨x0, x1, x2, x3, x4, x5⟩ := HBX.out
  by_cases he : s'.err = 0
  · have he1 : (s'.err == 0) = true := by simp [he]
    have HE := Lib.hid he; clear he
    go_wp2_with fail
    refine (dright_any d ao cap _ w2 (owns_lies HO2.out) (owns_le HO2.out) HS.out).mono ?_
    rintro e w3 ⟨rfl, k3⟩
    have HZ3 := Lib.hid (HZ2.out.kept k3 (fun h => h))
    have HBX3 := Lib.hid (HBX.out.kept k3 (fun h => h))
    have HO3 := Lib.hid (owns_kept HO2.out k3 (fun _ _ h => h))
    have HR3 := Lib.hid (HR2.out.kept k3 (fun h => h) (fun _ _ _ h => h))
    have HK3 := Lib.hid (HK2.out.trans k3 (fun _ _ h => h.elim))
    clear z0 z1 z2 z3 z4 z5 f0 f1 f2 f3 f4 f5 x0 x1 x2 x3 x4 x5 k3
    obtain ⟨⟨z0, z1, z2, z3, z4, z5⟩, f0, f1, f2, f3, f4, f5⟩ := HZ3.out
    obtain ⟨x0, x1, x2, x3, x4, x5⟩ := HBX3.out
    cases hr : rightD d with
    | true =>
      have HRT := Lib.hid hr; clear hr
      go_wp2
      have hb := HZ3.out.set ao cap d
      refine bodyPost_ret (results_box2 rfl rfl (load_def hb.bx)) rfl ?_
      have := HJ.out
      rw [if_neg (by simp [HE.out]), if_pos HRT.out] at this
      cases this
      exact ⟨ao, cap, rfl, owns_kept HO3.out (kept_setD w3 _ _ _ _) (HOB.out), ⟨_, _, HR3.out.kept (kept_setD w3 _ _ _ _) (by omega) (fun k _ hd e => by have := HD.out k hd; omega)⟩, kept_setD' HK3.out (Nat.le_refl _)⟩
    | false =>
      have HRT := Lib.hid hr; clear hr
      go_wp2
      have hb := HZ3.out.set none 0 zeroD
      refine bodyPost_ret (results_box2 rfl rfl (load_def hb.bx)) rfl ?_
      have := HJ.out
      rw [if_neg (by simp [HE.out]), if_neg (by simp [HRT.out])] at this
      cases this
      exact ⟨none, 0, rfl, World.ownsRow_nil _ _ _ _, ⟨_, _, HR3.out.kept (kept_setD w3 w.heap.size none 0 zeroD) (by omega) (fun k _ hd e => by have := HD.out k hd; omega)⟩, kept_setD' (r := w.heap.size) (ao := none) (cap := 0) (d := zeroD) HK3.out (Nat.le_refl _)⟩
  · have he1 : (s'.err == 0) = false := by simp [he]
    have HE := Lib.hid he; clear he
    go_wp2
    have hb := HZ2.out.set none 0 zeroD
    refine bodyPost_ret (results_box2 rfl rfl (load_def hb.bx)) rfl ?_
    have := HJ.out
    rw [if_pos HE.out] at this
    cases this
    exact ⟨none, 0, rfl, World.ownsRow_nil _ _ _ _, ⟨_, _, HR2.out.kept (kept_setD w2 w.heap.size none 0 zeroD) (by omega) (fun k _ hd e => by have := HD.out k hd; omega)⟩, kept_setD' (r := w.heap.size) (ao := none) (cap := 0) (d := zeroD) HK2.out (Nat.le_refl _)⟩

end Go.Proofs.YtjnpmbdehalmpaaGreat
