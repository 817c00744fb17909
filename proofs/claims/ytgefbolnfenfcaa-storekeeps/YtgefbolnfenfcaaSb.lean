/-
  CONTRACTS of package store: Text, Broken, Saves, Room, Format, Open.
-/
import Derived.Test.YtgefbolnfenfcaaSa
namespace Go.Proofs.Ytgefbolnfenfcaa
open Go.RowKit Go.Mk

theorem sealL_length (l : List UInt8) : (sealL l).length = l.length + 4 := by simp [sealL, le4]

theorem jget_len (n : Nat) (im : List UInt8) : (jget n im).1.length ≤ 64 * areaN n := by
  have h : (hmL n im).length ≤ 64 * areaN n := by unfold hmL; rw [List.length_take]; omega
  unfold jget
  split
  · simp
  · split
    · simp
    · simp only [List.length_take, List.length_drop]
      omega

/-- A new Store, behind block B. -/
theorem St.made {w : World} (b : Nat) (ao : Option Addr) (cap : Nat) (t : List UInt8) (hL : Lies w w.heap.size ao (t.map bv)) (ht : t.length ≤ 1073741824) (ty : TypeId) (B : Nat) (hB : t ≠ [] → ∀ a, ao = some a → B ≤ a.block) (hBs : B ≤ w.heap.size) :
    ∃ C, St (w.alloc (.cells #[.pointer (some ⟨b, 0, none⟩), .slice ao t.length cap, .int .u32 0, .int .i64 0] ty)) C w.heap.size b ⟨t, false, 0⟩ ∧ ∀ k, C k → B ≤ k := by
  refine ⟨fun k => k = w.heap.size ∨ t ≠ [] ∧ ∃ a, ao = some a ∧ k = a.block, ⟨⟨ao, cap, StAt.made b ao cap t hL ht ty, fun hne a ha => .inr ⟨hne, a, ha, rfl⟩⟩, .inl rfl, fun k hk => ?_⟩, fun k hk => ?_⟩
  · rcases hk with rfl | ⟨hne, a, ha, rfl⟩
    · simp
    · obtain ⟨b', o', e, hlt, _⟩ := hL (by simpa using hne)
      rw [e] at ha; cases ha
      simp
      omega
  · rcases hk with rfl | ⟨hne, a, ha, rfl⟩
    · exact hBs
    · exact hB hne a ha

theorem owns_ge {w : World} {base : Nat} {e : TypeId} {size : Nat} {ao : Option Addr} {n m cap : Nat} {xs : List Value} (h : w.ownsRow base e size (.slice ao n cap) m xs) : ∀ a, ao = some a → base ≤ a.block := by
  rintro a rfl
  exact (owns_lt h a.block rfl).1

section
variable {w : World} {D C : Nat → Prop} {sb b n : Nat} {s : DS} {x : SS}

theorem stext_any (h : St w C sb b x) :
    Calls Try.prog 12 #[.pointer (some ⟨sb, 0, none⟩)] w fun e w' => ∃ ao cap, e = .returned (.slice ao x.text.length cap) ∧ Lies w' w'.heap.size ao (x.text.map bv) ∧ Below w.heap.size w w' := by
  obtain ⟨⟨ao, cap, h1, _⟩, _, _⟩ := h
  have c1 := h1.c1
  have HO := Lib.hid (sopen_is h1)
  have HC := Lib.hid (clone_any ao cap x.text w.heap.size w h1.lies (by have := h1.tl; omega))
  have ht := h1.tl
  clear h1
  generalize x.text = t at *
  go_enter Try.func12, Try.ntmps12
  go_wp2_with fail
  refine HO.out.mono ?_
  rintro e w1 ⟨rfl, rfl⟩
  go_wp2_with fail
  refine HC.out.mono ?_
  rintro e w2 ⟨a2, k2, rfl, ho, hb⟩
  have HL := Lib.hid (owns_lies ho); have HB := Lib.hid hb; clear ho hb
  go_wp2
  go_ret
  exact ⟨a2, k2, rfl, HL.out, HB.out⟩
theorem stext_nil (w : World) : Calls Try.prog 12 #[.pointer none] w fun e w' => e = .returned (.slice none 0 0) ∧ w = w' := by
  go_enter Try.func12, Try.ntmps12
  go_wp2_with fail
  refine (sopen_nil w).mono ?_
  rintro e w1 ⟨rfl, rfl⟩
  go_wp2
  go_ret
  exact ⟨rfl, rfl⟩

/-- What Format and Open leave. -/
def SMade (w : World) (D : Nat → Prop) (b n : Nat) (s' : DS) (er : Int) (x : SS) (e : Ending) (w' : World) : Prop :=
  ∃ D', DkS w' D' b n s' ∧ (∀ i, D' i → D i ∨ w.heap.size ≤ i) ∧ Kept D w w' ∧
    ((er ≠ 0 ∧ e = .returned (.tuple #[.pointer none, .int .i64 er])) ∨
      (er = 0 ∧ ∃ sb C, e = .returned (.tuple #[.pointer (some ⟨sb, 0, none⟩), .int .i64 0]) ∧ St w' C sb b x ∧ (∀ k, C k → w.heap.size ≤ k) ∧ ∀ k, D' k → ¬ C k))

theorem SMade.none_ {w' : World} {s' : DS} {er : Int} (h : JDid w D b n s' w') (he : er ≠ 0) : SMade w D b n s' er x (.returned (.tuple #[.pointer none, .int .i64 er])) w' := by
  obtain ⟨D', h1, h2, h3⟩ := h
  exact ⟨D', h1, h2, h3, .inl ⟨he, rfl⟩⟩

theorem JDid.fresh2 {w' w'' : World} {s' : DS} (h : JDid w D b n s' w') (hb : Below w'.heap.size w' w'') : JDid w D b n s' w'' := by
  obtain ⟨D', h1, h2, h3⟩ := h
  exact ⟨D', h1.fresh hb, h2, h3.trans (kob (S := fun _ => False) hb (Nat.le_refl _)) (fun _ _ h => h.elim)⟩
theorem JDid.after {w0 w' : World} {s' : DS} (hb : Below w0.heap.size w0 w) (h : JDid w D b n s' w') : JDid w0 D b n s' w' := by
  obtain ⟨D', h1, h2, h3⟩ := h
  exact ⟨D', h1, fun i hi => (h2 i hi).imp id (fun h => Nat.le_trans hb.size h), (kob (S := D) hb (Nat.le_refl _)).trans h3 (fun _ _ h => h)⟩

/-- A new Store behind what a call has done. -/
theorem SMade.some_ {w2 w3 : World} {s' : DS} {t : List UInt8} {ao : Option Addr} {cap : Nat} {e : TypeId} {z : Nat} {m : Nat} (h : JDid w D b n s' w2) (ho : w3.ownsRow w2.heap.size e 1 (.slice ao t.length cap) t.length (t.map bv)) (hb : Below w2.heap.size w2 w3) (ht : t.length ≤ 1073741824) (ty : TypeId) (hz : z = w3.heap.size) (hm : m = t.length) :
    SMade w D b n s' 0 ⟨t, false, 0⟩ (.returned (.tuple #[.pointer (some ⟨z, 0, none⟩), .int .i64 0])) (w3.alloc (.cells #[.pointer (some ⟨b, 0, none⟩), .slice ao m cap, .int .u32 0, .int .i64 0] ty)) := by
  subst hz hm
  obtain ⟨D', h1, h2, h3⟩ := h
  obtain ⟨C, hC, hCB⟩ := St.made b ao cap t (owns_lies ho) ht ty w2.heap.size (fun _ => owns_ge ho) hb.size
  have hb4 : Below w2.heap.size w2 (w3.alloc (.cells #[.pointer (some ⟨b, 0, none⟩), .slice ao t.length cap, .int .u32 0, .int .i64 0] ty)) := hb.alloc hb.size _
  refine ⟨D', h1.fresh hb4, h2, h3.trans (kob (S := fun _ => False) hb4 (Nat.le_refl _)) (fun _ _ h => h.elim), .inr ⟨rfl, w3.heap.size, C, rfl, hC, fun k hk => Nat.le_trans h3.size (hCB k hk), fun k hk hc => ?_⟩⟩
  have := h1.lt k hk
  have := hCB k hc
  omega

set_option maxHeartbeats 400000 in
theorem sformat_any (h : DkS w D b n s) (ao : Option Addr) (cap : Nat) (t : List UInt8) (hL : Lies w w.heap.size ao (t.map bv)) (hn : t ≠ [] → ∀ a, ao = some a → ¬ D a.block) (ht : t.length ≤ 1000000) (hp : s.ws.length ≤ 900000) :
    Calls Try.prog 7 #[.pointer (some ⟨b, 0, none⟩), .slice ao t.length cap] w (SMade w D b n (jformat n (sealL t) s).1 (jformat n (sealL t) s).2 ⟨t, false, 0⟩) := by
  have hf := fun (w1 : World) (hb : Below w.heap.size w w1) (a1 : Option Addr) (c1 : Nat) (hl : Lies w1 w1.heap.size a1 ((sealL t).map bv)) => jformat_any (h.fresh hb) a1 (t.length + 4) c1 (sealL t) (sealL_length t).symm hl hp
  have HS := Lib.hid (cseal_any ao cap t w.heap.size w hL (by omega))
  generalize jformat n (sealL t) s = r at *
  obtain ⟨s', er⟩ := r
  simp only at hf ⊢
  have HF := Lib.hid hf; have HL := Lib.hid hL; have HN := Lib.hid hn; clear hf hL hn h
  by_cases he : er = 0
  · subst he
    go_enter Try.func7, Try.ntmps7
    go_wp2_with fail
    refine HS.out.mono ?_
    rintro e w1 ⟨a1, c1, rfl, ho1, b1⟩
    have HF1 := Lib.hid (HF.out w1 b1 a1 c1 (owns_lies ho1)); have B1 := Lib.hid b1; clear ho1 b1
    go_wp2_with fail
    refine HF1.out.mono ?_
    rintro e w2 ⟨rfl, hj⟩
    have hl2 : Lies w2 w2.heap.size ao (t.map bv) := by
      obtain ⟨_, _, _, hk⟩ := hj
      exact (((HL.out.below B1.out).kept hk (fun hne => HN.out (by simpa using hne))).mono (Nat.le_trans B1.out.size hk.size))
    have HC := Lib.hid (clone_any ao cap t w2.heap.size w2 hl2 (by omega)); have HJ := Lib.hid (JDid.after B1.out hj); clear hl2 hj
    go_wp2_with fail
    refine HC.out.mono ?_
    rintro e w3 ⟨a3, c3, rfl, ho3, b3⟩
    have HO3 := Lib.hid ho3; have B3 := Lib.hid b3; clear ho3 b3
    go_wp2
    go_ret2
    exact SMade.some_ HJ.out HO3.out B3.out (by omega) _ rfl rfl
  · have heb : (er != 0) = true := by simpa using he
    have HE := Lib.hid he; clear he
    go_enter Try.func7, Try.ntmps7
    go_wp2_with fail
    refine HS.out.mono ?_
    rintro e w1 ⟨a1, c1, rfl, ho1, b1⟩
    have HF1 := Lib.hid (HF.out w1 b1 a1 c1 (owns_lies ho1)); have B1 := Lib.hid b1; clear ho1 b1
    go_wp2_with fail
    refine HF1.out.mono ?_
    rintro e w2 ⟨rfl, hj⟩
    have HJ := Lib.hid (JDid.after B1.out hj); clear hj
    go_wp2
    go_ret2
    exact SMade.none_ HJ.out HE.out

set_option maxHeartbeats 400000 in
theorem sopen_any (h : DkS w D b n s) (hp : s.ws.length ≤ 900000) :
    Calls Try.prog 11 #[.pointer (some ⟨b, 0, none⟩)] w (SMade w D b n (jrec n s).1 (sopenE n s) ⟨sopenT n s, false, 0⟩) := by
  have hn2 := h.n1.2
  have ha : areaN n ≤ 32767 := by unfold areaN; omega
  have hre := jrec_any h hp
  unfold sopenE sopenT
  generalize jrec n s = r at *
  obtain ⟨s', er⟩ := r
  simp only at hre ⊢
  have hg := fun (w1 : World) (D1 : Nat → Prop) (hd : DkS w1 D1 b n s') => jget_any hd
  have hgl := jget_len n (image s'.base s'.ws)
  generalize jget n (image s'.base s'.ws) = G at *
  obtain ⟨gl, ge⟩ := G
  simp only at hg hgl ⊢
  have hgl : gl.length ≤ 1073741824 := by omega
  have hol : (openB gl).1.length ≤ gl.length := by
    unfold openB
    split
    · simp
    · split
      · simp only [List.length_take]; omega
      · simp
  have hco := fun (w1 : World) (a1 : Option Addr) (c1 : Nat) (hl : Lies w1 w1.heap.size a1 (gl.map bv)) (hc : gl.length ≤ c1) => copen_any a1 c1 gl w1.heap.size w1 hl hgl hc
  generalize openB gl = O at *
  obtain ⟨ol, oe⟩ := O
  simp only at hco hol ⊢
  have HRE := Lib.hid hre; have HG := Lib.hid hg; have HCO := Lib.hid hco; clear hre hg hco h
  by_cases he : er = 0
  · subst he
    by_cases hge : ge = 0
    · subst hge
      by_cases hoe : oe = 0
      · subst hoe
        simp only [ne_eq, not_true_eq_false, if_false]
        go_enter Try.func11, Try.ntmps11
        go_wp2_with fail
        refine HRE.out.mono ?_
        rintro e w1 ⟨rfl, hj⟩
        have hgg := hj
        obtain ⟨D1, hd1, _, _⟩ := hgg
        have HG1 := Lib.hid (HG.out w1 D1 hd1); have HJ := Lib.hid hj; clear hj hd1
        go_wp2_with fail
        refine HG1.out.mono ?_
        rintro e w2 ⟨a2, c2, rfl, hl2, _, hc2, _, b2⟩
        have HC2 := Lib.hid (HCO.out w2 a2 c2 hl2 hc2); have HJ2 := Lib.hid (JDid.fresh2 HJ.out b2); clear hl2 hc2 b2 HG1
        go_wp2_with fail
        refine HC2.out.mono ?_
        rintro e w3 ⟨a3, c3, rfl, ho3, b3⟩
        have HO3 := Lib.hid ho3; have B3 := Lib.hid b3; clear ho3 b3
        go_wp2
        go_ret2
        exact SMade.some_ HJ2.out HO3.out B3.out (by omega) _ rfl rfl
      · have hob : (oe != 0) = true := by simpa using hoe
        have HE := Lib.hid hoe; clear hoe
        simp only [ne_eq, not_true_eq_false, if_false]
        go_enter Try.func11, Try.ntmps11
        go_wp2_with fail
        refine HRE.out.mono ?_
        rintro e w1 ⟨rfl, hj⟩
        have hgg := hj
        obtain ⟨D1, hd1, _, _⟩ := hgg
        have HG1 := Lib.hid (HG.out w1 D1 hd1); have HJ := Lib.hid hj; clear hj hd1
        go_wp2_with fail
        refine HG1.out.mono ?_
        rintro e w2 ⟨a2, c2, rfl, hl2, _, hc2, _, b2⟩
        have HC2 := Lib.hid (HCO.out w2 a2 c2 hl2 hc2); have HJ2 := Lib.hid (JDid.fresh2 HJ.out b2); clear hl2 hc2 b2 HG1
        go_wp2_with fail
        refine HC2.out.mono ?_
        rintro e w3 ⟨a3, c3, rfl, ho3, b3⟩
        have HJ3 := Lib.hid (JDid.fresh2 HJ2.out b3); clear ho3 b3
        go_wp2
        go_ret2
        exact SMade.none_ HJ3.out HE.out
    · have hgb : (ge != 0) = true := by simpa using hge
      have HE := Lib.hid hge
      rw [if_neg (by simp), if_pos hge]
      clear hge
      go_enter Try.func11, Try.ntmps11
      go_wp2_with fail
      refine HRE.out.mono ?_
      rintro e w1 ⟨rfl, hj⟩
      have hgg := hj
      obtain ⟨D1, hd1, _, _⟩ := hgg
      have HG1 := Lib.hid (HG.out w1 D1 hd1); have HJ := Lib.hid hj; clear hj hd1
      go_wp2_with fail
      refine HG1.out.mono ?_
      rintro e w2 ⟨a2, c2, rfl, hl2, _, hc2, _, b2⟩
      have HJ2 := Lib.hid (JDid.fresh2 HJ.out b2); clear hl2 hc2 b2 HG1
      go_wp2
      go_ret2
      exact SMade.none_ HJ2.out HE.out
  · have heb : (er != 0) = true := by simpa using he
    have HE := Lib.hid he
    rw [if_pos he]
    clear he
    go_enter Try.func11, Try.ntmps11
    go_wp2_with fail
    refine HRE.out.mono ?_
    rintro e w1 ⟨rfl, hj⟩
    have HJ := Lib.hid hj; clear hj
    go_wp2
    go_ret2
    exact SMade.none_ HJ.out HE.out

end

end Go.Proofs.Ytgefbolnfenfcaa
