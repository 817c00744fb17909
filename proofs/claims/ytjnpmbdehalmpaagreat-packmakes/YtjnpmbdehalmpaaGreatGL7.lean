/-
  Lemmas towards the claim of this folder: contracts of the functions that the law reaches; joined texts.
-/
import Derived.Test.YtjnpmbdehalmpaaGreatGDg
import Derived.Test.YtjnpmbdehalmpaaGreatGPo
import Derived.Test.YtjnpmbdehalmpaaGreatGTg
/-
  The laws of layer 7: awake.
-/
namespace Go.Proofs.YtjnpmbdehalmpaaGreat
open Go.RowKit Go.Mk

theorem keeps_below7 {w w' : World} (h : Kept (fun _ => False) w w') : Below w.heap.size w w' := h.below (Nat.le_refl _) (fun _ h => h.elim)

end Go.Proofs.YtjnpmbdehalmpaaGreat

/-
  def.Write.
-/
namespace Go.Proofs.YtjnpmbdehalmpaaGreat
open Go.RowKit Go.Mk

/-- The Writer and the box, behind w. -/
structure W7 (w : World) (F : Nat → Prop) (b : Nat) (ao : Option Addr) (cap : Nat) (d : DD) (s : WS) (wx : World) : Prop where
  wr : WrF wx (fun k => F k ∧ k ≠ w.heap.size) b s
  bx : Bx wx w.heap.size ao cap d
  k : Kept F w wx
  sz : w.heap.size < wx.heap.size
  hF : ∀ k, w.heap.size ≤ k → F k

theorem W7.fr {w : World} {F : Nat → Prop} {b : Nat} {ao : Option Addr} {cap : Nat} {d : DD} {s : WS} {wx : World} (h : W7 w F b ao cap d s wx) : ∀ k, wx.heap.size ≤ k → F k ∧ k ≠ w.heap.size :=
  fun k hk => ⟨h.hF k (by have := h.sz; omega), by have := h.sz; omega⟩

theorem W7.step {w : World} {F : Nat → Prop} {b : Nat} {ao : Option Addr} {cap : Nat} {d : DD} {s s' : WS} {wx wy : World} (h : W7 w F b ao cap d s wx) (hw : WrF wy (fun k => F k ∧ k ≠ w.heap.size) b s') (hk : Kept (fun k => F k ∧ k ≠ w.heap.size) wx wy) : W7 w F b ao cap d s' wy :=
  ⟨hw, h.bx.kept hk (fun h => h.2 rfl), h.k.trans hk (fun _ _ h => h.1), Nat.lt_of_lt_of_le h.sz hk.size, h.hF⟩

theorem W7.fin {w : World} {F : Nat → Prop} {b : Nat} {ao : Option Addr} {cap : Nat} {d : DD} {s : WS} {wx : World} (h : W7 w F b ao cap d s wx) : WrFPost w F b s (.returned (.tuple #[])) wx := ⟨rfl, h.wr.in (fun _ _ h => h.1), h.k⟩

set_option maxHeartbeats 400000 in
set_option maxRecDepth 100000 in
theorem dwrite7_any {w : World} {F : Nat → Prop} {b : Nat} {s : WS} (h : WrF w F b s) (hF : ∀ k, w.heap.size ≤ k → F k) (d : DD) (ao : Option Addr) (cap : Nat) (hA : Lies w w.heap.size ao (strs d.vs)) (hna : d.vs ≠ [] → ∀ a, ao = some a → ¬ F a.block) (hc : d.vs.length ≤ cap) (hs : SmallD d) (hl : s.out.length ≤ 10000000) :
    Calls Tryz.prog 70 #[.pointer (some ⟨b, 0, none⟩), .agg #[.int .i64 d.k, .string (bs d.c), .string (bs d.p), .slice ao d.vs.length cap, .string (bs d.s), .string (bs d.t)]] w (WrFPost w F b (writeD s d)) := by
  have h1 := hs.c; have h2 := hs.p; have h3 := hs.n; have h4 := hs.s; have h5 := hs.t
  have hsu := sumL_le d.vs hs.v
  have hv : ∀ t ∈ d.vs, t.length ≤ 274877906944 := fun t ht => by have := hs.v t ht; omega
  have hlt : b < w.heap.size := by obtain ⟨_, _, _, hw, _⟩ := h; exact hw.lt
  have hka := (Kept.refl (fun _ => False) w).alloc (.cells #[.int .i64 d.k, .string (bs d.c), .string (bs d.p), .slice ao d.vs.length cap, .string (bs d.s), .string (bs d.t)] 46)
  have HR := Lib.hid (dright_any d ao cap _ _ (hA.kept hka (fun _ _ _ h => h)) hc (by omega))
  have HW0 := Lib.hid (fun (wx : World) (k : Kept (fun _ => False) (w.alloc (.cells #[.int .i64 d.k, .string (bs d.c), .string (bs d.p), .slice ao d.vs.length cap, .string (bs d.s), .string (bs d.t)] 46)) wx) => (show W7 w F b ao cap d s wx from
    ⟨(h.in (fun k hk hf => ⟨hf, by omega⟩)).kept (keeps_below7 (hka.trans k (fun _ _ h => h))), (bx_new w ao cap d _).kept k (fun h => h), (hka.trans k (fun _ _ h => h)).mono (fun _ _ h => h.elim), by have := k.size; rw [World.size_alloc] at this; omega, hF⟩))
  have hD : writeD s d = if rightD d = true then (if d.k = 2 then (((s.num d.k).text d.c).text d.s).text d.t else (((s.num d.k).text d.c).text d.p).texts d.vs) else s.num (-1) := rfl
  have HD := Lib.hid hD; have HA := Lib.hid hA; have HNA := Lib.hid hna; have HV := Lib.hid hv
  have l1 := WS.num_len s d.k
  have l2 := WS.text_len (s.num d.k) d.c
  have l3 := WS.text_len ((s.num d.k).text d.c) d.s
  have l4 := WS.text_len ((s.num d.k).text d.c) d.p
  have L := Lib.hid (show s.out.length ≤ 20000000 ∧ (s.num d.k).out.length ≤ 20000000 ∧ ((s.num d.k).text d.c).out.length ≤ 20000000 ∧ (((s.num d.k).text d.c).text d.s).out.length ≤ 20000000 ∧ (((s.num d.k).text d.c).text d.p).out.length ≤ 20000000 ∧ sumL d.vs ≤ 10000 ∧ d.vs.length ≤ 30 ∧ d.c.length ≤ 10000 ∧ d.p.length ≤ 10000 ∧ d.s.length ≤ 10000 ∧ d.t.length ≤ 10000 by omega)
  clear hD hA hna hv l1 l2 l3 l4 h hF hs hka hlt h1 h2 h3 h4 h5 hsu hl hc
  generalize writeD s d = o at *
  go_enter Tryz.func70, Tryz.ntmps70
  go_wp2_with fail
  refine HR.out.mono ?_
  rintro e w1 ⟨rfl, k1⟩
  have W1 := Lib.hid (HW0.out w1 k1); clear k1 HW0 HR
  cases hr : rightD d with
  | false =>
    have HO := Lib.hid (HD.out.trans (if_neg (by simp [hr]))); clear hr
    go_wp2_with fail
    refine (W1.out.wr.num W1.out.fr (-1) (by have := L.out; omega)).mono ?_
    rintro e w2 ⟨rfl, h2, k2⟩
    have W2 := Lib.hid (W1.out.step h2 k2); clear h2 k2
    go_wp2
    refine bodyPost_ret (results_none rfl _ _ _) rfl ?_
    rw [HO.out]
    exact W2.out.fin
  | true =>
    have HO := Lib.hid (HD.out.trans (if_pos hr)); clear hr
    obtain ⟨c0, c1, c2, c3, c4, c5⟩ := W1.out.bx
    go_wp2_with fail
    refine (W1.out.wr.num W1.out.fr d.k (by have := L.out; omega)).mono ?_
    rintro e w2 ⟨rfl, h2, k2⟩
    have W2 := Lib.hid (W1.out.step h2 k2); clear h2 k2 c0 c1 c2 c3 c4 c5
    obtain ⟨c0, c1, c2, c3, c4, c5⟩ := W2.out.bx
    go_wp2_with fail
    refine (W2.out.wr.text W2.out.fr (bs d.c) (by have := L.out; omega) (by have := L.out; rw [bs_size]; omega)).mono ?_
    rintro e w3 ⟨rfl, h2, k2⟩
    have W3 := Lib.hid (W2.out.step (s' := (s.num d.k).text d.c) h2 k2); clear h2 k2 c0 c1 c2 c3 c4 c5
    obtain ⟨c0, c1, c2, c3, c4, c5⟩ := W3.out.bx
    by_cases hk : d.k = 2
    · have HO2 := Lib.hid (HO.out.trans (if_pos hk))
      have hk1 : (d.k == 2) = true := by simp [hk]
      clear hk
      go_wp2_with fail
      refine (W3.out.wr.text W3.out.fr (bs d.s) (by have := L.out; omega) (by have := L.out; rw [bs_size]; omega)).mono ?_
      rintro e w4 ⟨rfl, h2, k2⟩
      have W4 := Lib.hid (W3.out.step (s' := ((s.num d.k).text d.c).text d.s) h2 k2); clear h2 k2 c0 c1 c2 c3 c4 c5
      obtain ⟨c0, c1, c2, c3, c4, c5⟩ := W4.out.bx
      go_wp2_with fail
      refine (W4.out.wr.text W4.out.fr (bs d.t) (by have := L.out; omega) (by have := L.out; rw [bs_size]; omega)).mono ?_
      rintro e w5 ⟨rfl, h2, k2⟩
      have W5 := Lib.hid (W4.out.step (s' := (((s.num d.k).text d.c).text d.s).text d.t) h2 k2); clear h2 k2
      go_wp2
      refine bodyPost_ret (results_none rfl _ _ _) rfl ?_
      rw [HO2.out]
      exact W5.out.fin
    · have HO2 := Lib.hid (HO.out.trans (if_neg hk))
      have hk1 : (d.k == 2) = false := by simp [hk]
      clear hk
      go_wp2_with fail
      refine (W3.out.wr.text W3.out.fr (bs d.p) (by have := L.out; omega) (by have := L.out; rw [bs_size]; omega)).mono ?_
      rintro e w4 ⟨rfl, h2, k2⟩
      have W4 := Lib.hid (W3.out.step (s' := ((s.num d.k).text d.c).text d.p) h2 k2); clear h2 k2 c0 c1 c2 c3 c4 c5
      obtain ⟨c0, c1, c2, c3, c4, c5⟩ := W4.out.bx
      go_wp2_with fail
      refine (W4.out.wr.textsL W4.out.fr ao cap d.vs (HA.out.kept W4.out.k (fun hn => HNA.out (fun e => hn (by rw [e]; rfl)))) (fun hn a ha hf => HNA.out (by intro e; exact hn e) a ha hf.1) (by have := L.out; omega) (by have := L.out; omega) HV.out).mono ?_
      rintro e w5 ⟨rfl, h2, k2⟩
      have W5 := Lib.hid (W4.out.step h2 k2); clear h2 k2
      go_wp2
      go_end0
      rw [HO2.out]
      exact W5.out.fin

end Go.Proofs.YtjnpmbdehalmpaaGreat

/-
  CONTRACTS of package snap: Write.
-/
namespace Go.Proofs.YtjnpmbdehalmpaaGreat
open Go.RowKit Go.Mk Go.Maps Go.Shelf

theorem nm_len {l : List UInt8} (h : isNm l = true) : l.length ≤ 40 := by
  simp [isNm, lenIn] at h
  exact h.1.1.2

theorem flat_le (ps : List (List UInt8)) (k : Nat) (h : ∀ x ∈ ps, x.length ≤ k) : ps.flatten.length ≤ k * ps.length := by
  induction ps with
  | nil => simp
  | cons x ps ih =>
    have h1 := h x (by simp)
    have h2 := ih (fun y hy => h y (by simp [hy]))
    simp only [List.flatten_cons, List.length_append, List.length_cons, Nat.mul_add]
    omega

theorem sel_len {l : List UInt8} (h : isSel l = true) : l.length ≤ 410 := by
  unfold isSel at h
  have h := of_decide_eq_true h
  unfold kindL at h
  split at h
  · rename_i h1
    simp [isUn] at h1
    have := nm_len h1.1
    omega
  · split at h
    · rename_i h1
      simp [isBi, lenIn] at h1
      omega
    · split at h
      · simp at h
      · rename_i h1
        unfold kwL at h1
        split at h1
        · rename_i h2
          obtain ⟨a1, a2, a3⟩ := h2
          have hf := cutL_flat l
          rw [a1, List.append_nil] at hf
          have := flat_le (cutL l).1 41 (fun x hx => by
            have := List.all_eq_true.1 a3 x hx
            simp only [goodP, isUn, Bool.and_eq_true] at this
            have := nm_len this.1
            rw [List.length_dropLast] at this
            omega)
          rw [hf] at this
          omega
        · simp at h1

/-- A valid definition is small. -/
theorem right_small {d : DD} (h : rightD d = true) : SmallD d := by
  rcases right_kind h with hk | hk
  · rw [rightD_one hk] at h
    simp only [rightC, ownCl, Bool.and_eq_true] at h
    obtain ⟨⟨⟨⟨⟨h1, _⟩, h2⟩, h3⟩, h4⟩, h5⟩ := h
    simp only [isCl, Bool.and_eq_true] at h1 h2
    have e4 : d.s = [] := by simpa using h4
    have e5 : d.t = [] := by simpa using h5
    simp only [areVars, Bool.and_eq_true, decide_eq_true_eq] at h3
    refine ⟨by have := nm_len h1.1; omega, by have := nm_len h2.1; omega, by omega, by rw [e4]; simp, by rw [e5]; simp, fun x hx => ?_⟩
    obtain ⟨i, hi, rfl⟩ := List.mem_iff_getElem.1 hx
    have hv := List.all_eq_true.1 (show varsTo d.vs d.vs.length = true from h3.2) i (List.mem_range.2 hi)
    rw [varAt_lt hi] at hv
    simp only [isVa, isUn, Bool.and_eq_true] at hv
    have := nm_len hv.1.1.1
    omega
  · rw [rightD_two hk] at h
    simp only [rightM, isCl, Bool.and_eq_true, decide_eq_true_eq] at h
    obtain ⟨⟨⟨⟨h1, h2⟩, h3⟩, h4⟩, h5⟩ := h
    have e4 : d.p = [] := by simpa using h4
    have e5 : d.vs = [] := by simpa using h5
    exact ⟨by have := nm_len h1.1; omega, by rw [e4]; simp, by rw [e5]; simp, by have := sel_len h2; omega, by omega, by rw [e5]; simp⟩

/-- The octets of definitions, one behind the other. -/
def octsL (l : List DD) : List UInt8 := (l.map octD).flatten
def octS (l : List DD) : List UInt8 := bigB 4 l.length ++ octsL l

theorem octsL_len (l : List DD) (h : ∀ d ∈ l, SmallD d) : (octsL l).length ≤ 10000 * l.length := by
  unfold octsL
  have := flat_le (l.map octD) 10000 (fun x hx => by
    obtain ⟨d, hd, rfl⟩ := List.mem_map.1 hx
    exact octD_len d (h d hd))
  rwa [List.length_map] at this

theorem octsL_snoc (l : List DD) (d : DD) : octsL (l ++ [d]) = octsL l ++ octD d := by simp [octsL]

theorem lies_val {w : World} {B : Nat} {ao : Option Addr} {v : Value} {vs : List Value} (h : Lies w B ao (v :: vs)) : ∃ b off, ao = some ⟨b, off, none⟩ ∧ b < B ∧ w.cell? ⟨b, off, none⟩ = some v := by
  obtain ⟨b, off, e, hb, hc⟩ := h (by simp)
  exact ⟨b, off, e, hb, hc 0 v rfl⟩

theorem WrF.keptF {w w' : World} {F S : Nat → Prop} {b : Nat} {s : WS} (h : WrF w F b s) (hk : Kept S w w') (hd : ∀ k, F k → ¬ S k) : WrF w' F b s := by
  obtain ⟨hlo, ao, cap, hw, hr⟩ := h
  have hlt := hw.lt
  exact ⟨hlo, ao, cap, ⟨(hk.cell (p := ⟨b, 0, none⟩) hlt (hd b hlo)).trans hw.c0, (hk.cell (p := ⟨b, 1, none⟩) hlt (hd b hlo)).trans hw.c1, (hk.frozen (p := ⟨b, 0, none⟩) hlt (hd b hlo)).trans hw.f0, (hk.frozen (p := ⟨b, 1, none⟩) hlt (hd b hlo)).trans hw.f1, owns_kept hw.own hk (fun k hk' => hd k (hr k (by rw [← own_any]; exact hk'))), hw.ne⟩, hr⟩

/-- A writer that has written something: its blocks hold no row of texts. -/
theorem WrF.apart {w : World} {F : Nat → Prop} {b : Nat} {s : WS} (h : WrF w F b s) (hs : s.out ≠ []) {B g : Nat} {vs : List (List UInt8)} (hL : Lies w B (some ⟨g, 0, none⟩) (strs vs)) (hv : vs ≠ []) : WrF w (fun k => F k ∧ k ≠ g) b s := by
  obtain ⟨hlo, wo, wc, hw, hr⟩ := h
  cases vs with
  | nil => exact (hv rfl).elim
  | cons t vs =>
    obtain ⟨g', off, e, _, hc⟩ := lies_val (show Lies w B (some ⟨g, 0, none⟩) (.string (bs t) :: strs vs) from hL)
    cases e
    refine ⟨⟨hlo, fun e => ?_⟩, wo, wc, hw, fun k hk => ⟨hr k hk, fun e => ?_⟩⟩
    · have h0 := hw.c0
      rw [e, hc] at h0
      cases h0
    · subst e
      have h0 := hw.own
      cases ho : s.out with
      | nil => exact hs ho
      | cons q o =>
        rw [ho] at h0
        have h1 := h0.cells (g := k) (by rw [own_any]; exact hk) 0 (bv q) (by simp)
        rw [Addr.add_lit, Nat.zero_add, hc] at h1
        cases h1

set_option maxRecDepth 100000 in
set_option maxHeartbeats 2000000 in
theorem swrite_any (v : Value) (l : List DD) (w : World) (hs : Sn w v l) (hl : l.length ≤ 600) :
    Calls Tryz.prog 29 #[v] w fun e w' => ∃ ao cap, e = .returned (.slice ao (octS l).length cap) ∧ w'.ownsRow w.heap.size 5 1 (.slice ao (octS l).length cap) (octS l).length ((octS l).map bv) ∧ Kept (fun _ => False) w w' := by
  obtain ⟨p, m, hp, ht, rfl⟩ := hs
  change Calls _ _ _ _ (fun e w' => ∃ ao cap, e = .returned (.slice ao (octS (dds m)).length cap) ∧ w'.ownsRow w.heap.size 5 1 (.slice ao (octS (dds m)).length cap) (octS (dds m)).length ((octS (dds m)).map bv) ∧ Kept (fun _ => False) w w')
  have HP := Lib.hid hp; have HT := Lib.hid ht
  have HML := Lib.hid (show m.length ≤ 600 by simpa using hl)
  have KA := Lib.hid ((Kept.refl (fun _ => False) w).alloc (.cells #[.slice none 0 0, .int .i64 0] 52))
  have HLEN := Lib.hid (slen_any (show Sn (w.alloc (.cells #[.slice none 0 0, .int .i64 0] 52)) v (dds m) from ⟨p, m, hp.keep KA.out, ht.keep KA.out, rfl⟩))
  have WN := Lib.hid (WrF.new w (fun k => w.heap.size ≤ k) (fun k hk => hk) 52)
  rw [dds_len] at HLEN
  clear hp ht hl
  refine (callsIn_wide (n := 5)).1 ?_
  refine callsIn_of_wp_marks Tryz.func29 rfl trivial ?_ rfl
  refine wpIn_wide.2 ?_
  simp only [Tryz.ntmps29, List.size_toArray, List.length_cons, List.length_nil, Nat.reduceAdd, Nat.reduceSub, Array.replicate_succ, Array.replicate_zero, List.push_toArray, List.append_toArray, List.nil_append, List.cons_append]
  go_wp2_with fail
  refine HLEN.out.mono ?_
  rintro e w1 ⟨rfl, hw1⟩
  rw [hw1] at WN KA
  clear hw1 HLEN
  have hz1 := KA.out.size
  go_wp2_with fail
  refine (WN.out.num (fun k hk => by omega) _ (by simp)).mono ?_
  rintro e w2 ⟨rfl, h2, k2⟩
  rw [WS.num_ok _ m.length rfl (by have := HML.out; omega), List.nil_append] at h2
  have W2 := Lib.hid h2
  have K2 := Lib.hid (KA.out.trans k2 (fun i hi h => by omega))
  have hz2 := k2.size
  clear h2 k2 WN
  go_wp2_with fail
  refine (all_any v p m w2 (HP.out.keep K2.out) (HT.out.keep K2.out) (by have := HML.out; omega)).mono ?_
  rintro e w3 ⟨Bk, Bm, rfl, hal⟩
  have hz3 := hal.k.size
  obtain ⟨ko, kc, hap, hown⟩ := hal.ap
  have AL := Lib.hid hal; have AP := Lib.hid hap; have KO := Lib.hid hown
  have W3 := Lib.hid (W2.out.kept (keeps_below7 hal.k))
  clear hal hap hown
  go_wp2_with fail
  obtain ⟨Sb, hSb⟩ : ∃ Sb : Nat → Prop, Sb = fun k => (w.heap.size ≤ k ∧ k < w2.heap.size) ∨ w3.heap.size + 1 < k := ⟨_, rfl⟩
  have s1 : ¬ Sb w3.heap.size := by rw [hSb]; simp; omega
  have s2 : ¬ Sb (w3.heap.size + 1) := by rw [hSb]; simp; omega
  have s3 : ∀ k, w3.heap.size + 1 < k → Sb k := fun k hk => by rw [hSb]; exact .inr hk
  have s4 : ∀ k, Sb k → w.heap.size ≤ k := fun k hk => by rw [hSb] at hk; rcases hk with hk | hk <;> omega
  have W4 : WrF w3 Sb w.heap.size ⟨bigB 4 m.length, 0⟩ := (W2.out.in (F' := Sb) (fun k hk hf => by rw [hSb]; exact .inl ⟨hf, hk⟩)).kept (keeps_below7 AL.out.k)
  have hkeys : m ≠ [] → ∀ a, ko = some a → w2.heap.size ≤ a.block ∧ a.block < w3.heap.size := fun hne a ha => by
    obtain ⟨g, hg⟩ := owns_off KO.out (by simpa using hne)
    rw [hg] at ha
    cases ha
    exact owns_lt KO.out g (by rw [hg]; rfl)
  have hrows : ∀ e ∈ m, e.1.vs ≠ [] → ∀ a, e.2.1 = some a → a.block < w.heap.size := fun e he hv a ha => by
    obtain ⟨g, off, e1, hb, _⟩ := (HT.out.lies e he).1 (by unfold strs; simpa using hv)
    rw [e1] at ha
    cases ha
    exact hb
  have htab : ∀ b, p = some b → b < w.heap.size := fun b hb => by
    rcases HT.out with ⟨h, _⟩ | ⟨b', h, hb'⟩
    · rw [h] at hb; cases hb
    · rw [h] at hb; cases hb; exact hb'.lt
  have hbk := World.block_lt_of_cell? _ _ AP.out.cell
  have hbm := World.block_lt_of_cell? _ _ AP.out.tab
  have hbk2 := AL.out.bk
  have hbm2 := AL.out.bm
  simp only at hbk hbm
  have hno : ∀ k, k < w.heap.size ∨ (w2.heap.size ≤ k ∧ k < w3.heap.size) → ¬ (Sb k ∨ k = w3.heap.size ∨ k = w3.heap.size + 1) := fun k hk h => by
    rw [hSb] at h
    rcases h with (h | h) | h | h <;> omega
  have KP : ∀ A B, Ap p m Bk Bm ko kc A → Kept (fun k => Sb k ∨ k = w3.heap.size ∨ k = w3.heap.size + 1) A B → Ap p m Bk Bm ko kc B := fun A B hA hk =>
    hA.kept hk (hno _ (.inr ⟨hbk2, hbk⟩)) (hno _ (.inr ⟨hbm2, hbm⟩)) (fun hne a ha => hno _ (.inr (hkeys hne a ha))) (fun b hb => hno _ (.inl (htab b hb))) (fun e he hv a ha => hno _ (.inl (hrows e he hv a ha)))
  have L8 : ∀ e ∈ m, Len8 e.1 := fun e he => by
    have h := right_small (HT.out.right e he)
    exact ⟨Nat.le_trans h.c (by omega), Nat.le_trans h.p (by omega), Nat.le_trans h.s (by omega), Nat.le_trans h.t (by omega), Nat.le_trans h.n (by omega), fun x hx => Nat.le_trans (h.v x hx) (by omega)⟩
  have HS1 := Lib.hid s1; have HS2 := Lib.hid s2; have HS3 := Lib.hid s3; have HS4 := Lib.hid s4; have HW4 := Lib.hid W4; have HKPP := Lib.hid KP; have HL8 := Lib.hid L8
  have K3 := Lib.hid (K2.out.trans AL.out.k (fun _ _ h => h))
  clear hkeys hrows htab hno KP L8 W4 s1 s2 s3 s4 hbk hbm hbk2 hbm2 hSb
  refine (wpIn_wide (n := 4)).1 ?_
  refine wpIn_rangeG (P := Tryz.prog) (n := 4) (by omega) (gf := 85) (lb := #[.pointer (some ⟨Bk, 0, none⟩), .pointer (some ⟨Bm, 0, none⟩)]) rfl (enters_of Tryz.func85 (by kernel_rfl) rfl)
    Sb HS1.out HS2.out (all1_seq 3 (by omega) p m Bk Bm ko kc _ HKPP.out w3 AP.out HL8.out (by have := HML.out; omega)) (Below.refl _ _) (fun _ => rfl)
    (fun pre W => WrF W Sb w.heap.size ⟨bigB 4 m.length ++ octsL (dds pre), 0⟩ ∧ (∀ e ∈ pre, rightD e.1 = true) ∧ Kept (fun k => w.heap.size ≤ k) w W) (fun _ _ => False) ?hI (fun _ _ _ h _ => h) ?hG ?h0
    (fun x a' W => ∃ bx, w3.heap.size + 1 < bx ∧ Bx W bx x.2.1 x.2.2 x.1 ∧ a' = { tmps := #[v, undef, .slice none 0 0, .pointer (some ⟨w.heap.size, 0, none⟩), .pointer (some ⟨bx, 0, none⟩), v, .int .i64 (m.length : Int), .tuple #[], v, .func (.func 85) #[] #[.pointer (some ⟨Bk, 0, none⟩), .pointer (some ⟨Bm, 0, none⟩)], .agg #[.int .i64 x.1.k, .string (bs x.1.c), .string (bs x.1.p), .slice x.2.1 x.1.vs.length x.2.2, .string (bs x.1.s), .string (bs x.1.t)], undef, undef, undef], defers := [] })
    ?hAx ?assign ?body ?done (fun _ _ _ h => h.elim)
  case hI =>
    rintro pre A B ⟨h1, h2, h3⟩ hk
    exact ⟨h1.keptF hk (fun k hf h => by rcases h with rfl | rfl; exact HS1.out hf; exact HS2.out hf), h2, h3.trans hk (fun i hi h => by have := K3.out.size; omega)⟩
  case hG =>
    rintro x A B hx h1 h2 hk
    exact hx.over h1 h2 hk
  case h0 => exact ⟨by simpa [octsL, dds] using HW4.out, by simp, K3.out.mono (fun _ _ h => h.elim)⟩
  case hAx =>
    rintro x a' A B ⟨bx, h1, h2, h3⟩ hk
    exact ⟨bx, h1, h2.kept hk (by omega), h3⟩
  case assign =>
    rintro l pre x W K hi hg hlt hK
    unfold encE
    go_simp
    have HKK := Lib.hid hK; have HB := Lib.hid (bx_new W x.2.1 x.2.2 x.1 46)
    clear hK hi hg
    refine wpIn_region_plain l _ (by rintro ⟨a, w, h⟩; exact h) (by kernel_rfl) ?_
    go_wp2
    exact HKK.out _ _ ((Kept.refl _ W).alloc _) ⟨W.heap.size, hlt, HB.out, rfl⟩
  case body =>
    rintro l pre x a' W ⟨h1, h2, h3⟩ hg ⟨bx, hb1, hb2, rfl⟩ hlt hN
    have HG := Lib.hid hg; have H1 := Lib.hid h1; have H2 := Lib.hid h2; have H3 := Lib.hid h3
    have hsm := right_small hg.right
    have hlen : (bigB 4 m.length ++ octsL (dds pre)).length ≤ 10000000 := by
      have := octsL_len (dds pre) (fun d hd => by obtain ⟨e, he, rfl⟩ := List.mem_map.1 hd; exact right_small (h2 e he))
      rw [dds_len] at this
      rw [List.length_append, bigB_length]
      have := HML.out
      omega
    have hne : (bigB 4 m.length ++ octsL (dds pre)) ≠ [] := fun e => by have := congrArg List.length e; rw [List.length_append, bigB_length] at this; simp at this
    have HDW := Lib.hid (show Calls Tryz.prog 70 #[.pointer (some ⟨w.heap.size, 0, none⟩), .agg #[.int .i64 x.1.k, .string (bs x.1.c), .string (bs x.1.p), .slice x.2.1 x.1.vs.length x.2.2, .string (bs x.1.s), .string (bs x.1.t)]] W (WrFPost W Sb w.heap.size ⟨bigB 4 m.length ++ octsL (dds (pre ++ [x])), 0⟩) by
      have e1 : writeD ⟨bigB 4 m.length ++ octsL (dds pre), 0⟩ x.1 = ⟨bigB 4 m.length ++ octsL (dds (pre ++ [x])), 0⟩ := by
        rw [writeD_right _ _ hg.right hsm, List.append_assoc, ← octsL_snoc]
        simp [dds]
      rw [← e1]
      by_cases hv : x.1.vs = []
      · exact dwrite7_any h1 (fun k hk => HS3.out k (by omega)) x.1 x.2.1 x.2.2 hg.lies (fun h => (h hv).elim) hg.cap hsm hlen
      · obtain ⟨g, hgo⟩ := hg.off hv
        have hL := hg.lies
        rw [hgo] at hL
        have hw' := h1.apart hne hL hv
        have hlg : g < W.heap.size := by
          obtain ⟨b', off', e', hb', _⟩ := hL (by unfold strs; simpa using hv)
          cases e'
          exact hb'
        refine (dwrite7_any hw' (fun k hk => ⟨HS3.out k (by omega), by omega⟩) x.1 x.2.1 x.2.2 hg.lies (fun _ a ha h => by rw [hgo] at ha; cases ha; exact h.2 rfl) hg.cap hsm hlen).mono ?_
        rintro e W' ⟨he, hw2, hk2⟩
        exact ⟨he, hw2.in (fun _ _ h => h.1), hk2.mono (fun _ _ h => h.1)⟩)
    obtain ⟨c0, c1, c2, c3, c4, c5⟩ := hb2
    clear h1 h2 h3 hg hsm hlen hne
    refine wpIn_block ?_
    refine wpIn_region_plain l _ (by rintro ⟨a, w, h⟩; exact h) (by kernel_rfl) ?_
    go_wp2_with fail
    refine HDW.out.mono ?_
    rintro e W' ⟨rfl, hw5, hk5⟩
    have W5 := Lib.hid hw5; have K5 := Lib.hid hk5; clear hw5 hk5
    go_wp2
    refine ⟨K5.out, W5.out, fun e he => ?_, H3.out.trans K5.out (fun i hi h => HS4.out i h)⟩
    rcases List.mem_append.1 he with he | he
    · exact H2.out e he
    · rw [List.mem_singleton] at he
      subst he
      exact HG.out.right
  case done =>
    rintro xs W hS ⟨h1, h2, h3⟩ hd
    rw [hS] at h1
    have hlen : (octS (dds m)).length ≤ 10000000 := by
      have := octsL_len (dds m) (fun d hd => by obtain ⟨e, he, rfl⟩ := List.mem_map.1 hd; exact right_small (HT.out.right e he))
      unfold octS
      rw [List.length_append, bigB_length]
      rw [dds_len] at this
      have := HML.out
      omega
    have H1 := Lib.hid (show WrF W Sb w.heap.size ⟨octS (dds m), 0⟩ by unfold octS; rw [dds_len]; exact h1)
    have H3 := Lib.hid h3; have HD := Lib.hid hd; have HLN := Lib.hid hlen
    clear h1 h2 h3 hd hlen hS
    obtain ⟨o, ho⟩ : ∃ o, octS (dds m) = o := ⟨_, rfl⟩
    rw [ho] at H1 HLN
    have HOE := Lib.hid ho; clear ho
    go_wp2_with fail
    refine (H1.out.bytes (by have := HLN.out; dsimp only; omega)).mono ?_
    rintro e w5 ⟨ao5, cap5, rfl, ho5, b5⟩
    have hD5 : w5.heap[w3.heap.size]? = some (.deferred (some [])) := (b5.block _ (Array.getElem?_eq_some_iff.1 HD.out).1).trans HD.out
    have hgo : ∀ k, (Value.slice ao5 o.length cap5).ownBlock = some k → k ≠ w3.heap.size := fun k hk => by
      have := (owns_lt ho5 k hk).1
      have := (Array.getElem?_eq_some_iff.1 HD.out).1
      omega
    have HD5 := Lib.hid hD5; have HO5 := Lib.hid ho5; have B5 := Lib.hid b5; have HGO := Lib.hid hgo
    clear hD5 ho5 b5 hgo
    go_wp2
    refine ⟨by simp, .inl ⟨_, _, rfl, run_takeDeferred HD5.out, ?_⟩⟩
    have kd := kept_putObj w5 w3.heap.size (.deferred none)
    have e := HOE.out
    subst e
    refine ⟨_, results_tmp rfl _ _ _, ao5, cap5, rfl, owns_base (owns_kept HO5.out kd (fun k hk => HGO.out k hk)) (fun k hk => Nat.le_trans H3.out.size (owns_lt HO5.out k hk).1), ?_⟩
    have k5 : Kept (fun _ => False) w w5 := (H3.out.trans (kept_of_belowsize B5.out) (fun _ _ h => h.elim)).mono (fun k hk h => by omega)
    exact k5.trans kd (fun i hi h => by have := K3.out.size; omega)

end Go.Proofs.YtjnpmbdehalmpaaGreat
