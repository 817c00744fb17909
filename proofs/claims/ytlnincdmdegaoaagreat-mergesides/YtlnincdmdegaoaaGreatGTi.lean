/-
  Lemmas towards the claim of this folder: contracts of the functions that the law reaches; joined texts.
-/
import Derived.Test.YtlnincdmdegaoaaGreatGTg
import Derived.Test.YtlnincdmdegaoaaGreatGFp
import Derived.Test.YtlnincdmdegaoaaGreatGOd
import Derived.Test.YtlnincdmdegaoaaGreatGOs
import Derived.Test.YtlnincdmdegaoaaGreatGSy
/-
  CONTRACTS of package snap: Write.
-/
namespace Go.Proofs.YtlnincdmdegaoaaGreat
open Go.RowKit Go.Mk Go.Maps Go.Shelf

theorem nm_len {l : List UInt8} (h : isNm l = true) : l.length ≤ 40 := by
  simp [isNm, lenIn] at h
  exact h.1.1.2

theorem flat_le (ps : List (List UInt8)) (k : Nat) (h : ∀ x ∈ ps, x.length ≤ k) : ps.flatten.length ≤ k * ps.length := by
  induction ps with
  | nil => simp
  | cons x ps ih =>
    have h1 := h x (by simp)
    have h2 := ih (fun y hy => h y (by simp [hy]))
    simp only [List.flatten_cons, List.length_append, List.length_cons, Nat.mul_add]
    omega

theorem sel_len {l : List UInt8} (h : isSel l = true) : l.length ≤ 410 := by
  unfold isSel at h
  have h := of_decide_eq_true h
  unfold kindL at h
  split at h
  · rename_i h1
    simp [isUn] at h1
    have := nm_len h1.1
    omega
  · split at h
    · rename_i h1
      simp [isBi, lenIn] at h1
      omega
    · split at h
      · simp at h
      · rename_i h1
        unfold kwL at h1
        split at h1
        · rename_i h2
          obtain ⟨a1, a2, a3⟩ := h2
          have hf := cutL_flat l
          rw [a1, List.append_nil] at hf
          have := flat_le (cutL l).1 41 (fun x hx => by
            have := List.all_eq_true.1 a3 x hx
            simp only [goodP, isUn, Bool.and_eq_true] at this
            have := nm_len this.1
            rw [List.length_dropLast] at this
            omega)
          rw [hf] at this
          omega
        · simp at h1

/-- A valid definition is small. -/
theorem right_small {d : DD} (h : rightD d = true) : SmallD d := by
  rcases right_kind h with hk | hk
  · rw [rightD_one hk] at h
    simp only [rightC, ownCl, Bool.and_eq_true] at h
    obtain ⟨⟨⟨⟨⟨h1, _⟩, h2⟩, h3⟩, h4⟩, h5⟩ := h
    simp only [isCl, Bool.and_eq_true] at h1 h2
    have e4 : d.s = [] := by simpa using h4
    have e5 : d.t = [] := by simpa using h5
    simp only [areVars, Bool.and_eq_true, decide_eq_true_eq] at h3
    refine ⟨by have := nm_len h1.1; omega, by have := nm_len h2.1; omega, by omega, by rw [e4]; simp, by rw [e5]; simp, fun x hx => ?_⟩
    obtain ⟨i, hi, rfl⟩ := List.mem_iff_getElem.1 hx
    have hv := List.all_eq_true.1 (show varsTo d.vs d.vs.length = true from h3.2) i (List.mem_range.2 hi)
    rw [varAt_lt hi] at hv
    simp only [isVa, isUn, Bool.and_eq_true] at hv
    have := nm_len hv.1.1.1
    omega
  · rw [rightD_two hk] at h
    simp only [rightM, isCl, Bool.and_eq_true, decide_eq_true_eq] at h
    obtain ⟨⟨⟨⟨h1, h2⟩, h3⟩, h4⟩, h5⟩ := h
    have e4 : d.p = [] := by simpa using h4
    have e5 : d.vs = [] := by simpa using h5
    exact ⟨by have := nm_len h1.1; omega, by rw [e4]; simp, by rw [e5]; simp, by have := sel_len h2; omega, by omega, by rw [e5]; simp⟩

/-- The octets of definitions, one behind the other. -/
def octsL (l : List DD) : List UInt8 := (l.map octD).flatten
def octS (l : List DD) : List UInt8 := bigB 4 l.length ++ octsL l

theorem octsL_len (l : List DD) (h : ∀ d ∈ l, SmallD d) : (octsL l).length ≤ 10000 * l.length := by
  unfold octsL
  have := flat_le (l.map octD) 10000 (fun x hx => by
    obtain ⟨d, hd, rfl⟩ := List.mem_map.1 hx
    exact octD_len d (h d hd))
  rwa [List.length_map] at this

theorem octsL_snoc (l : List DD) (d : DD) : octsL (l ++ [d]) = octsL l ++ octD d := by simp [octsL]

theorem lies_val {w : World} {B : Nat} {ao : Option Addr} {v : Value} {vs : List Value} (h : Lies w B ao (v :: vs)) : ∃ b off, ao = some ⟨b, off, none⟩ ∧ b < B ∧ w.cell? ⟨b, off, none⟩ = some v := by
  obtain ⟨b, off, e, hb, hc⟩ := h (by simp)
  exact ⟨b, off, e, hb, hc 0 v rfl⟩

theorem WrF.keptF {w w' : World} {F S : Nat → Prop} {b : Nat} {s : WS} (h : WrF w F b s) (hk : Kept S w w') (hd : ∀ k, F k → ¬ S k) : WrF w' F b s := by
  obtain ⟨hlo, ao, cap, hw, hr⟩ := h
  have hlt := hw.lt
  exact ⟨hlo, ao, cap, ⟨(hk.cell (p := ⟨b, 0, none⟩) hlt (hd b hlo)).trans hw.c0, (hk.cell (p := ⟨b, 1, none⟩) hlt (hd b hlo)).trans hw.c1, (hk.frozen (p := ⟨b, 0, none⟩) hlt (hd b hlo)).trans hw.f0, (hk.frozen (p := ⟨b, 1, none⟩) hlt (hd b hlo)).trans hw.f1, owns_kept hw.own hk (fun k hk' => hd k (hr k (by rw [← own_any]; exact hk'))), hw.ne⟩, hr⟩

/-- A writer that has written something: its blocks hold no row of texts. -/
theorem WrF.apart {w : World} {F : Nat → Prop} {b : Nat} {s : WS} (h : WrF w F b s) (hs : s.out ≠ []) {B g : Nat} {vs : List (List UInt8)} (hL : Lies w B (some ⟨g, 0, none⟩) (strs vs)) (hv : vs ≠ []) : WrF w (fun k => F k ∧ k ≠ g) b s := by
  obtain ⟨hlo, wo, wc, hw, hr⟩ := h
  cases vs with
  | nil => exact (hv rfl).elim
  | cons t vs =>
    obtain ⟨g', off, e, _, hc⟩ := lies_val (show Lies w B (some ⟨g, 0, none⟩) (.string (bs t) :: strs vs) from hL)
    cases e
    refine ⟨⟨hlo, fun e => ?_⟩, wo, wc, hw, fun k hk => ⟨hr k hk, fun e => ?_⟩⟩
    · have h0 := hw.c0
      rw [e, hc] at h0
      cases h0
    · subst e
      have h0 := hw.own
      cases ho : s.out with
      | nil => exact hs ho
      | cons q o =>
        rw [ho] at h0
        have h1 := h0.cells (g := k) (by rw [own_any]; exact hk) 0 (bv q) (by simp)
        rw [Addr.add_lit, Nat.zero_add, hc] at h1
        cases h1

end Go.Proofs.YtlnincdmdegaoaaGreat

/-
  snap.Get: the definition in new memory; diff.under.
-/
namespace Go.Proofs.YtlnincdmdegaoaaGreat
open Go.RowKit Go.Mk Go.Maps

/-- What Get answers: in new memory. -/
def GtN (w : World) (d : DD) (b : Bool) (e : Ending) (w' : World) : Prop :=
  ∃ ao cap, e = .returned (.tuple #[valE (d, ao, cap), .bool b]) ∧ w'.ownsRow w.heap.size 9 1 (.slice ao d.vs.length cap) d.vs.length (strs d.vs) ∧ Kept (fun _ => False) w w'

set_option maxHeartbeats 1000000 in
set_option maxRecDepth 100000 in
theorem sgetN_at {w : World} {v : Value} {p : Option Nat} (hp : SnP w v p) (key : List UInt8) (d : DD) (ao : Option Addr) (cap : Nat) (b : Bool) (B : Nat) (hA : Lies w B ao (strs d.vs)) (hl : Len8 d)
    (hlook : ∀ wx, Kept (fun _ => False) w wx → (Instr.lookup 57 (.map p) (.string (bs key)) true).run Tryz.prog wx = .ok (.tuple #[valE (d, ao, cap), .bool b]) wx) :
    Calls Tryz.prog 17 #[v, .string (bs key)] w (GtN w d b) := by
  have ka : Kept (fun _ => False) w (w.alloc (.cells #[.int .i64 0, .string ⟨#[]⟩, .string ⟨#[]⟩, .slice none 0 0, .string ⟨#[]⟩, .string ⟨#[]⟩] 43)) := (Kept.refl _ w).alloc _
  have HT := Lib.hid (table_any (hp.keep ka))
  have hlk := hlook _ ka
  have hB1 : Bz (w.alloc (.cells #[.int .i64 0, .string ⟨#[]⟩, .string ⟨#[]⟩, .slice none 0 0, .string ⟨#[]⟩, .string ⟨#[]⟩] 43)) w.heap.size none 0 zeroD := bz_new w none 0 zeroD 43
  have HB := Lib.hid hB1
  have KA := Lib.hid ka
  have HC := Lib.hid (fun (wx : World) (h : Kept (fun _ => False) w wx) => copy_any d ao cap B wx (hA.kept h (fun _ _ _ h => h)) hl)
  clear hp hA hl hlook ka hB1
  unfold valE at hlk
  dsimp only at hlk
  go_enter Tryz.func17, Tryz.ntmps17
  go_wp2_with fail
  refine HT.out.mono ?_
  rintro e w1 ⟨rfl, rfl⟩
  go_wp2_with fail
  refine (HC.out _ (KA.out.alloc _)).mono ?_
  rintro e w2 ⟨ao2, cap2, rfl, ho2, k2⟩
  have B2 := Lib.hid ((HB.out.kept (S := fun _ => False) ((Kept.refl _ _).alloc _) (fun h => h)).kept k2 (fun h => h))
  have K2 := Lib.hid ((KA.out.alloc _).trans k2 (fun _ _ h => h))
  have HO := Lib.hid ho2
  clear ho2 k2 hlk
  obtain ⟨⟨x0, x1, x2, x3, x4, x5⟩, f0, f1, f2, f3, f4, f5⟩ := B2.out
  unfold valE
  go_wp2
  have hb := B2.out.set ao2 cap2 d
  refine bodyPost_ret (results_box2 rfl rfl (load_def hb.bx)) rfl ?_
  have hk := kept_setD w2 w.heap.size ao2 cap2 d
  exact ⟨ao2, cap2, rfl, owns_base (owns_kept HO.out hk (fun k hk e => by have := (owns_lt HO.out k hk).1; simp at this; omega)) (fun k hk => by have := (owns_lt HO.out k hk).1; simp at this; omega), kept_setD' K2.out (Nat.le_refl _)⟩

theorem sgetN_has {w : World} {v : Value} {l : List DD} (h : Sn w v l) {d : DD} (hd : d ∈ l) (hk : (keyD d).length ≤ maxLen) :
    Calls Tryz.prog 17 #[v, .string (bs (keyD d))] w (GtN w d true) := by
  obtain ⟨p, m, hp, ht, rfl⟩ := h
  obtain ⟨⟨d', ao, cap⟩, hm, rfl⟩ := List.mem_map.1 hd
  have hs := right_small (ht.right _ hm)
  exact sgetN_at hp _ _ ao cap true _ (ht.lies _ hm).1 ⟨Nat.le_trans hs.c (by omega), Nat.le_trans hs.p (by omega), Nat.le_trans hs.s (by omega), Nat.le_trans hs.t (by omega), Nat.le_trans hs.n (by omega), fun x hx => Nat.le_trans (hs.v x hx) (by omega)⟩ (fun wx hkx => ((ht.keep hkx).look hm hk).1)

theorem sgetN_no {w : World} {v : Value} {l : List DD} (h : Sn w v l) {key : List UInt8} (hn : ∀ d ∈ l, keyD d ≠ key) (hk : key.length ≤ maxLen) :
    Calls Tryz.prog 17 #[v, .string (bs key)] w (GtN w zeroD false) := by
  obtain ⟨p, m, hp, ht, rfl⟩ := h
  exact sgetN_at hp key zeroD none 0 false 0 (fun h => (h rfl).elim) ⟨Nat.zero_le _, Nat.zero_le _, Nat.zero_le _, Nat.zero_le _, Nat.zero_le _, fun x hx => absurd hx List.not_mem_nil⟩ (fun wx hkx => (ht.keep hkx).look_no (hasK_no.2 fun x hx e => hn x.1 (List.mem_map_of_mem hx) e) hk)

set_option maxHeartbeats 1000000 in
set_option maxRecDepth 100000 in
theorem dunder_any {w : World} {v : Value} {l : List DD} (h : Sn w v l) (key : List UInt8) (hk : key.length ≤ maxLen) :
    Calls Tryz.prog 61 #[v, .string (bs key)] w (DfPost w (getK keyD key l)) := by
  rcases getK_cases h.rise key with ⟨e0, hn⟩ | ⟨d, hd, rfl, e0⟩
  · rw [e0]
    have HG := Lib.hid (sgetN_no h hn hk)
    clear h hn e0
    go_enter Tryz.func61, Tryz.ntmps61
    go_wp2_with fail
    refine HG.out.mono ?_
    rintro e w1 ⟨ao, cap, rfl, ho, k1⟩
    have K1 := Lib.hid k1
    clear ho k1
    unfold valE
    go_wp2
    go_ret
    exact ⟨⟨none, 0, []⟩, rfl, rfl, SDf.nil _ _, K1.out.alloc _⟩
  · rw [e0]
    have HG := Lib.hid (sgetN_has h hd hk)
    clear h hd e0
    generalize keyD d = key at *
    go_enter Tryz.func61, Tryz.ntmps61
    go_wp2_with fail
    refine HG.out.mono ?_
    rintro e w1 ⟨ao, cap, rfl, ho, k1⟩
    have K1 := Lib.hid k1
    have HO := Lib.hid ho
    clear ho k1
    unfold valE
    go_wp2
    go_ret
    have kA := (Kept.refl (fun _ => False) w1).alloc (.cells #[.int .i64 d.k, .string (bs d.c), .string (bs d.p), .slice ao d.vs.length cap, .string (bs d.s), .string (bs d.t)] 43)
    have hs := sd_one (w1.alloc (.cells #[.int .i64 d.k, .string (bs d.c), .string (bs d.p), .slice ao d.vs.length cap, .string (bs d.s), .string (bs d.t)] 43)) (d, ao, cap) 43 ⟨((owns_lies HO.out).kept kA (fun _ _ _ h => h)).mono kA.size, owns_cap HO.out⟩
    refine ⟨⟨some ⟨w1.heap.size + 1, 0, none⟩, 1, [(d, ao, cap)]⟩, rfl, rfl, ⟨?_, fun _ a ha => ?_, fun e he hne a ha => ?_⟩, (K1.out.alloc _).alloc _⟩
    · have hs2 := hs
      simp only [World.size_alloc] at hs2 ⊢
      exact hs2
    · cases ha
      have := K1.out.size
      dsimp only
      omega
    · rw [List.mem_singleton] at he
      subst he
      obtain ⟨g, e1, hg⟩ := owns_lies_block HO.out hne
      dsimp only at ha
      rw [e1] at ha
      cases ha
      exact hg

end Go.Proofs.YtlnincdmdegaoaaGreat

/-
  CONTRACTS of package diff: applies, Fits.
-/
namespace Go.Proofs.YtlnincdmdegaoaaGreat
open Go.RowKit Go.Mk Go.Maps

/-- Does an edit fit? -/
def fitD (l : List DD) (e : EE) : Bool := decide (getK keyD e.key l = dds e.old.es)

theorem fits_all (l : List DD) (p : List EE) : fitsP l (eds p) = (p.all (fitD l) && rightP (eds p)) := by
  unfold fitsP eds
  rw [List.all_map]
  rfl

/-- What the closure reads. -/
abbrev ceC (b : Nat) (k : List UInt8) (u v : Value) (c : Nat) (s : Value) (w : World) : Prop := ceB b k u v w ∧ w.cell? ⟨c, 0, none⟩ = some s

theorem ceC_kept {b : Nat} {k : List UInt8} {u v : Value} {c : Nat} {s : Value} {w w' : World} (h : ceC b k u v c s w) (hk : Kept (fun _ => False) w w') : ceC b k u v c s w' :=
  ⟨ceB_kept h.1 hk (fun h => h), (hk.cell (p := ⟨c, 0, none⟩) (World.block_lt_of_cell? _ _ h.2) (fun h => h)).trans h.2⟩

end Go.Proofs.YtlnincdmdegaoaaGreat
