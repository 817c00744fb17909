/-
  Lemmas towards the claim of this folder: contracts of the functions that the law reaches; joined texts.
-/
import Derived.Test.YtlnincdmdegaoaaGreatGPg
import Derived.Test.YtlnincdmdegaoaaGreatRows
import Derived.Test.YtlnincdmdegaoaaGreatGNm
import Derived.Lib.OthersKept
/-
  MERGES as the program makes them (plain): sets of keys, a patch put onto the other side, the conflicts dropped, New of the values in whatever order.
-/
namespace Go.Mk

/-- A set of keys, key by key. -/
def setK (ks : List (List UInt8)) : List (List UInt8) := ks.foldl (fun s k => putK id k s) []

theorem setK_snoc (ks : List (List UInt8)) (k : List UInt8) : setK (ks ++ [k]) = putK id k (setK ks) := by simp [setK, List.foldl_append]

theorem setK_fold : ∀ (ks s : List (List UInt8)), Rise id s → Rise id (ks.foldl (fun s k => putK id k s) s) ∧ (∀ k, k ∈ ks.foldl (fun s k => putK id k s) s ↔ k ∈ s ∨ k ∈ ks) ∧ (ks.foldl (fun s k => putK id k s) s).length ≤ s.length + ks.length
  | [], s, h => ⟨h, by simp, by simp⟩
  | j :: r, s, h => by
    rw [List.foldl_cons]
    obtain ⟨h1, h2, h3⟩ := setK_fold r (putK id j s) (rise_putK h)
    have h4 := putK_le (a := j) h
    refine ⟨h1, fun k => ?_, by simp only [List.length_cons]; omega⟩
    rw [h2, mem_putK h]
    simp only [id, List.mem_cons]
    constructor
    · rintro ((rfl | ⟨hk, _⟩) | hx)
      · exact .inr (.inl rfl)
      · exact .inl hk
      · exact .inr (.inr hx)
    · rintro (hk | rfl | hx)
      · by_cases e : k = j
        · exact .inl (.inl e)
        · exact .inl (.inr ⟨hk, e⟩)
      · exact .inl (.inl rfl)
      · exact .inr hx

theorem setK_rise (ks : List (List UInt8)) : Rise id (setK ks) := (setK_fold ks [] List.Pairwise.nil).1
theorem mem_setK {ks : List (List UInt8)} {k : List UInt8} : k ∈ setK ks ↔ k ∈ ks := by
  rw [setK, (setK_fold ks [] List.Pairwise.nil).2.1]
  simp
theorem setK_len (ks : List (List UInt8)) : (setK ks).length ≤ ks.length := by
  have := (setK_fold ks [] List.Pairwise.nil).2.2
  simpa [setK] using this

/-- The keys for which two lists differ. -/
def diffK (a b : List DD) : List (List UInt8) := setK ((ofL a b).map ED.key)

theorem mem_diffK {a b : List DD} {k : List UInt8} : k ∈ diffK a b ↔ getK keyD k a ≠ getK keyD k b := by
  unfold diffK
  rw [mem_setK, List.mem_map]
  constructor
  · rintro ⟨e, he, rfl⟩
    obtain ⟨h1, h2, h3⟩ := mem_ofL.1 he
    rw [← h1, ← h2]
    exact h3
  · intro h
    exact ⟨⟨k, getK keyD k a, getK keyD k b⟩, mem_ofL.2 ⟨rfl, rfl, h⟩, rfl⟩

/-- A key of the third set that is in both others. -/
def both3 (b x y : List DD) (k : List UInt8) : Bool := decide (k ∈ diffK b x) && decide (k ∈ diffK b y)

theorem confs_is (b x y : List DD) : (diffK x y).filter (both3 b x y) = mergeC b x y := by
  refine rise_ext ((setK_rise _).filter _) conf_rise (fun k => ?_)
  rw [List.mem_filter, mem_conf, mem_diffK]
  unfold both3
  simp only [Bool.and_eq_true, decide_eq_true_eq, mem_diffK]
  constructor
  · rintro ⟨h1, h2, h3⟩; exact ⟨h2, h3, h1⟩
  · rintro ⟨h1, h2, h3⟩; exact ⟨h3, h1, h2⟩

theorem drops_get : ∀ (ks : List (List UInt8)) (l : List DD) (k : List UInt8), getK keyD k (ks.foldl (fun l k => dropK keyD k l) l) = if k ∈ ks then [] else getK keyD k l
  | [], l, k => by simp
  | j :: ks, l, k => by
    rw [List.foldl_cons, drops_get ks, getK_drop]
    by_cases h1 : k ∈ ks
    · simp [h1]
    · by_cases h2 : k = j
      · simp [h2]
      · simp [h1, h2]

/-- The merged definitions, as the program makes them. -/
def mergeM (b x y : List DD) : List DD := (mergeC b x y).foldl (fun l k => dropK keyD k l) (appP y (ofL b x))

theorem mergeM_is {b x y : List DD} (hb : Snp b) (hx : Snp x) (hy : Snp y) : mergeM b x y = mergeD b x y := by
  have hs : ∀ e ∈ ofL b x, sideB e.new e.key = true := fun e he => (rightE_iff.1 (ofL_rightE hb hx he)).2.2.1
  obtain ⟨h1, h2, h3⟩ := appP_spec (l := y) hy.rise hs (rise_ofL b x)
  refine getK_ext (drops_spec _ _ h1).1 (merge_snp hx hy).rise (fun k => ?_)
  unfold mergeM
  rw [drops_get, merge_get]
  by_cases hc : k ∈ mergeC b x y
  · rw [if_pos hc, mg_conf hc]; rfl
  · rw [if_neg hc, mg_is hc]
    show _ = if _ then _ else _
    by_cases hk : ∀ e ∈ ofL b x, e.key ≠ k
    · rw [h3 k hk, if_pos (ofL_no hk)]
    · obtain ⟨e, he, rfl⟩ : ∃ e ∈ ofL b x, e.key = k := by
        apply Classical.byContradiction
        intro hn
        exact hk (fun e he hek => hn ⟨e, he, hek⟩)
      obtain ⟨e1, e2, e3⟩ := mem_ofL.1 he
      rw [h2 e he, if_neg (by rw [← e1, ← e2]; exact e3), e2]

/-- What New makes of the definitions of a snapshot, in whatever order. -/
def fitL (l : List DD) : Int × List DD := if 500 < l.length then (21, []) else (0, l)

theorem newL_snp {l r : List DD} (h : Snp l) (hp : r.Perm l) : newL r = fitL l := by
  have hright : ∀ d ∈ r, rightD d = true := fun d hd => h.right d (hp.mem_iff.1 hd)
  have hpw : r.Pairwise (fun a b => keyD a ≠ keyD b) := (hp.pairwise_iff (fun {a b} (h : keyD a ≠ keyD b) => h.symm)).2 (h.rise.imp (fun h => lt_ne h))
  unfold fitL
  by_cases h5 : 500 < l.length
  · rw [if_pos h5]
    exact new_full _ [] [] ⟨List.Pairwise.nil, by simp, by simp, rfl⟩ hright hpw (by simp) (by simp) (by rw [hp.length_eq]; simpa using h5)
  · rw [if_neg h5]
    have h0 : (newL r).1 = 0 := new_ok _ [] [] ⟨List.Pairwise.nil, by simp, by simp, rfl⟩ hright hpw (by simp) (by rw [hp.length_eq]; simp; omega)
    have MM := newL_made h0
    have e2 : (newL r).2 = l := rise_ext MM.rise h.rise (fun x => by rw [MM.mem, hp.mem_iff])
    rw [← e2, ← h0]

theorem puts_rise (l : List DD) : ∀ (s : List DD), Rise keyD s → Rise keyD (l.foldl (fun o d => putK keyD d o) s) := by
  induction l with
  | nil => intro s h; exact h
  | cons d r ih => intro s h; exact ih _ (rise_putK h)

/-- What comes by rising keys stays so. -/
theorem puts_is : ∀ {l s : List DD}, Rise keyD (s ++ l) → l.foldl (fun o d => putK keyD d o) s = s ++ l
  | [], s, _ => by simp
  | d :: r, s, h => by
    have e : putK keyD d s = s ++ [d] := by
      have h1 : ∀ x ∈ s, keyD x < keyD d := fun x hx => (List.pairwise_append.1 h).2.2 x hx d (by simp)
      have h2 : Rise keyD s := (List.pairwise_append.1 h).1
      refine rise_ext (rise_putK h2) ?_ (fun x => ?_)
      · unfold Rise at h2 ⊢
        rw [List.pairwise_append]
        exact ⟨h2, by simp, fun a ha b hb => by rw [List.mem_singleton] at hb; subst hb; exact h1 a ha⟩
      · rw [mem_putK h2]
        simp only [List.mem_append, List.mem_singleton]
        constructor
        · rintro (rfl | ⟨hx, _⟩)
          · exact .inr rfl
          · exact .inl hx
        · rintro (hx | rfl)
          · exact .inr ⟨hx, lt_ne (h1 x hx)⟩
          · exact .inl rfl
    rw [List.foldl_cons, e, puts_is (by simpa using h)]
    simp

theorem fit_ok {l : List DD} (h : l.length ≤ 500) : fitL l = (0, l) := by unfold fitL; rw [if_neg (by omega)]
theorem fit_full {l : List DD} (h : 500 < l.length) : fitL l = (21, []) := by unfold fitL; rw [if_pos h]

theorem drops_len : ∀ (ks : List (List UInt8)) (l : List DD), (ks.foldl (fun l k => dropK keyD k l) l).length ≤ l.length
  | [], _ => Nat.le_refl _
  | _ :: ks, _ => Nat.le_trans (drops_len ks _) (List.length_filter_le _ _)

theorem puts_len : ∀ (s : List DD) (l : List DD), (s.foldl (fun o d => putK keyD d o) l).length ≤ l.length + s.length
  | [], l => by simp
  | d :: s, l => by
    have h := puts_len s (putK keyD d l)
    have h2 : (putK keyD d l).length ≤ l.length + 1 := by
      clear h
      induction l with
      | nil => simp [putK]
      | cons x r ih =>
        unfold putK
        split
        · simp
        · split
          · simp
          · simp only [List.length_cons]; omega
    rw [List.foldl_cons]
    simp only [List.length_cons]
    omega

theorem appP_len {A B : List DD} (hA : Snp A) (hB : Snp B) (C : List DD) : (appP C (ofL A B)).length ≤ C.length + (ofL A B).length := by
  have h : ∀ (p : List ED), (∀ e ∈ p, e.new.length ≤ 1) → ∀ (l : List DD), (appP l p).length ≤ l.length + p.length := by
    intro p
    induction p with
    | nil => intro _ l; simp [appP]
    | cons e r ih =>
      intro he l
      have h1 := ih (fun x hx => he x (List.mem_cons_of_mem _ hx)) (appS l e)
      have h2 := puts_len e.new (dropK keyD e.key l)
      have h3 : (dropK keyD e.key l).length ≤ l.length := List.length_filter_le _ _
      have h4 := he e List.mem_cons_self
      show (appP (appS l e) r).length ≤ _
      unfold appS at h1 ⊢
      simp only [List.length_cons]
      omega
  refine h _ (fun e he => ?_) C
  exact (sideB_iff.1 (rightE_iff.1 (ofL_rightE hA hB he)).2.2.1).1

end Go.Mk

/-
  CONTRACTS of package name: the characters, every, Is, isUnary, Class.
-/
namespace Go.Mk
open Go.RowKit

theorem kept_iterAt {S : Nat → Prop} {a w : World} (h : Kept S a w) {k : Nat} (hk : a.heap.size ≤ k) (s : ByteArray) (pos : Nat) : Kept S a (w.iterAt k s pos) :=
  h.trans (S' := fun i => i = k) ⟨rfl, rfl, rfl, by rw [Lib.iterAt_size]; exact Nat.le_refl _, fun i _ hn => Lib.iterAt_other w k i s pos hn⟩ (fun i hi e => by omega)

theorem iter_kept {S : Nat → Prop} {w w' : World} {k : Nat} {s : ByteArray} {pos : Nat} (hit : w.heap[k]? = some (.stringIter s pos)) (h : Kept S w w') (hn : ¬ S k) : w'.heap[k]? = some (.stringIter s pos) :=
  (h.block k (Array.getElem?_eq_some_iff.1 hit).1 hn).trans hit

theorem bs_get (l : List UInt8) (j : Nat) (h : j < l.length) : (bs l)[j]'(by rw [bs_size]; exact h) = l[j] := rfl

theorem width_pos (s : ByteArray) (pos : Nat) (h : pos < s.size) : 1 ≤ (Utf8.decode s pos).2 := by
  by_cases ha : (s[pos]'h).toNat < 128
  · rw [decode_ascii s pos h ha]
    exact Nat.le_refl _
  · exact (decode_high s pos h (by omega)).2

end Go.Mk
namespace Go.Proofs.YtlnincdmdegaoaaGreat
open Go.RowKit Go.Mk

theorem nlow_any (c : Int) (w : World) : Calls Tryz.prog 108 #[.int .i32 c] w fun e w' => e = .returned (.bool (lowI c)) ∧ w = w' := by
  unfold lowI
  by_cases h : 97 ≤ c
  · go_enter Tryz.func108, Tryz.ntmps108
    go_wp2
    go_ret
    exact ⟨by simp [h], rfl⟩
  · go_enter Tryz.func108, Tryz.ntmps108
    go_wp2
    go_ret
    exact ⟨by simp; omega, rfl⟩

theorem nupp_any (c : Int) (w : World) : Calls Tryz.prog 94 #[.int .i32 c] w fun e w' => e = .returned (.bool (uppI c)) ∧ w = w' := by
  unfold uppI
  by_cases h : 65 ≤ c
  · go_enter Tryz.func94, Tryz.ntmps94
    go_wp2
    go_ret
    exact ⟨by simp [h], rfl⟩
  · go_enter Tryz.func94, Tryz.ntmps94
    go_wp2
    go_ret
    exact ⟨by simp; omega, rfl⟩

theorem ndig_any (c : Int) (w : World) : Calls Tryz.prog 105 #[.int .i32 c] w fun e w' => e = .returned (.bool (digI c)) ∧ w = w' := by
  unfold digI
  by_cases h : 48 ≤ c
  · go_enter Tryz.func105, Tryz.ntmps105
    go_wp2
    go_ret
    exact ⟨by simp [h], rfl⟩
  · go_enter Tryz.func105, Tryz.ntmps105
    go_wp2
    go_ret
    exact ⟨by simp; omega, rfl⟩

set_option maxHeartbeats 400000 in
theorem naln_any (c : Int) (w : World) : Calls Tryz.prog 107 #[.int .i32 c] w fun e w' => e = .returned (.bool (alnI c)) ∧ Kept (fun _ => False) w w' := by
  have hL := nlow_any c
  have hU := nupp_any c
  have hD := ndig_any c
  unfold alnI
  generalize lowI c = a at *
  generalize uppI c = b at *
  generalize digI c = d at *
  have HL := Lib.hid hL; have HU := Lib.hid hU; have HD := Lib.hid hD; clear hL hU hD
  cases a <;> cases b
  all_goals
    go_enter Tryz.func107, Tryz.ntmps107
    go_wp2_with (first
      | (go_at_call 108; refine (HL.out _).mono ?_; rintro e w1 ⟨rfl, rfl⟩)
      | (go_at_call 94; refine (HU.out _).mono ?_; rintro e w1 ⟨rfl, rfl⟩)
      | (go_at_call 105; refine (HD.out _).mono ?_; rintro e w1 ⟨rfl, rfl⟩))
    go_ret
    exact ⟨rfl, Kept.refl _ _⟩

/-- All bytes are ASCII, and fit. -/
def evL (f : Int → Bool) (l : List UInt8) : Bool := l.all (fun b => f b.toNat)

set_option maxHeartbeats 400000 in
theorem every_any (k : Nat) (f : Int → Bool) (l : List UInt8) (w : World) (hk : ∀ args w, (callFunc k args).run Tryz.prog w = .ok (.enter k args) w)
    (hf : ∀ (c : Int) (w : World), 0 ≤ c → c ≤ 2147483647 → Calls Tryz.prog k #[.int .i32 c] w fun e w' => e = .returned (.bool (f c)) ∧ Kept (fun _ => False) w w') (hg : ∀ c, 128 ≤ c → f c = false) :
    Calls Tryz.prog 106 #[.string (bs l), .func (.func k) #[] #[]] w fun e w' => e = .returned (.bool (evL f l)) ∧ Kept (fun _ => False) w w' := by
  have HF := Lib.hid hf; have HG := Lib.hid hg; clear hf hg
  go_enter Tryz.func106, Tryz.ntmps106
  go_wp2
  go_loopg [] l.length (fun k wr => ∃ j, k = l.length - j ∧ j ≤ l.length ∧ wr.heap[w.heap.size]? = some (.stringIter (bs l) j) ∧ evL f (l.take j) = true ∧ Kept (fun _ => False) w wr)
  case atStart => exact ⟨0, rfl, Nat.zero_le _, World.iter_heap w _ 0, rfl, (Kept.refl _ w).alloc _⟩
  case round =>
    obtain ⟨j, hkj, hj, hit, hev, hkp⟩ := hrel
    have HK := Lib.hid hkj; have HEV := Lib.hid hev; have HKP := Lib.hid hkp; have HIT := Lib.hid hit; clear hkj hev hkp hit
    by_cases hlt : j < l.length
    · have hlt' : j < (bs l).size := by rw [bs_size]; exact hlt
      have htk : evL f (l.take (j + 1)) = f l[j].toNat := by
        have e : l.take (j + 1) = l.take j ++ [l[j]] := by rw [List.take_add_one, List.getElem?_eq_getElem hlt]; rfl
        have := HEV.out
        unfold evL at this ⊢
        rw [e, List.all_append, this]
        simp
      have hbad : f l[j].toNat = false → evL f l = false := fun h => by
        unfold evL
        rw [List.all_eq_false]
        exact ⟨l[j], List.getElem_mem _, by rw [h]; simp⟩
      have HTK := Lib.hid htk; have HBAD := Lib.hid hbad; clear htk hbad
      by_cases ha : (l[j]).toNat < 128
      · have hnx : ∀ ty, (Instr.next (.pointer (some ⟨w.heap.size, 0, none⟩)) true ty).run Tryz.prog wr = _ := fun ty => Lib.run_next_ascii_at wr w.heap.size (bs l) j ty HIT.out hlt' ha
        rw [bs_get l j hlt] at hnx
        have hc := HF.out (l[j].toNat : Int) (wr.iterAt w.heap.size (bs l) (j + 1)) (by omega) (by omega)
        have HIT2 := Lib.hid (Lib.iterAt_heap wr w.heap.size (bs l) j (j + 1) HIT.out)
        have HKP2 := Lib.hid (kept_iterAt HKP.out (Nat.le_refl _) (bs l) (j + 1))
        have HC := Lib.hid hc; clear hc
        generalize hfj : f (l[j].toNat : Int) = r at *
        have HFJ := Lib.hid hfj; clear hfj
        generalize wr.iterAt w.heap.size (bs l) (j + 1) = w2 at *
        cases r with
        | true =>
          go_wp2_with fail
          refine HC.out.mono ?_
          rintro e w3 ⟨rfl, hk3⟩
          have HK3 := Lib.hid hk3; clear hk3
          go_wp2
          go_roundg (l.length - (j + 1))
          case measure => have := HK.out; omega
          case rel => exact ⟨j + 1, rfl, by omega, iter_kept HIT2.out HK3.out (fun h => h), HTK.out, HKP2.out.trans HK3.out (fun _ _ h => h)⟩
        | false =>
          go_wp2_with fail
          refine HC.out.mono ?_
          rintro e w3 ⟨rfl, hk3⟩
          have HK3 := Lib.hid hk3; clear hk3
          go_wp2
          go_ret
          exact ⟨by rw [HBAD.out (by first | rfl | trivial)]; rfl, HKP2.out.trans HK3.out (fun _ _ h => h)⟩
      · have hd := decode_high (bs l) j hlt' (by rw [bs_get l j hlt]; omega)
        have hdl := decode_le (bs l) j
        have hnx : ∀ ty, (Instr.next (.pointer (some ⟨w.heap.size, 0, none⟩)) true ty).run Tryz.prog wr = _ := fun ty => Lib.run_next_any_at wr w.heap.size (bs l) j ty HIT.out hlt'
        have hc := HF.out ((Utf8.decode (bs l) j).1 : Int) (wr.iterAt w.heap.size (bs l) (j + (Utf8.decode (bs l) j).2)) (by omega) (by omega)
        rw [HG.out _ (by omega)] at hc
        have HKP2 := Lib.hid (kept_iterAt HKP.out (Nat.le_refl _) (bs l) (j + (Utf8.decode (bs l) j).2))
        have HB := Lib.hid (HBAD.out (HG.out _ (by omega)))
        have HC := Lib.hid hc; clear hc
        generalize wr.iterAt w.heap.size (bs l) (j + (Utf8.decode (bs l) j).2) = w2 at *
        generalize (Utf8.decode (bs l) j).1 = c at *
        go_wp2_with fail
        refine HC.out.mono ?_
        rintro e w3 ⟨rfl, hk3⟩
        have HK3 := Lib.hid hk3; clear hk3
        go_wp2
        go_ret
        exact ⟨by rw [HB.out]; rfl, HKP2.out.trans HK3.out (fun _ _ h => h)⟩
    · obtain rfl : j = l.length := by omega
      have hnx : ∀ ty, (Instr.next (.pointer (some ⟨w.heap.size, 0, none⟩)) true ty).run Tryz.prog wr = _ := fun ty => Lib.run_next_end_at wr w.heap.size (bs l) l.length ty HIT.out (by rw [bs_size]; omega)
      go_wp2
      go_ret
      have := HEV.out
      rw [List.take_length] at this
      exact ⟨by rw [this]; rfl, HKP.out⟩

theorem nm_cons (c : UInt8) (t : List UInt8) (h : (c :: t).length ≤ 40) (hd : digI c.toNat = false) : isNm (c :: t) = evL alnI (c :: t) := by
  have e : alnI c.toNat = lett c := by simp [alnI, lett, low, upp, hd]
  have e2 : lenIn (c :: t) 40 = true := by simp [lenIn] at *; omega
  simp only [isNm, e2, Bool.true_and, List.headD_cons, evL, List.all_cons, aln, e]
  cases lett c
  · rfl
  · simp only [Bool.true_and]
    rfl

theorem nm_dig (c : UInt8) (t : List UInt8) (hd : digI c.toNat = true) : isNm (c :: t) = false := by
  have e : lett c = false := by
    simp [digI, lett, low, upp, lowI, uppI] at *
    omega
  simp [isNm, e]

theorem nm_nil : isNm [] = false := rfl
theorem nm_long (l : List UInt8) (h : 40 < l.length) : isNm l = false := by
  have e : lenIn l 40 = false := by simp [lenIn]; omega
  simp [isNm, e]

theorem alnI_128 (c : Int) (h : 128 ≤ c) : alnI c = false := by
  simp [alnI, lowI, uppI, digI]
  omega

/-- The forms in which a walk asks for a text's length and its first byte. -/
structure Txt (l : List UInt8) (c : UInt8) : Prop where
  ne : ¬ bs l = ByteArray.empty
  n0 : (((bs l).size : Int) == 0) = false
  pos : 0 < (bs l).size
  hd : ∀ h : 0 < (bs l).size, wrap32 (((bs l)[0]'h).toNat : Int) = (c.toNat : Int)

theorem txt_cons (c : UInt8) (t : List UInt8) : Txt (c :: t) c := by
  refine ⟨fun h => ?_, ?_, ?_, fun h => ?_⟩
  · have := congrArg ByteArray.size h
    rw [bs_size] at this
    simp at this
  · rw [bs_size, beq_eq_false_iff_ne]
    simp
    omega
  · rw [bs_size]; simp
  · have e : (bs (c :: t))[0]'h = c := rfl
    rw [e]
    have := c.toNat_lt
    unfold wrap32
    omega

set_option maxHeartbeats 400000 in
theorem nis_any (l : List UInt8) (w : World) : Calls Tryz.prog 93 #[.string (bs l)] w fun e w' => e = .returned (.bool (isNm l)) ∧ Kept (fun _ => False) w w' := by
  cases l with
  | nil =>
    go_enter Tryz.func93, Tryz.ntmps93
    go_wp2
    go_ret
    exact ⟨rfl, Kept.refl _ _⟩
  | cons c t =>
    obtain ⟨h1, h2, h3, h4⟩ := txt_cons c t
    by_cases h40 : 40 < (c :: t).length
    · rw [nm_long _ h40]
      rw [← bs_size] at h40
      have h41 : (40 : Int) < ((bs (c :: t)).size : Int) := by omega
      clear h40
      generalize bs (c :: t) = s at *
      go_enter Tryz.func93, Tryz.ntmps93
      go_wp2
      go_ret
      exact ⟨rfl, Kept.refl _ _⟩
    · have h41 : ((bs (c :: t)).size : Int) ≤ 40 := by rw [bs_size]; omega
      have hD := ndig_any c.toNat
      have hE := every_any 107 alnI (c :: t) w Tryz.call107 (fun c w _ _ => naln_any c w) alnI_128
      cases hd : digI c.toNat with
      | true =>
        rw [nm_dig c t hd]
        rw [hd] at hD
        have HD := Lib.hid hD; clear hD hE hd h40
        generalize bs (c :: t) = s at *
        go_enter Tryz.func93, Tryz.ntmps93
        go_wp2_with fail
        refine (HD.out _).mono ?_
        rintro e w1 ⟨rfl, rfl⟩
        go_wp2
        go_ret
        exact ⟨rfl, Kept.refl _ _⟩
      | false =>
        rw [nm_cons c t (by omega) hd]
        rw [hd] at hD
        have HD := Lib.hid hD; have HE := Lib.hid hE; clear hD hE hd h40
        generalize evL alnI (c :: t) = r at *
        generalize bs (c :: t) = s at *
        go_enter Tryz.func93, Tryz.ntmps93
        go_wp2_with fail
        refine (HD.out _).mono ?_
        rintro e w1 ⟨rfl, rfl⟩
        go_wp2_with fail
        refine HE.out.mono ?_
        rintro e w1 ⟨rfl, hk⟩
        go_wp2
        go_ret
        exact ⟨rfl, hk⟩

set_option maxHeartbeats 400000 in
theorem nun_any (l : List UInt8) (w : World) : Calls Tryz.prog 109 #[.string (bs l)] w fun e w' => e = .returned (.bool (isUn l)) ∧ Kept (fun _ => False) w w' := by
  have hI := nis_any l w
  unfold isUn
  cases hn : isNm l with
  | false =>
    rw [hn] at hI
    have HI := Lib.hid hI; clear hI hn
    go_enter Tryz.func109, Tryz.ntmps109
    go_wp2_with fail
    refine HI.out.mono ?_
    rintro e w1 ⟨rfl, hk⟩
    go_wp2
    go_ret
    exact ⟨rfl, hk⟩
  | true =>
    cases l with
    | nil => cases hn
    | cons c t =>
      rw [hn] at hI
      obtain ⟨h1, h2, h3, h4⟩ := txt_cons c t
      have hL := nlow_any c.toNat
      show Calls _ _ _ _ (fun e w' => e = .returned (.bool (true && lowI c.toNat)) ∧ _)
      rw [Bool.true_and]
      generalize lowI c.toNat = r at *
      have HI := Lib.hid hI; have HL := Lib.hid hL; clear hI hL hn
      generalize bs (c :: t) = s at *
      go_enter Tryz.func109, Tryz.ntmps109
      go_wp2_with fail
      refine HI.out.mono ?_
      rintro e w1 ⟨rfl, hk⟩
      go_wp2_with fail
      refine (HL.out _).mono ?_
      rintro e w2 ⟨rfl, rfl⟩
      go_wp2
      go_ret
      exact ⟨rfl, hk⟩

set_option maxHeartbeats 400000 in
theorem ncl_any (l : List UInt8) (w : World) : Calls Tryz.prog 74 #[.string (bs l)] w fun e w' => e = .returned (.bool (isCl l)) ∧ Kept (fun _ => False) w w' := by
  have hI := nis_any l w
  unfold isCl
  cases hn : isNm l with
  | false =>
    rw [hn] at hI
    have HI := Lib.hid hI; clear hI hn
    go_enter Tryz.func74, Tryz.ntmps74
    go_wp2_with fail
    refine HI.out.mono ?_
    rintro e w1 ⟨rfl, hk⟩
    go_wp2
    go_ret
    exact ⟨rfl, hk⟩
  | true =>
    cases l with
    | nil => cases hn
    | cons c t =>
      rw [hn] at hI
      obtain ⟨h1, h2, h3, h4⟩ := txt_cons c t
      have hL := nupp_any c.toNat
      show Calls _ _ _ _ (fun e w' => e = .returned (.bool (true && uppI c.toNat)) ∧ _)
      rw [Bool.true_and]
      generalize uppI c.toNat = r at *
      have HI := Lib.hid hI; have HL := Lib.hid hL; clear hI hL hn
      generalize bs (c :: t) = s at *
      go_enter Tryz.func74, Tryz.ntmps74
      go_wp2_with fail
      refine HI.out.mono ?_
      rintro e w1 ⟨rfl, hk⟩
      go_wp2_with fail
      refine (HL.out _).mono ?_
      rintro e w2 ⟨rfl, rfl⟩
      go_wp2
      go_ret
      exact ⟨rfl, hk⟩

end Go.Proofs.YtlnincdmdegaoaaGreat
