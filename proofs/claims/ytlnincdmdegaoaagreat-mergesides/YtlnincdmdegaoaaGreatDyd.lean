/-
  maps.Values of a table of definitions: every entry comes once, in some order; slices.Collect of them; merge.snapOf.
-/
import Derived.Test.YtlnincdmdegaoaaGreatTgw
import Derived.Test.YtlnincdmdegaoaaGreatDyb
import Derived.Test.YtlnincdmdegaoaaGreatGOc
import Derived.Test.YtlnincdmdegaoaaGreatGSu
import Derived.OwnWalkIn
import Derived.TacticsInMore
import Derived.RegionIn
import Derived.LoopIn
namespace Go.Proofs.YtlnincdmdegaoaaGreat
open Go.RowKit Go.Mk Go.Maps Go.Shelf

set_option maxHeartbeats 400000 in
theorem mvalues_any (mb : Option Nat) (w : World) : Calls Tryz.prog 45 #[.map mb] w fun e w' => e = .returned (.func (.func 59) #[] #[.pointer (some ⟨w.heap.size, 0, none⟩)]) ∧ w' = w.alloc (.cells #[.map mb] 57) := by
  go_enter Tryz.func45, Tryz.ntmps45
  go_wp2
  go_ret
  exact ⟨rfl, rfl⟩

/-- The rows of a table's definitions, where they lie. -/
def Rows (N : Nat) (m : List Ent) (W : World) : Prop := ∀ e ∈ m, Lies W N e.2.1 (strs e.1.vs) ∧ e.1.vs.length ≤ e.2.2

/-- How a value that comes lies in memory. -/
structure GV (m : List Ent) (N : Nat) (x : Ent) (W : World) : Prop where
  mem : x ∈ m
  lies : Lies W N x.2.1 (strs x.1.vs)
  cap : x.1.vs.length ≤ x.2.2

theorem filt_step : ∀ {m : List Ent}, Rise keyE m → ∀ {e : Ent}, e ∈ m → ∀ {p : Ent → Bool}, p e = false → (m.filter p ++ [e]).Perm (m.filter (fun y => p y || (keyE y == keyE e)))
  | [], _, _, h, _, _ => absurd h List.not_mem_nil
  | y :: r, h, e, he, p, hp => by
    obtain ⟨h1, h2⟩ := rise_cons.1 h
    rcases List.mem_cons.1 he with rfl | he
    · have e1 : r.filter (fun y => p y || (keyE y == keyE e)) = r.filter p := List.filter_congr (fun y hy => by
        have : ¬ keyE y = keyE e := (lt_ne (h1 y hy)).symm
        simp [this])
      rw [List.filter_cons_of_neg (by simp [hp]), List.filter_cons_of_pos (by simp), e1]
      exact List.perm_append_singleton e _
    · have ih := filt_step h2 he hp
      have hne : ¬ keyE y = keyE e := lt_ne (h1 e he)
      by_cases hy : p y = true
      · rw [List.filter_cons_of_pos hy, List.filter_cons_of_pos (by simp [hy])]
        exact ih.cons y
      · rw [List.filter_cons_of_neg hy, List.filter_cons_of_neg (by simp [hy, hne])]
        exact ih

theorem filt_lt {m : List Ent} {e : Ent} (he : e ∈ m) {p : Ent → Bool} (hp : p e = false) : (m.filter p).length < m.length := by
  rw [List.length_filter_lt_length_iff_exists]
  exact ⟨e, he, by simp [hp]⟩

set_option maxRecDepth 100000 in
set_option maxHeartbeats 2000000 in
theorem vals1_in (n l b : Nat) (m : List Ent) (Bm N : Nat) (Kp : World → World → Prop) (hKw : ∀ A B, Kp A B → KeepsWalks A B) (hKr : ∀ A B, Rows N m A → Kp A B → Rows N m B) (J Jx : List Ent → World → Prop) (W : World)
    (hJ : ∀ pre A B, J pre A → Kept (fun _ => False) A B → J pre B) (hJw : ∀ pre A B r, J pre A → Kept (fun k => k = r) A B → W.heap.size ≤ r → (∃ o, A.heap[r]? = some o ∧ o.isWalk = true) → J pre B)
    (hY : ∀ pre x W1, J pre W1 → GV m N x W1 → pre.length < m.length → YieldAt Fence.wide (n - 1) Tryz.prog l (encE x) W1 fun e W' => (e = .returned (.bool true) ∧ J (pre ++ [x]) W' ∧ Kp W1 W') ∨ (e = .returned (.bool false) ∧ Jx (pre ++ [x]) W'))
    (hm : W.cell? ⟨Bm, 0, none⟩ = some (.map (some b))) (ht : Tb W b m) (hR : Rows N m W) (hN : N ≤ W.heap.size) (h0 : J [] W) (hn : 1 ≤ n) :
    CallsIn Fence.wide n Tryz.prog 59 #[.func (.yield l) #[] #[], .pointer (some ⟨Bm, 0, none⟩)] W fun e W' => (∃ v, e = .returned v) ∧
      ((∃ ys : List Ent, ys.Perm m ∧ J ys W') ∨ (∃ pre, True ∧ Jx pre W')) := by
  have hro : Fence.wide.round = none := rfl
  have hown := ht.own
  have HT := Lib.hid ht; have HKW := Lib.hid hKw; have HKR := Lib.hid hKr; have HJ := Lib.hid hJ; have HJW := Lib.hid hJw; have HY := Lib.hid hY; have HR := Lib.hid hR; have H0 := Lib.hid h0
  clear ht hKw hKr hJ hJw hY hR h0
  refine callsIn_of_wp Tryz.func59 rfl trivial ?_ hro
  simp only [Tryz.ntmps59, List.size_toArray, List.length_cons, List.length_nil, Nat.reduceAdd, Nat.reduceSub, Array.replicate_succ, Array.replicate_zero, List.push_toArray, List.append_toArray, List.nil_append, List.cons_append]
  gi_wp2_with (first
    | (gi_at_range; refine wpListIn_range_own _ rfl _ 57 rfl 9 43 lawS Tryz.underlying57 RV b m.length _ rfl hown ?_; intro w0 hrg0 hg0 hs0)
    | gi_in)
  go_frame
  gi_loopw [4] (fun _ wr => ∃ (left : Lit → Bool) (cnt : Nat) (pre : List Ent), wr.ranges Tryz.prog 9 RV b W.heap.size m.length (datM m) left cnt ∧ Hid (pre.Perm (m.filter (fun e => !left (.string (keyE e))))) ∧ Hid (J pre wr) ∧ Hid (Rows N m wr) ∧ W.heap.size ≤ wr.heap.size)
    (fun _ wr => wr.rangeLeft b W.heap.size)
  case atStart =>
    have k0 : Kept (fun _ => False) W w0 := (kept_of_grown hg0).mono (fun k _ e => by cases e)
    refine ⟨_, _, [], hrg0, Lib.hid ?_, Lib.hid (HJ.out _ _ _ H0.out k0), Lib.hid (fun e he => ⟨(HR.out e he).1.kept k0 (fun _ _ _ h => h), (HR.out e he).2⟩), k0.size⟩
    have : m.filter (fun e => !Maps.has (datM m) (.string (keyE e))) = [] := by
      rw [List.filter_eq_nil_iff]
      intro e he
      rw [dat_has, hasK_iff.2 ⟨e, he, rfl⟩]
      simp
    rw [this]
  case round =>
    obtain ⟨left, cnt, pre, hrg, hperm, hJs, hRs, hsz⟩ := hrel
    gi_wp2_with (first
      | (gi_at_next; refine wpListIn_next_ranges _ rfl _ rfl 9 lawS RV (fun k : List UInt8 => Value.string (bs k)) (fun c : Raw => Value.agg #[.int .i64 c.1, .string (bs c.2.1), .string (bs c.2.2.1), .slice c.2.2.2.1 c.2.2.2.2.1 c.2.2.2.2.2.1, .string (bs c.2.2.2.2.2.2.1), .string (bs c.2.2.2.2.2.2.2)]) (fun key kl h => by obtain ⟨k, h1, _⟩ := keyS_inv h; exact ⟨k, h1⟩) (fun v y h => (RV_inv h).1) b W.heap.size m.length _ _ _ rfl hrg ?_ ?_)
      | gi_in)
    · intro _ hl0
      have HP := Lib.hid (show pre.Perm m by
        have h := hperm.out
        rwa [List.filter_eq_self.2 (fun e _ => by rw [hl0]; rfl)] at h)
      gi_wp2
      go_end0
      exact ⟨⟨_, rfl⟩, .inl ⟨pre, HP.out, hJs.out⟩⟩
    · intro x q0 q1 q2 q3 q4 q5 q6 q7 kl yd yp w2 cnt2 hkey hlk hv hat hrg2 hlt hg2 hs2 hen
      obtain ⟨x', hx1, hx2, hxl⟩ := keyS_inv hkey
      have hxe : x' = x := by
        injection hx1 with hx1
        exact (bs_inj hx1).symm
      subst hxe
      subst hx2
      obtain ⟨e, he, hke, hve⟩ := HT.out.entry hv hat
      obtain ⟨r0, r1, r2, r3, r4, r5, r6, r7⟩ := val_parts hve
      subst r0 r1 r2 r3 r4 r5 r6 r7
      subst hke
      have k2 : Kept (fun k => k = W.heap.size) wr w2 := (kept_of_grown hg2).mono (fun k _ e => by cases e; rfl)
      have hJ2 := HJW.out _ _ _ _ hJs.out k2 (Nat.le_refl _) hrg.iter_walk
      have hR2 : Rows N m w2 := fun y hy => ⟨(hRs.out y hy).1.kept k2 (fun hne a ha e1 => by
        obtain ⟨g, off, e2, hb, _⟩ := (hRs.out y hy).1 hne
        rw [e2] at ha
        cases ha
        dsimp only at e1
        omega), (hRs.out y hy).2⟩
      obtain ⟨w3, hw3⟩ : ∃ w3, w2.alloc (.cells #[.int .i64 e.1.k, .string (bs e.1.c), .string (bs e.1.p), .slice e.2.1 e.1.vs.length e.2.2, .string (bs e.1.s), .string (bs e.1.t)] 43) = w3 := ⟨_, rfl⟩
      have k3 : Kept (fun _ => False) w2 w3 := by rw [← hw3]; exact (Kept.refl (fun _ => False) w2).alloc _
      have hR3 : Rows N m w3 := fun y hy => ⟨(hR2 y hy).1.kept k3 (fun _ _ _ h => h), (hR2 y hy).2⟩
      have hrg3 := hrg2.kept (grown_of_kept k3) (by simp) (by simp)
      have hpl : pre.length < m.length := by
        rw [hperm.out.length_eq]
        exact filt_lt he (by rw [hlk]; rfl)
      obtain ⟨fn, tmps, assign, body, hy, hRd⟩ := HY.out pre e w3 (HJ.out _ _ _ hJ2 k3) ⟨he, (hR3 e he).1, (hR3 e he).2⟩ hpl
      have HPR := Lib.hid (show (pre ++ [e]).Perm (m.filter (fun y => !(left (.string (keyE y)) && !(Lit.string (keyE y)).sameKey (.string (keyE e))))) by
        have h1 := filt_step HT.out.rise he (p := fun y => !left (.string (keyE y))) (by rw [hlk]; rfl)
        refine (hperm.out.append_right [e]).trans (h1.trans ?_)
        have e2 : ∀ y, (!left (.string (keyE y)) || (keyE y == keyE e)) = !(left (.string (keyE y)) && !(Lit.string (keyE y)).sameKey (.string (keyE e))) := fun y => by
          rw [same_str, Bool.not_and, Bool.not_not]
        simp only [e2]
        exact List.Perm.refl _)
      have HSZ3 := Lib.hid (show W.heap.size ≤ w3.heap.size from Nat.le_trans (Nat.le_trans hsz k2.size) k3.size)
      have HR3 := Lib.hid hR3; have HRG3 := Lib.hid hrg3; have HRG := Lib.hid hrg; have HLT := Lib.hid hlt
      unfold encE at hy
      have HRD := Lib.hid hRd
      have hbx : Bx w3 w2.heap.size e.2.1 e.2.2 e.1 := by rw [← hw3]; exact bx_new w2 e.2.1 e.2.2 e.1 43
      obtain ⟨c0, c1, c2, c3, c4, c5⟩ := hbx
      clear hRd hR3 hrg3 hR2 hJ2 hs2 hrg hrg2 hperm hJs hRs hlt hsz hkey hlk hv hat hve hx1 k2 k3 hg2 hpl
      gi_wp2_with fail
      all_goals (try rw [hw3])
      refine HRD.out.mono ?_
      rintro e' W3 (⟨rfl, hJ3, hk3⟩ | ⟨rfl, hJx3⟩)
      · have HJ3 := Lib.hid hJ3; have HRG4 := Lib.hid (HRG3.out.of_walks (HKW.out _ _ hk3)); have HR4 := Lib.hid (HKR.out _ _ HR3.out hk3)
        have HSZ4 := Lib.hid (Nat.le_trans HSZ3.out (HKW.out _ _ hk3).size)
        clear hJ3 hk3
        gi_wp2
        go_roundw
        case rel => exact ⟨_, cnt2, pre ++ [e], HRG4.out, HPR, HJ3, HR4, HSZ4.out⟩
        case measure => rw [HRG4.out.left_eq, HRG.out.left_eq]; exact HLT.out
      · have HJx3 := Lib.hid hJx3; clear hJx3
        gi_wp2
        refine bodyPost_ret (results_none rfl _ _ _) rfl ?_
        exact ⟨⟨_, rfl⟩, .inr ⟨_, trivial, HJx3.out⟩⟩

theorem vals1_seq (n : Nat) (hn : 1 ≤ n) (b : Nat) (m : List Ent) (Bm N : Nat) (Kp : World → World → Prop) (hKw : ∀ A B, Kp A B → KeepsWalks A B) (hKr : ∀ A B, Rows N m A → Kp A B → Rows N m B) (w : World) (hm : w.cell? ⟨Bm, 0, none⟩ = some (.map (some b))) (ht : Tb w b m) (hR : Rows N m w) (hN : N ≤ w.heap.size) :
    SeqW n Tryz.prog 59 #[.pointer (some ⟨Bm, 0, none⟩)] encE (GV m N) Kp (fun ys => ys.Perm m) (fun _ => True) m.length w := fun l J Jx W hW hJ hJw hY h0 => by
  have hk := kept_of_belowsize hW
  exact vals1_in n l b m Bm N Kp hKw hKr J Jx W hJ hJw hY ((hk.cell (p := ⟨Bm, 0, none⟩) (World.block_lt_of_cell? _ _ hm) (fun h => h)).trans hm) (ht.keep hk) (fun e he => ⟨(hR e he).1.kept hk (fun _ _ _ h => h), (hR e he).2⟩) (Nat.le_trans hN hk.size) h0 hn

/-- Collect under way stays where a walk turns. -/
theorem Cl.walk {w : World} {n r : Nat} {v : Value} {pre : List Ent} {A B : World} (h : Cl w n v pre A) (hk : Kept (fun k => k = r) A B) (hr : n + 2 ≤ r) (hn : w.heap.size < n) (hw : ∃ o, A.heap[r]? = some o ∧ o.isWalk = true) : Cl w n v pre B := by
  have hnc : NoCell A r := by
    obtain ⟨o, h1, h2⟩ := hw
    exact ⟨o, h1, by cases o <;> simp [Obj.isWalk, Obj.isCells] at h2 ⊢⟩
  have hlt := World.block_lt_of_cell? _ _ h.box
  have h1 : ¬ w.heap.size = r := by omega
  have hvb : ∀ k, v.ownBlock = some k → k ≠ r := fun k hk' e => by
    cases hp : pre with
    | nil => rw [h.nil hp] at hk'; cases hk'
    | cons y s =>
      have := h.own.cells hk' 0 (.int .i64 y.1.k) (by rw [hp]; simp [cellsE, cellsE1])
      rw [Addr.add_lit] at this
      exact cell_block this hnc e
  refine ⟨(hk.cell (p := ⟨w.heap.size, 0, none⟩) hlt h1).trans h.box, (hk.frozen (p := ⟨w.heap.size, 0, none⟩) hlt h1).trans h.fz, owns_kept h.own hk (fun k hk' e => hvb k hk' e), h.nil, fun e he => ⟨⟨(lies_over (h.rows e he).1.1 hnc hk).mono hk.size, (h.rows e he).1.2⟩, (h.rows e he).2⟩, h.k.trans hk (fun i hi e => by omega)⟩

set_option maxRecDepth 100000 in
set_option maxHeartbeats 2000000 in
theorem vappend_any (b : Nat) (m : List Ent) (Bm : Nat) (w : World) (hm : w.cell? ⟨Bm, 0, none⟩ = some (.map (some b))) (ht : Tb w b m) (hlen : m.length ≤ 1000000) :
    Calls Tryz.prog 58 #[.slice none 0 0, .func (.func 59) #[] #[.pointer (some ⟨Bm, 0, none⟩)]] w fun e w' => ∃ ao cap q, e = .returned (.slice ao q.length cap) ∧ q.Perm m ∧ Dq w (.slice ao q.length cap) q w' := by
  obtain ⟨i0, hi, hz0, hz1, hz2⟩ := info_parts Tryz.infoDef
  obtain ⟨wA, hwA⟩ : ∃ wA, w.alloc (.cells #[.slice none 0 0] 22) = wA := ⟨_, rfl⟩
  have KA := Lib.hid (show Kept (fun _ => False) w wA by rw [← hwA]; exact (Kept.refl (fun _ => False) w).alloc _)
  have ZA := Lib.hid (show wA.heap.size = w.heap.size + 1 by rw [← hwA]; simp)
  have CA := Lib.hid (show wA.cell? ⟨w.heap.size, 0, none⟩ = some (.slice none 0 0) by rw [← hwA]; exact World.cell?_alloc_new w _ _ 0)
  have FA := Lib.hid (show wA.frozen? ⟨w.heap.size, 0, none⟩ = false by rw [← hwA]; simp)
  have MA := Lib.hid ((KA.out.cell (p := ⟨Bm, 0, none⟩) (World.block_lt_of_cell? _ _ hm) (fun h => h)).trans hm)
  have TA := Lib.hid (ht.keep KA.out)
  have RA := Lib.hid (show Rows w.heap.size m wA from fun e he => ⟨(ht.lies e he).1.kept KA.out (fun _ _ _ h => h), (ht.lies e he).2⟩)
  clear hm ht
  refine (callsIn_wide (n := 5)).1 ?_
  refine callsIn_of_wp_marks Tryz.func58 rfl trivial ?_ rfl
  refine wpIn_wide.2 ?_
  simp only [Tryz.ntmps58, List.size_toArray, List.length_cons, List.length_nil, Nat.reduceAdd, Nat.reduceSub, Array.replicate_succ, Array.replicate_zero, List.push_toArray, List.append_toArray, List.nil_append, List.cons_append]
  go_wp2_with fail
  clear hwA
  obtain ⟨Sb, hSb⟩ : ∃ Sb : Nat → Prop, Sb = fun k => k = w.heap.size ∨ wA.heap.size + 1 < k := ⟨_, rfl⟩
  have hza := ZA.out
  have s1 : ¬ Sb wA.heap.size := by rw [hSb]; simp; omega
  have s2 : ¬ Sb (wA.heap.size + 1) := by rw [hSb]; simp; omega
  have KP : ∀ X Y, Rows w.heap.size m X → (Kept (fun k => Sb k ∨ k = wA.heap.size ∨ k = wA.heap.size + 1) X Y ∧ KeepsWalks X Y) → Rows w.heap.size m Y := fun X Y hR hk e he => ⟨(hR e he).1.kept hk.1 (fun hne a ha hS => by
    obtain ⟨g, off, e1, hb, _⟩ := (hR e he).1 hne
    rw [e1] at ha
    cases ha
    rw [hSb] at hS
    dsimp only at hS
    omega), (hR e he).2⟩
  have HS1 := Lib.hid s1; have HS2 := Lib.hid s2; have HKPP := Lib.hid KP
  have HSK := Lib.hid (show ∀ k, (k = w.heap.size ∨ wA.heap.size + 1 < k) → Sb k from fun k hk => by rw [hSb]; exact hk)
  clear KP s1 s2 hSb
  refine (wpIn_wide (n := 4)).1 ?_
  refine wpIn_rangeW (P := Tryz.prog) (n := 4) (by omega) (gf := 59) (lb := #[.pointer (some ⟨Bm, 0, none⟩)]) rfl (enters_of Tryz.func59 (by kernel_rfl) rfl)
    Sb HS1.out HS2.out (vals1_seq 3 (by omega) b m Bm w.heap.size _ (fun _ _ h => h.2) HKPP.out wA MA.out TA.out RA.out (by omega)) (Below.refl _ _) (fun _ => rfl)
    (fun pre W => ∃ v, Cl w wA.heap.size v pre W) (fun _ _ => False) ?hIw ?hI (fun _ _ _ h _ => h) ?hG ?h0
    (fun x a' W => ∃ bx, wA.heap.size + 1 < bx ∧ Bx W bx x.2.1 x.2.2 x.1 ∧ a' = { tmps := #[.slice none 0 0, .func (.func 59) #[] #[.pointer (some ⟨Bm, 0, none⟩)], .pointer (some ⟨w.heap.size, 0, none⟩), undef, .slice none 0 0, .pointer (some ⟨bx, 0, none⟩), .func (.func 59) #[] #[.pointer (some ⟨Bm, 0, none⟩)], .agg #[.int .i64 x.1.k, .string (bs x.1.c), .string (bs x.1.p), .slice x.2.1 x.1.vs.length x.2.2, .string (bs x.1.s), .string (bs x.1.t)], undef, undef, undef, undef, undef], defers := [] })
    ?hAx ?assign ?body ?done (fun _ _ _ h => h.elim)
  case hIw =>
    rintro pre A B r ⟨v, h⟩ hk hr hw
    exact ⟨v, h.walk hk hr (by omega) hw⟩
  case hI =>
    rintro pre A B ⟨v, h⟩ hk
    exact ⟨v, h.kept (by omega) hk⟩
  case hG =>
    rintro x A B hx h1 h2 hk
    exact ⟨hx.mem, hx.lies.kept hk (fun hne a ha hS => by
      obtain ⟨g, off, e1, hb, _⟩ := hx.lies hne
      rw [e1] at ha
      cases ha
      dsimp only at hS
      omega), hx.cap⟩
  case h0 => exact ⟨.slice none 0 0, CA.out, FA.out, World.ownsRow_nil _ _ _ _, fun _ => rfl, fun _ he => absurd he List.not_mem_nil, KA.out⟩
  case hAx =>
    rintro x a' A B ⟨bx, h1, h2, h3⟩ hk
    exact ⟨bx, h1, h2.kept hk (by omega), h3⟩
  case assign =>
    rintro l pre x W K hi hg hlt hK
    unfold encE
    go_simp
    have HKK := Lib.hid hK; have HB := Lib.hid (bx_new W x.2.1 x.2.2 x.1 43)
    clear hK hi hg
    refine wpIn_region_plain l _ (by rintro ⟨a, w, h⟩; exact h) (by kernel_rfl) ?_
    go_wp2
    exact HKK.out _ _ ((Kept.refl _ W).alloc _) ⟨W.heap.size, hlt, HB.out, rfl⟩
  case body =>
    rintro l pre x a' W ⟨v, h⟩ hg ⟨bx, hb1, hb2, rfl⟩ hn1 hn2 hlt hN
    have HAP := Lib.hid (show strs x.1.vs ≠ [] → ∀ a, x.2.1 = some a → v.ownBlock ≠ some a.block ∧ a.block ≠ w.heap.size ∧ a.block ≠ wA.heap.size ∧ a.block ≠ wA.heap.size + 1 from fun hne a ha => by
      obtain ⟨g, off, e1, hb, _⟩ := hg.lies hne
      rw [e1] at ha
      cases ha
      dsimp only
      refine ⟨fun e => ?_, by omega, by omega, by omega⟩
      have := (owns_lt h.own _ e).1
      omega)
    have hnw : ∀ k, v.ownBlock = some k → ∃ u, W.cell? ⟨k, 0, none⟩ = some u := fun k hk' => by
      cases hp : pre with
      | nil => rw [h.nil hp] at hk'; cases hk'
      | cons y s =>
        have := h.own.cells hk' 0 (.int .i64 y.1.k) (by rw [hp]; simp [cellsE, cellsE1])
        rw [Addr.add_lit] at this
        exact ⟨_, this⟩
    have HNW := Lib.hid hnw; clear hnw
    obtain ⟨ao, cap, rfl⟩ := owns_slice h.own
    have HC := Lib.hid h
    have HG := Lib.hid (show Lies W W.heap.size x.2.1 (strs x.1.vs) ∧ x.1.vs.length ≤ x.2.2 from ⟨hg.lies.mono (by have := h.k.size; omega), hg.cap⟩)
    have cb := h.box
    obtain ⟨c0, c1, c2, c3, c4, c5⟩ := hb2
    have hvb : ∀ k, (Value.slice ao pre.length cap).ownBlock = some k → k ≠ w.heap.size := fun k hk e => by have := (owns_lt h.own k hk).1; omega
    have HVB := Lib.hid hvb
    clear h hg hn1 hn2 hvb
    refine wpIn_block ?_
    refine wpIn_region_plain l _ (by rintro ⟨a, w, h⟩; exact h) (by kernel_rfl) ?_
    go_wp2_with (at_builtin; refine wpList_app _ rfl (.tmp 8) (.tmp 10) 22 22 rfl 43 i0 (.agg #[.int .i64 0, .string ⟨#[]⟩, .string ⟨#[]⟩, .slice none 0 0, .string ⟨#[]⟩, .string ⟨#[]⟩]) 6 96 Tryz.underlying22 hi hz0 hz1 hz2 rfl _ _ _ rfl ((owns_base (base' := 0) HC.out.own (fun _ _ => Nat.zero_le _)).alloc _) (.slice (some ⟨W.heap.size, 0, none⟩) 1 1) 1 (cellsE1 x) rfl (src_def W x _) ?b1 ?b2 ?next)
    case b1 => unfold maxLen; omega
    case b2 => omega
    case next =>
      intro v' w5 ho5 hg5 hb5 _
      obtain ⟨ao', cap', rfl⟩ := owns_slice ho5
      have hbl := World.block_lt_of_cell? _ _ cb
      have c6 : w5.cell? ⟨w.heap.size, 0, none⟩ = some (.slice ao pre.length cap) := ((kept_of_grown hg5).cell (p := ⟨w.heap.size, 0, none⟩) (by rw [World.size_alloc]; exact Nat.lt_succ_of_lt hbl) (fun e => HVB.out _ e rfl)).trans ((World.cell?_alloc_lt _ _ _ hbl).trans cb)
      have f6 : w5.frozen? ⟨w.heap.size, 0, none⟩ = false := ((kept_of_grown hg5).frozen (p := ⟨w.heap.size, 0, none⟩) (by rw [World.size_alloc]; exact Nat.lt_succ_of_lt hbl) (fun e => HVB.out _ e rfl)).trans ((((Kept.refl (fun _ => False) W).alloc _).frozen (p := ⟨w.heap.size, 0, none⟩) hbl (fun h => h)).trans HC.out.fz)
      have HNX := Lib.hid (HC.out.next (by omega) hlt x HG.out HAP.out ho5 hg5 (by rw [World.size_alloc]; exact hb5))
      have HWK := Lib.hid (show KeepsWalks W (w5.setCell ⟨w.heap.size, 0, none⟩ (.slice ao' (pre.length + 1) cap')) from
        ((KeepsWalks.alloc W _).trans (KeepsWalks.of_grownBy hg5 (fun j o hj ho => by
          obtain ⟨u, hu⟩ := HNW.out j hj
          have hu' : (W.alloc (.cells #[.int .i64 x.1.k, .string (bs x.1.c), .string (bs x.1.p), .slice x.2.1 x.1.vs.length x.2.2, .string (bs x.1.s), .string (bs x.1.t)] 43)).cell? ⟨j, 0, none⟩ = some u := (World.cell?_alloc_lt _ _ _ (World.block_lt_of_cell? _ _ hu)).trans hu
          obtain ⟨o', ho', hw'⟩ := not_walk_of_cell hu'
          dsimp only at ho'
          rw [ho] at ho'
          cases ho'
          exact hw'))).trans (KeepsWalks.setCell _ _ _))
      clear ho5 hg5 hb5
      go_wp2
      exact ⟨HNX.out.2.mono (fun k _ hk => HSK.out k hk), HWK.out, _, by have h := HNX.out.1; rw [hza] at h; exact h⟩
  case done =>
    rintro xs W hS ⟨v, h⟩ hd
    obtain ⟨ao, cap, rfl⟩ := owns_slice h.own
    have cb := h.box
    have HC := Lib.hid h; have HD := Lib.hid hd
    clear h hd
    go_wp2
    refine ⟨by simp, .inl ⟨_, _, rfl, run_takeDeferred HD.out, ?_⟩⟩
    have kd := kept_putObj W wA.heap.size (.deferred none)
    refine ⟨_, results_tmp rfl _ _ _, ao, cap, xs, rfl, hS, ?_, fun e he => ⟨⟨((HC.out.rows e he).1.1.kept kd (fun hne a ha hs => ((HC.out.rows e he).2 hne a ha).2.2.1 hs)).mono kd.size, (HC.out.rows e he).1.2⟩, fun hne a ha => ((HC.out.rows e he).2 hne a ha).1⟩, HC.out.k.trans kd (fun i hi hs => by omega)⟩
    exact owns_base (owns_kept HC.out.own kd (fun k hk hs => by have := (owns_lt HC.out.own k hk).1; omega)) (fun k hk => by have := (owns_lt HC.out.own k hk).1; omega)

theorem vcollect_any (b : Nat) (m : List Ent) (Bm : Nat) (w : World) (hm : w.cell? ⟨Bm, 0, none⟩ = some (.map (some b))) (ht : Tb w b m) (hlen : m.length ≤ 1000000) :
    Calls Tryz.prog 44 #[.func (.func 59) #[] #[.pointer (some ⟨Bm, 0, none⟩)]] w fun e w' => ∃ ao cap q, e = .returned (.slice ao q.length cap) ∧ q.Perm m ∧ Dq w (.slice ao q.length cap) q w' := by
  have H := Lib.hid (vappend_any b m Bm w hm ht hlen)
  clear hm ht hlen
  go_enter Tryz.func44, Tryz.ntmps44
  go_wp2_with fail
  refine H.out.mono ?_
  rintro e w1 ⟨ao, cap, q, rfl, hq, hd⟩
  go_wp2
  go_ret
  exact ⟨ao, cap, q, rfl, hq, hd⟩

theorem Tb.snp {w : World} {b : Nat} {m : List Ent} (h : Tb w b m) : Snp (dds m) :=
  ⟨(map_rise (f := fun e : Ent => e.1) (ka := keyE) (kb := keyD) (fun _ => rfl)).2 h.rise, fun d hd => by
    obtain ⟨e, he, rfl⟩ := List.mem_map.1 hd
    exact h.right e he⟩

set_option maxHeartbeats 1000000 in
theorem msnapOf_any (b : Nat) (m : List Ent) (w : World) (ht : Tb w b m) (hlen : m.length ≤ 1000000) :
    Calls Tryz.prog 26 #[.map (some b)] w (NwPost w (fitL (dds m))) := by
  have HV := Lib.hid (mvalues_any (some b) w)
  have HS := Lib.hid ht.snp
  have HL8 := Lib.hid (len8_ent (p := some b) (.inr ⟨b, rfl, ht⟩))
  have HT := Lib.hid ht
  clear ht
  go_enter Tryz.func26, Tryz.ntmps26
  go_wp2_with fail
  refine HV.out.mono ?_
  rintro e w1 ⟨rfl, hw1⟩
  have K1 := Lib.hid (show Kept (fun _ => False) w w1 by rw [hw1]; exact (Kept.refl (fun _ => False) w).alloc _)
  have HC := Lib.hid (vcollect_any b m w.heap.size w1 (by rw [hw1]; exact World.cell?_alloc_new w _ _ 0) (HT.out.keep K1.out) hlen)
  clear hw1
  go_wp2_with fail
  refine HC.out.mono ?_
  rintro e w2 ⟨ao, cap, q, rfl, hq, hd⟩
  have HN := Lib.hid (snew_any ao cap q w2.heap.size w2 (Nat.le_refl _) hd.sds.ds (fun e he => HL8.out e (hq.mem_iff.1 he)) (by rw [hq.length_eq]; exact hlen))
  rw [newL_snp HS.out (show (dds q).Perm (dds m) from hq.map _)] at HN
  have K2 := Lib.hid (K1.out.trans hd.k (fun _ _ h => h))
  clear hd hq
  go_wp2_with fail
  refine HN.out.mono ?_
  rintro e w3 ⟨vv, rfl, n1, n2, n3, n4⟩
  have N := Lib.hid (show NwPost w (fitL (dds m)) (.returned (.tuple #[vv, .int .i64 (fitL (dds m)).1])) w3 from ⟨vv, rfl, n1, n2, n3, K2.out.trans n4 (fun _ _ h => h)⟩)
  clear n1 n2 n3 n4
  go_wp2
  go_ret2
  exact N.out

end Go.Proofs.YtlnincdmdegaoaaGreat
