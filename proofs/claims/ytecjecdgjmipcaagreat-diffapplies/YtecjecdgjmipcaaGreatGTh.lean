/-
  Lemmas towards the claim of this folder: contracts of the functions that the law reaches; joined texts.
-/
import Derived.Test.YtecjecdgjmipcaaGreatTa
import Derived.Test.YtecjecdgjmipcaaGreatGTg
import Derived.Test.YtecjecdgjmipcaaGreatSy
import Derived.Test.YtecjecdgjmipcaaGreatGBk
import Derived.Test.YtecjecdgjmipcaaGreatGR7
import Derived.Deep.RegionHeld
/-
  The iterator of All: every definition comes, by rising keys, each in memory of its own.
-/
namespace Go.Proofs.YtecjecdgjmipcaaGreat
open Go.RowKit Go.Mk Go.Maps Go.Shelf

/-- What All's function reads. -/
structure Ap (p : Option Nat) (m : List Ent) (Bk Bm : Nat) (ao : Option Addr) (cap : Nat) (wx : World) : Prop where
  cell : wx.cell? ⟨Bk, 0, none⟩ = some (.slice ao m.length cap)
  keys : Lies wx wx.heap.size ao (strs (m.map keyE))
  tab : wx.cell? ⟨Bm, 0, none⟩ = some (.map p)
  tb : TbO wx p m

theorem Al.ap {w : World} {p : Option Nat} {m : List Ent} {Bk Bm : Nat} {wx : World} (h : Al w p m Bk Bm wx) : ∃ ao cap, Ap p m Bk Bm ao cap wx ∧ wx.ownsRow w.heap.size 9 1 (.slice ao m.length cap) m.length (strs (m.map keyE)) := by
  obtain ⟨ao, cap, h1, h2⟩ := h.keys
  exact ⟨ao, cap, ⟨h1, owns_lies h2, h.tab, h.tb⟩, h2⟩

theorem Ap.kept {S : Nat → Prop} {p : Option Nat} {m : List Ent} {Bk Bm : Nat} {ao : Option Addr} {cap : Nat} {wx wy : World} (h : Ap p m Bk Bm ao cap wx) (hk : Kept S wx wy) (h1 : ¬ S Bk) (h2 : ¬ S Bm) (h3 : m ≠ [] → ∀ a, ao = some a → ¬ S a.block) (h4 : ∀ b, p = some b → ¬ S b) (h5 : ∀ e ∈ m, e.1.vs ≠ [] → ∀ a, e.2.1 = some a → ¬ S a.block) : Ap p m Bk Bm ao cap wy := by
  refine ⟨(hk.cell (p := ⟨Bk, 0, none⟩) (World.block_lt_of_cell? _ _ h.cell) h1).trans h.cell, (h.keys.kept hk (fun hn a ha => h3 (fun e => hn (by rw [e]; rfl)) a ha)).mono hk.size, (hk.cell (p := ⟨Bm, 0, none⟩) (World.block_lt_of_cell? _ _ h.tab) h2).trans h.tab, ?_⟩
  rcases h.tb with hb | ⟨b, rfl, hb⟩
  · exact .inl hb
  · exact .inr ⟨b, rfl, hb.kept hk (h4 b rfl) h5⟩

theorem Ap.keep {p : Option Nat} {m : List Ent} {Bk Bm : Nat} {ao : Option Addr} {cap : Nat} {wx wy : World} (h : Ap p m Bk Bm ao cap wx) (hk : Kept (fun _ => False) wx wy) : Ap p m Bk Bm ao cap wy :=
  h.kept hk (fun h => h) (fun h => h) (fun _ _ _ h => h) (fun _ _ h => h) (fun _ _ _ _ _ h => h)

/-- How a value that comes lies in memory. -/
structure GE (x : Ent) (W : World) : Prop where
  lies : Lies W W.heap.size x.2.1 (strs x.1.vs)
  cap : x.1.vs.length ≤ x.2.2
  right : rightD x.1 = true
  off : x.1.vs ≠ [] → ∃ g, x.2.1 = some ⟨g, 0, none⟩

theorem owns_off {w : World} {base : Nat} {e : TypeId} {size n cap : Nat} {ao : Option Addr} {xs : List Value} (h : w.ownsRow base e size (.slice ao n cap) n xs) (hn : n ≠ 0) : ∃ g, ao = some ⟨g, 0, none⟩ := by
  rcases h.2 with ⟨_, h2⟩ | ⟨g, c, cur, hv, _⟩
  · exact (hn h2).elim
  · cases hv; exact ⟨g, rfl⟩

theorem GE.kept {S : Nat → Prop} {x : Ent} {W W' : World} (h : GE x W) (hk : Kept S W W') (hn : x.1.vs ≠ [] → ∀ a, x.2.1 = some a → ¬ S a.block) : GE x W' :=
  ⟨(h.lies.kept hk (fun hne a ha => hn (fun e => hne (by rw [e]; rfl)) a ha)).mono hk.size, h.cap, h.right, h.off⟩

/-- What is no row of cells may turn. -/
theorem GE.over {x : Ent} {A B : World} {n : Nat} (h : GE x A) (h1 : ∃ o, A.heap[n]? = some o ∧ o.isCells = false) (h2 : ∃ o, A.heap[n + 1]? = some o ∧ o.isCells = false) (hk : Kept (fun k => k = n ∨ k = n + 1) A B) : GE x B := by
  refine h.kept hk (fun hv a ha hS => ?_)
  obtain ⟨b, off, e, _, hc⟩ := h.lies (by unfold strs; simpa using hv)
  rw [e] at ha
  cases ha
  cases hvs : x.1.vs with
  | nil => exact hv hvs
  | cons t vs =>
    have h0 := hc 0 (.string (bs t)) (by rw [hvs]; rfl)
    have hno : ∀ k, (∃ o, A.heap[k]? = some o ∧ o.isCells = false) → b ≠ k := by
      rintro k ⟨o, ho, hoc⟩ rfl
      simp only [World.cell?, ho] at h0
      cases o <;> simp [Obj.isCells] at hoc h0
    rcases hS with h3 | h3
    · exact hno _ h1 h3
    · exact hno _ h2 h3

def encE (x : Ent) : Array Value := #[.agg #[.int .i64 x.1.k, .string (bs x.1.c), .string (bs x.1.p), .slice x.2.1 x.1.vs.length x.2.2, .string (bs x.1.s), .string (bs x.1.t)]]

set_option maxRecDepth 100000 in
set_option maxHeartbeats 2000000 in
theorem all1_in (n l : Nat) (p : Option Nat) (m : List Ent) (Bk Bm : Nat) (ao : Option Addr) (cap : Nat) (Kp : World → World → Prop) (hKp : ∀ A B, Ap p m Bk Bm ao cap A → Kp A B → Ap p m Bk Bm ao cap B) (J Jx : List Ent → World → Prop) (hJ : ∀ pre A B, J pre A → Kept (fun _ => False) A B → J pre B)
    (hY : ∀ pre x W1, J pre W1 → GE x W1 → pre.length < m.length → YieldAt Fence.wide (n - 1) Tryz.prog l (encE x) W1 fun e W' => (e = .returned (.bool true) ∧ J (pre ++ [x]) W' ∧ Kp W1 W') ∨ (e = .returned (.bool false) ∧ Jx (pre ++ [x]) W'))
    (W : World) (hA : Ap p m Bk Bm ao cap W) (hL : ∀ e ∈ m, Len8 e.1) (h0 : J [] W) (hlen : m.length ≤ 1000000) (hn : 1 ≤ n) :
    CallsIn Fence.wide n Tryz.prog 84 #[.func (.yield l) #[] #[], .pointer (some ⟨Bk, 0, none⟩), .pointer (some ⟨Bm, 0, none⟩)] W fun e W' => (∃ v, e = .returned v) ∧
      ((∃ ys, dds ys = dds m ∧ J ys W') ∨ (∃ pre, (∃ j, dds pre = (dds m).take j) ∧ Jx pre W')) := by
  have hro : Fence.wide.round = none := rfl
  have hk0 := hA.cell
  have HKP := Lib.hid hKp; have HJ := Lib.hid hJ; have HY := Lib.hid hY; have HA := Lib.hid hA; have HL := Lib.hid hL; have H0 := Lib.hid h0
  clear hKp hJ hY hA hL h0
  refine callsIn_of_wp Tryz.func84 rfl trivial ?_ hro
  simp only [Tryz.ntmps84, List.size_toArray, List.length_cons, List.length_nil, Nat.reduceAdd, Nat.reduceSub, Array.replicate_succ, Array.replicate_zero, List.push_toArray, List.append_toArray, List.nil_append, List.cons_append]
  gi_wp2
  clear hk0
  gi_loopw [8] (fun i wr => ∃ (j : Nat) (pre : List Ent), j ≤ m.length ∧ i = .int .i64 (j : Int) ∧ Hid (dds pre = (dds m).take j) ∧ Hid (J pre wr) ∧ Hid (Ap p m Bk Bm ao cap wr))
    (fun i _ => m.length - (intOf i).toNat)
  case atStart => exact ⟨0, [], Nat.zero_le _, rfl, Lib.hid rfl, H0, HA⟩
  case round =>
    obtain ⟨j, pre, hj, rfl, hpre, hJs, hAp⟩ := hrel
    by_cases hlt : j < m.length
    · obtain ⟨xb, xo, rfl, _, hc⟩ := hAp.out.keys (by intro h; simp [strs] at h; rw [h] at hlt; simp at hlt)
      have hmem := List.getElem_mem hlt
      have hx : wr.cell? ⟨xb, xo + j, none⟩ = some (.string (bs (keyE m[j]))) := hc j _ (by simp [strs, hlt])
      have htab := hAp.out.tab
      have HLE := Lib.hid (HL.out m[j] hmem)
      have hlk := (hAp.out.tb.look hmem (key_len HLE.out)).2
      have HLI := Lib.hid (hAp.out.tb.lies m[j] hmem)
      have HRT := Lib.hid (hAp.out.tb.right m[j] hmem)
      have HTK := Lib.hid (dds_take m j hlt)
      have i1 : (j : Int) < (m.length : Int) := by omega
      clear hc hmem
      generalize m[j] = x at *
      obtain ⟨d, dao, dcap⟩ := x
      unfold valE at hlk
      dsimp only at hlk HLE HLI HRT HTK
      gi_wp2_with fail
      refine ⟨trivial, (callsIn_wide.2 (copy_any d dao dcap wr.heap.size wr HLI.out.1 HLE.out)).mono ?_⟩
      rintro e w3 ⟨ao3, cap3, rfl, ho3, k3⟩
      have GX := Lib.hid (show GE (d, ao3, cap3) w3 from ⟨owns_lies ho3, owns_cap ho3, HRT.out, fun hv => owns_off ho3 (by simpa using hv)⟩)
      have J3 := Lib.hid (HJ.out _ _ _ hJs.out k3); have A3 := Lib.hid (hAp.out.keep k3)
      obtain ⟨fn, tmps, assign, body, hy, hR⟩ := HY.out pre (d, ao3, cap3) w3 J3.out GX.out (by have := congrArg List.length hpre.out; rw [dds_len, List.length_take, dds_len] at this; omega)
      unfold encE at hy
      dsimp only at hy
      have HR := Lib.hid hR
      clear hR k3 ho3 hlk htab hx
      unfold valE
      dsimp only
      gi_wp2_with fail
      refine HR.out.mono ?_
      rintro e W3 (⟨rfl, hJ3, hk3⟩ | ⟨rfl, hJx3⟩)
      · have HJ3 := Lib.hid hJ3; have HA4 := Lib.hid (HKP.out _ _ A3.out hk3); clear hJ3 hk3
        gi_wp2
        go_roundw
        case rel =>
          refine ⟨j + 1, pre ++ [(d, ao3, cap3)], by omega, by go_num, Lib.hid ?_, HJ3, HA4⟩
          rw [HTK.out, ← hpre.out]
          simp [dds]
        case measure => simp [intOf]; omega
      · have HJx3 := Lib.hid hJx3; clear hJx3
        gi_wp2
        refine bodyPost_ret (results_none rfl _ _ _) rfl ?_
        exact ⟨⟨_, rfl⟩, .inr ⟨_, ⟨j + 1, by rw [HTK.out, ← hpre.out]; simp [dds]⟩, HJx3.out⟩⟩
    · obtain rfl : j = m.length := by omega
      gi_wp2
      go_end0
      exact ⟨⟨_, rfl⟩, .inl ⟨pre, by rw [hpre.out, ← dds_len, List.take_length], hJs.out⟩⟩

theorem all1_seq (n : Nat) (hn : 1 ≤ n) (p : Option Nat) (m : List Ent) (Bk Bm : Nat) (ao : Option Addr) (cap : Nat) (Kp : World → World → Prop) (hKp : ∀ A B, Ap p m Bk Bm ao cap A → Kp A B → Ap p m Bk Bm ao cap B) (w : World) (hA : Ap p m Bk Bm ao cap w) (hL : ∀ e ∈ m, Len8 e.1) (hlen : m.length ≤ 1000000) :
    SeqG n Tryz.prog 84 #[.pointer (some ⟨Bk, 0, none⟩), .pointer (some ⟨Bm, 0, none⟩)] encE GE Kp (fun ys => dds ys = dds m) (fun pre => ∃ j, dds pre = (dds m).take j) m.length w := fun l J Jx W hW hJ hY h0 =>
  all1_in n l p m Bk Bm ao cap Kp hKp J Jx hJ hY W (hA.keep (kept_of_belowsize hW)) hL h0 hlen hn

end Go.Proofs.YtecjecdgjmipcaaGreat

/-
  CONTRACTS of package snap: Write.
-/
namespace Go.Proofs.YtecjecdgjmipcaaGreat
open Go.RowKit Go.Mk Go.Maps Go.Shelf

theorem nm_len {l : List UInt8} (h : isNm l = true) : l.length ≤ 40 := by
  simp [isNm, lenIn] at h
  exact h.1.1.2

theorem flat_le (ps : List (List UInt8)) (k : Nat) (h : ∀ x ∈ ps, x.length ≤ k) : ps.flatten.length ≤ k * ps.length := by
  induction ps with
  | nil => simp
  | cons x ps ih =>
    have h1 := h x (by simp)
    have h2 := ih (fun y hy => h y (by simp [hy]))
    simp only [List.flatten_cons, List.length_append, List.length_cons, Nat.mul_add]
    omega

theorem sel_len {l : List UInt8} (h : isSel l = true) : l.length ≤ 410 := by
  unfold isSel at h
  have h := of_decide_eq_true h
  unfold kindL at h
  split at h
  · rename_i h1
    simp [isUn] at h1
    have := nm_len h1.1
    omega
  · split at h
    · rename_i h1
      simp [isBi, lenIn] at h1
      omega
    · split at h
      · simp at h
      · rename_i h1
        unfold kwL at h1
        split at h1
        · rename_i h2
          obtain ⟨a1, a2, a3⟩ := h2
          have hf := cutL_flat l
          rw [a1, List.append_nil] at hf
          have := flat_le (cutL l).1 41 (fun x hx => by
            have := List.all_eq_true.1 a3 x hx
            simp only [goodP, isUn, Bool.and_eq_true] at this
            have := nm_len this.1
            rw [List.length_dropLast] at this
            omega)
          rw [hf] at this
          omega
        · simp at h1

/-- A valid definition is small. -/
theorem right_small {d : DD} (h : rightD d = true) : SmallD d := by
  rcases right_kind h with hk | hk
  · rw [rightD_one hk] at h
    simp only [rightC, ownCl, Bool.and_eq_true] at h
    obtain ⟨⟨⟨⟨⟨h1, _⟩, h2⟩, h3⟩, h4⟩, h5⟩ := h
    simp only [isCl, Bool.and_eq_true] at h1 h2
    have e4 : d.s = [] := by simpa using h4
    have e5 : d.t = [] := by simpa using h5
    simp only [areVars, Bool.and_eq_true, decide_eq_true_eq] at h3
    refine ⟨by have := nm_len h1.1; omega, by have := nm_len h2.1; omega, by omega, by rw [e4]; simp, by rw [e5]; simp, fun x hx => ?_⟩
    obtain ⟨i, hi, rfl⟩ := List.mem_iff_getElem.1 hx
    have hv := List.all_eq_true.1 (show varsTo d.vs d.vs.length = true from h3.2) i (List.mem_range.2 hi)
    rw [varAt_lt hi] at hv
    simp only [isVa, isUn, Bool.and_eq_true] at hv
    have := nm_len hv.1.1.1
    omega
  · rw [rightD_two hk] at h
    simp only [rightM, isCl, Bool.and_eq_true, decide_eq_true_eq] at h
    obtain ⟨⟨⟨⟨h1, h2⟩, h3⟩, h4⟩, h5⟩ := h
    have e4 : d.p = [] := by simpa using h4
    have e5 : d.vs = [] := by simpa using h5
    exact ⟨by have := nm_len h1.1; omega, by rw [e4]; simp, by rw [e5]; simp, by have := sel_len h2; omega, by omega, by rw [e5]; simp⟩

/-- The octets of definitions, one behind the other. -/
def octsL (l : List DD) : List UInt8 := (l.map octD).flatten
def octS (l : List DD) : List UInt8 := bigB 4 l.length ++ octsL l

theorem octsL_len (l : List DD) (h : ∀ d ∈ l, SmallD d) : (octsL l).length ≤ 10000 * l.length := by
  unfold octsL
  have := flat_le (l.map octD) 10000 (fun x hx => by
    obtain ⟨d, hd, rfl⟩ := List.mem_map.1 hx
    exact octD_len d (h d hd))
  rwa [List.length_map] at this

theorem octsL_snoc (l : List DD) (d : DD) : octsL (l ++ [d]) = octsL l ++ octD d := by simp [octsL]

theorem lies_val {w : World} {B : Nat} {ao : Option Addr} {v : Value} {vs : List Value} (h : Lies w B ao (v :: vs)) : ∃ b off, ao = some ⟨b, off, none⟩ ∧ b < B ∧ w.cell? ⟨b, off, none⟩ = some v := by
  obtain ⟨b, off, e, hb, hc⟩ := h (by simp)
  exact ⟨b, off, e, hb, hc 0 v rfl⟩

theorem WrF.keptF {w w' : World} {F S : Nat → Prop} {b : Nat} {s : WS} (h : WrF w F b s) (hk : Kept S w w') (hd : ∀ k, F k → ¬ S k) : WrF w' F b s := by
  obtain ⟨hlo, ao, cap, hw, hr⟩ := h
  have hlt := hw.lt
  exact ⟨hlo, ao, cap, ⟨(hk.cell (p := ⟨b, 0, none⟩) hlt (hd b hlo)).trans hw.c0, (hk.cell (p := ⟨b, 1, none⟩) hlt (hd b hlo)).trans hw.c1, (hk.frozen (p := ⟨b, 0, none⟩) hlt (hd b hlo)).trans hw.f0, (hk.frozen (p := ⟨b, 1, none⟩) hlt (hd b hlo)).trans hw.f1, owns_kept hw.own hk (fun k hk' => hd k (hr k (by rw [← own_any]; exact hk'))), hw.ne⟩, hr⟩

/-- A writer that has written something: its blocks hold no row of texts. -/
theorem WrF.apart {w : World} {F : Nat → Prop} {b : Nat} {s : WS} (h : WrF w F b s) (hs : s.out ≠ []) {B g : Nat} {vs : List (List UInt8)} (hL : Lies w B (some ⟨g, 0, none⟩) (strs vs)) (hv : vs ≠ []) : WrF w (fun k => F k ∧ k ≠ g) b s := by
  obtain ⟨hlo, wo, wc, hw, hr⟩ := h
  cases vs with
  | nil => exact (hv rfl).elim
  | cons t vs =>
    obtain ⟨g', off, e, _, hc⟩ := lies_val (show Lies w B (some ⟨g, 0, none⟩) (.string (bs t) :: strs vs) from hL)
    cases e
    refine ⟨⟨hlo, fun e => ?_⟩, wo, wc, hw, fun k hk => ⟨hr k hk, fun e => ?_⟩⟩
    · have h0 := hw.c0
      rw [e, hc] at h0
      cases h0
    · subst e
      have h0 := hw.own
      cases ho : s.out with
      | nil => exact hs ho
      | cons q o =>
        rw [ho] at h0
        have h1 := h0.cells (g := k) (by rw [own_any]; exact hk) 0 (bv q) (by simp)
        rw [Addr.add_lit, Nat.zero_add, hc] at h1
        cases h1

set_option maxRecDepth 100000 in
set_option maxHeartbeats 2000000 in
theorem swrite_any (v : Value) (l : List DD) (w : World) (hs : Sn w v l) (hl : l.length ≤ 600) :
    Calls Tryz.prog 30 #[v] w fun e w' => ∃ ao cap, e = .returned (.slice ao (octS l).length cap) ∧ w'.ownsRow w.heap.size 5 1 (.slice ao (octS l).length cap) (octS l).length ((octS l).map bv) ∧ Kept (fun _ => False) w w' := by
  obtain ⟨p, m, hp, ht, rfl⟩ := hs
  change Calls _ _ _ _ (fun e w' => ∃ ao cap, e = .returned (.slice ao (octS (dds m)).length cap) ∧ w'.ownsRow w.heap.size 5 1 (.slice ao (octS (dds m)).length cap) (octS (dds m)).length ((octS (dds m)).map bv) ∧ Kept (fun _ => False) w w')
  have HP := Lib.hid hp; have HT := Lib.hid ht
  have HML := Lib.hid (show m.length ≤ 600 by simpa using hl)
  have KA := Lib.hid ((Kept.refl (fun _ => False) w).alloc (.cells #[.slice none 0 0, .int .i64 0] 88))
  have HLEN := Lib.hid (slen_any (show Sn (w.alloc (.cells #[.slice none 0 0, .int .i64 0] 88)) v (dds m) from ⟨p, m, hp.keep KA.out, ht.keep KA.out, rfl⟩))
  have WN := Lib.hid (WrF.new w (fun k => w.heap.size ≤ k) (fun k hk => hk) 88)
  rw [dds_len] at HLEN
  clear hp ht hl
  refine (callsIn_wide (n := 5)).1 ?_
  refine callsIn_of_wp_marks Tryz.func30 rfl trivial ?_ rfl
  refine wpIn_wide.2 ?_
  simp only [Tryz.ntmps30, List.size_toArray, List.length_cons, List.length_nil, Nat.reduceAdd, Nat.reduceSub, Array.replicate_succ, Array.replicate_zero, List.push_toArray, List.append_toArray, List.nil_append, List.cons_append]
  go_wp2_with fail
  refine HLEN.out.mono ?_
  rintro e w1 ⟨rfl, hw1⟩
  rw [hw1] at WN KA
  clear hw1 HLEN
  have hz1 := KA.out.size
  go_wp2_with fail
  refine (WN.out.num (fun k hk => by omega) _ (by simp)).mono ?_
  rintro e w2 ⟨rfl, h2, k2⟩
  rw [WS.num_ok _ m.length rfl (by have := HML.out; omega), List.nil_append] at h2
  have W2 := Lib.hid h2
  have K2 := Lib.hid (KA.out.trans k2 (fun i hi h => by omega))
  have hz2 := k2.size
  clear h2 k2 WN
  go_wp2_with fail
  refine (all_any v p m w2 (HP.out.keep K2.out) (HT.out.keep K2.out) (by have := HML.out; omega)).mono ?_
  rintro e w3 ⟨Bk, Bm, rfl, hal⟩
  have hz3 := hal.k.size
  obtain ⟨ko, kc, hap, hown⟩ := hal.ap
  have AL := Lib.hid hal; have AP := Lib.hid hap; have KO := Lib.hid hown
  have W3 := Lib.hid (W2.out.kept (keeps_below7 hal.k))
  clear hal hap hown
  go_wp2_with fail
  obtain ⟨Sb, hSb⟩ : ∃ Sb : Nat → Prop, Sb = fun k => (w.heap.size ≤ k ∧ k < w2.heap.size) ∨ w3.heap.size + 1 < k := ⟨_, rfl⟩
  have s1 : ¬ Sb w3.heap.size := by rw [hSb]; simp; omega
  have s2 : ¬ Sb (w3.heap.size + 1) := by rw [hSb]; simp; omega
  have s3 : ∀ k, w3.heap.size + 1 < k → Sb k := fun k hk => by rw [hSb]; exact .inr hk
  have s4 : ∀ k, Sb k → w.heap.size ≤ k := fun k hk => by rw [hSb] at hk; rcases hk with hk | hk <;> omega
  have W4 : WrF w3 Sb w.heap.size ⟨bigB 4 m.length, 0⟩ := (W2.out.in (F' := Sb) (fun k hk hf => by rw [hSb]; exact .inl ⟨hf, hk⟩)).kept (keeps_below7 AL.out.k)
  have hkeys : m ≠ [] → ∀ a, ko = some a → w2.heap.size ≤ a.block ∧ a.block < w3.heap.size := fun hne a ha => by
    obtain ⟨g, hg⟩ := owns_off KO.out (by simpa using hne)
    rw [hg] at ha
    cases ha
    exact owns_lt KO.out g (by rw [hg]; rfl)
  have hrows : ∀ e ∈ m, e.1.vs ≠ [] → ∀ a, e.2.1 = some a → a.block < w.heap.size := fun e he hv a ha => by
    obtain ⟨g, off, e1, hb, _⟩ := (HT.out.lies e he).1 (by unfold strs; simpa using hv)
    rw [e1] at ha
    cases ha
    exact hb
  have htab : ∀ b, p = some b → b < w.heap.size := fun b hb => by
    rcases HT.out with ⟨h, _⟩ | ⟨b', h, hb'⟩
    · rw [h] at hb; cases hb
    · rw [h] at hb; cases hb; exact hb'.lt
  have hbk := World.block_lt_of_cell? _ _ AP.out.cell
  have hbm := World.block_lt_of_cell? _ _ AP.out.tab
  have hbk2 := AL.out.bk
  have hbm2 := AL.out.bm
  simp only at hbk hbm
  have hno : ∀ k, k < w.heap.size ∨ (w2.heap.size ≤ k ∧ k < w3.heap.size) → ¬ (Sb k ∨ k = w3.heap.size ∨ k = w3.heap.size + 1) := fun k hk h => by
    rw [hSb] at h
    rcases h with (h | h) | h | h <;> omega
  have KP : ∀ A B, Ap p m Bk Bm ko kc A → Kept (fun k => Sb k ∨ k = w3.heap.size ∨ k = w3.heap.size + 1) A B → Ap p m Bk Bm ko kc B := fun A B hA hk =>
    hA.kept hk (hno _ (.inr ⟨hbk2, hbk⟩)) (hno _ (.inr ⟨hbm2, hbm⟩)) (fun hne a ha => hno _ (.inr (hkeys hne a ha))) (fun b hb => hno _ (.inl (htab b hb))) (fun e he hv a ha => hno _ (.inl (hrows e he hv a ha)))
  have L8 : ∀ e ∈ m, Len8 e.1 := fun e he => by
    have h := right_small (HT.out.right e he)
    exact ⟨Nat.le_trans h.c (by omega), Nat.le_trans h.p (by omega), Nat.le_trans h.s (by omega), Nat.le_trans h.t (by omega), Nat.le_trans h.n (by omega), fun x hx => Nat.le_trans (h.v x hx) (by omega)⟩
  have HS1 := Lib.hid s1; have HS2 := Lib.hid s2; have HS3 := Lib.hid s3; have HS4 := Lib.hid s4; have HW4 := Lib.hid W4; have HKPP := Lib.hid KP; have HL8 := Lib.hid L8
  have K3 := Lib.hid (K2.out.trans AL.out.k (fun _ _ h => h))
  clear hkeys hrows htab hno KP L8 W4 s1 s2 s3 s4 hbk hbm hbk2 hbm2 hSb
  refine (wpIn_wide (n := 4)).1 ?_
  refine wpIn_rangeG (P := Tryz.prog) (n := 4) (by omega) (gf := 84) (lb := #[.pointer (some ⟨Bk, 0, none⟩), .pointer (some ⟨Bm, 0, none⟩)]) rfl (enters_of Tryz.func84 (by kernel_rfl) rfl)
    Sb HS1.out HS2.out (all1_seq 3 (by omega) p m Bk Bm ko kc _ HKPP.out w3 AP.out HL8.out (by have := HML.out; omega)) (Below.refl _ _) (fun _ => rfl)
    (fun pre W => WrF W Sb w.heap.size ⟨bigB 4 m.length ++ octsL (dds pre), 0⟩ ∧ (∀ e ∈ pre, rightD e.1 = true) ∧ Kept (fun k => w.heap.size ≤ k) w W) (fun _ _ => False) ?hI (fun _ _ _ h _ => h) ?hG ?h0
    (fun x a' W => ∃ bx, w3.heap.size + 1 < bx ∧ Bx W bx x.2.1 x.2.2 x.1 ∧ a' = { tmps := #[v, undef, .slice none 0 0, .pointer (some ⟨w.heap.size, 0, none⟩), .pointer (some ⟨bx, 0, none⟩), v, .int .i64 (m.length : Int), .tuple #[], v, .func (.func 84) #[] #[.pointer (some ⟨Bk, 0, none⟩), .pointer (some ⟨Bm, 0, none⟩)], .agg #[.int .i64 x.1.k, .string (bs x.1.c), .string (bs x.1.p), .slice x.2.1 x.1.vs.length x.2.2, .string (bs x.1.s), .string (bs x.1.t)], undef, undef, undef], defers := [] })
    ?hAx ?assign ?body ?done (fun _ _ _ h => h.elim)
  case hI =>
    rintro pre A B ⟨h1, h2, h3⟩ hk
    exact ⟨h1.keptF hk (fun k hf h => by rcases h with rfl | rfl; exact HS1.out hf; exact HS2.out hf), h2, h3.trans hk (fun i hi h => by have := K3.out.size; omega)⟩
  case hG =>
    rintro x A B hx h1 h2 hk
    exact hx.over h1 h2 hk
  case h0 => exact ⟨by simpa [octsL, dds] using HW4.out, by simp, K3.out.mono (fun _ _ h => h.elim)⟩
  case hAx =>
    rintro x a' A B ⟨bx, h1, h2, h3⟩ hk
    exact ⟨bx, h1, h2.kept hk (by omega), h3⟩
  case assign =>
    rintro l pre x W K hi hg hlt hK
    unfold encE
    go_simp
    have HKK := Lib.hid hK; have HB := Lib.hid (bx_new W x.2.1 x.2.2 x.1 49)
    clear hK hi hg
    refine wpIn_region_plain l _ (by rintro ⟨a, w, h⟩; exact h) (by kernel_rfl) ?_
    go_wp2
    exact HKK.out _ _ ((Kept.refl _ W).alloc _) ⟨W.heap.size, hlt, HB.out, rfl⟩
  case body =>
    rintro l pre x a' W ⟨h1, h2, h3⟩ hg ⟨bx, hb1, hb2, rfl⟩ hlt hN
    have HG := Lib.hid hg; have H1 := Lib.hid h1; have H2 := Lib.hid h2; have H3 := Lib.hid h3
    have hsm := right_small hg.right
    have hlen : (bigB 4 m.length ++ octsL (dds pre)).length ≤ 10000000 := by
      have := octsL_len (dds pre) (fun d hd => by obtain ⟨e, he, rfl⟩ := List.mem_map.1 hd; exact right_small (h2 e he))
      rw [dds_len] at this
      rw [List.length_append, bigB_length]
      have := HML.out
      omega
    have hne : (bigB 4 m.length ++ octsL (dds pre)) ≠ [] := fun e => by have := congrArg List.length e; rw [List.length_append, bigB_length] at this; simp at this
    have HDW := Lib.hid (show Calls Tryz.prog 61 #[.pointer (some ⟨w.heap.size, 0, none⟩), .agg #[.int .i64 x.1.k, .string (bs x.1.c), .string (bs x.1.p), .slice x.2.1 x.1.vs.length x.2.2, .string (bs x.1.s), .string (bs x.1.t)]] W (WrFPost W Sb w.heap.size ⟨bigB 4 m.length ++ octsL (dds (pre ++ [x])), 0⟩) by
      have e1 : writeD ⟨bigB 4 m.length ++ octsL (dds pre), 0⟩ x.1 = ⟨bigB 4 m.length ++ octsL (dds (pre ++ [x])), 0⟩ := by
        rw [writeD_right _ _ hg.right hsm, List.append_assoc, ← octsL_snoc]
        simp [dds]
      rw [← e1]
      by_cases hv : x.1.vs = []
      · exact dwrite7_any h1 (fun k hk => HS3.out k (by omega)) x.1 x.2.1 x.2.2 hg.lies (fun h => (h hv).elim) hg.cap hsm hlen
      · obtain ⟨g, hgo⟩ := hg.off hv
        have hL := hg.lies
        rw [hgo] at hL
        have hw' := h1.apart hne hL hv
        have hlg : g < W.heap.size := by
          obtain ⟨b', off', e', hb', _⟩ := hL (by unfold strs; simpa using hv)
          cases e'
          exact hb'
        refine (dwrite7_any hw' (fun k hk => ⟨HS3.out k (by omega), by omega⟩) x.1 x.2.1 x.2.2 hg.lies (fun _ a ha h => by rw [hgo] at ha; cases ha; exact h.2 rfl) hg.cap hsm hlen).mono ?_
        rintro e W' ⟨he, hw2, hk2⟩
        exact ⟨he, hw2.in (fun _ _ h => h.1), hk2.mono (fun _ _ h => h.1)⟩)
    obtain ⟨c0, c1, c2, c3, c4, c5⟩ := hb2
    clear h1 h2 h3 hg hsm hlen hne
    refine wpIn_block ?_
    refine wpIn_region_plain l _ (by rintro ⟨a, w, h⟩; exact h) (by kernel_rfl) ?_
    go_wp2_with fail
    refine HDW.out.mono ?_
    rintro e W' ⟨rfl, hw5, hk5⟩
    have W5 := Lib.hid hw5; have K5 := Lib.hid hk5; clear hw5 hk5
    go_wp2
    refine ⟨K5.out, W5.out, fun e he => ?_, H3.out.trans K5.out (fun i hi h => HS4.out i h)⟩
    rcases List.mem_append.1 he with he | he
    · exact H2.out e he
    · rw [List.mem_singleton] at he
      subst he
      exact HG.out.right
  case done =>
    rintro xs W hS ⟨h1, h2, h3⟩ hd
    rw [hS] at h1
    have hlen : (octS (dds m)).length ≤ 10000000 := by
      have := octsL_len (dds m) (fun d hd => by obtain ⟨e, he, rfl⟩ := List.mem_map.1 hd; exact right_small (HT.out.right e he))
      unfold octS
      rw [List.length_append, bigB_length]
      rw [dds_len] at this
      have := HML.out
      omega
    have H1 := Lib.hid (show WrF W Sb w.heap.size ⟨octS (dds m), 0⟩ by unfold octS; rw [dds_len]; exact h1)
    have H3 := Lib.hid h3; have HD := Lib.hid hd; have HLN := Lib.hid hlen
    clear h1 h2 h3 hd hlen hS
    obtain ⟨o, ho⟩ : ∃ o, octS (dds m) = o := ⟨_, rfl⟩
    rw [ho] at H1 HLN
    have HOE := Lib.hid ho; clear ho
    go_wp2_with fail
    refine (H1.out.bytes (by have := HLN.out; dsimp only; omega)).mono ?_
    rintro e w5 ⟨ao5, cap5, rfl, ho5, b5⟩
    have hD5 : w5.heap[w3.heap.size]? = some (.deferred (some [])) := (b5.block _ (Array.getElem?_eq_some_iff.1 HD.out).1).trans HD.out
    have hgo : ∀ k, (Value.slice ao5 o.length cap5).ownBlock = some k → k ≠ w3.heap.size := fun k hk => by
      have := (owns_lt ho5 k hk).1
      have := (Array.getElem?_eq_some_iff.1 HD.out).1
      omega
    have HD5 := Lib.hid hD5; have HO5 := Lib.hid ho5; have B5 := Lib.hid b5; have HGO := Lib.hid hgo
    clear hD5 ho5 b5 hgo
    go_wp2
    refine ⟨by simp, .inl ⟨_, _, rfl, run_takeDeferred HD5.out, ?_⟩⟩
    have kd := kept_putObj w5 w3.heap.size (.deferred none)
    have e := HOE.out
    subst e
    refine ⟨_, results_tmp rfl _ _ _, ao5, cap5, rfl, owns_base (owns_kept HO5.out kd (fun k hk => HGO.out k hk)) (fun k hk => Nat.le_trans H3.out.size (owns_lt HO5.out k hk).1), ?_⟩
    have k5 : Kept (fun _ => False) w w5 := (H3.out.trans (kept_of_belowsize B5.out) (fun _ _ h => h.elim)).mono (fun k hk h => by omega)
    exact k5.trans kd (fun i hi h => by have := K3.out.size; omega)

end Go.Proofs.YtecjecdgjmipcaaGreat

/-
  law08.Is: has a snapshot just these definitions?
-/
namespace Go.Proofs.YtecjecdgjmipcaaGreat
open Go.RowKit Go.Mk Go.Maps Go.Shelf

theorem load_cell {P : Program} {ty : TypeId} {a : Addr} {v : Value} {w : World} (hagg : ∀ w, (isAgg ty).run P w = .ok false w) (hc : w.cell? a = some v) : (loadVar ty a).run P w = .ok v w := by
  simp [loadVar, hagg, hc, go_sem]

/-- Is under way: the list's box, the counter, the answer. -/
structure Iz (w : World) (la : Option Addr) (lc n j : Nat) (W : World) : Prop where
  c : W.cell? ⟨w.heap.size, 0, none⟩ = some (.slice la n lc)
  r : W.cell? ⟨w.heap.size + 1, 0, none⟩ = some (.bool false)
  rf : W.frozen? ⟨w.heap.size + 1, 0, none⟩ = false
  i : W.cell? ⟨w.heap.size + 2, 0, none⟩ = some (.int .i64 (j : Int))
  jf : W.frozen? ⟨w.heap.size + 2, 0, none⟩ = false
  k : Kept (fun k => w.heap.size ≤ k) w W

theorem Iz.kept {S : Nat → Prop} {w : World} {la : Option Addr} {lc n j : Nat} {A B : World} (h : Iz w la lc n j A) (hk : Kept S A B) (h0 : ∀ k, S k → w.heap.size + 3 ≤ k) : Iz w la lc n j B :=
  ⟨(hk.cell (p := ⟨w.heap.size, 0, none⟩) (World.block_lt_of_cell? _ _ h.c) (fun e => by have := h0 _ e; simp at this; omega)).trans h.c,
    (hk.cell (p := ⟨w.heap.size + 1, 0, none⟩) (World.block_lt_of_cell? _ _ h.r) (fun e => by have := h0 _ e; simp at this)).trans h.r,
    (hk.frozen (p := ⟨w.heap.size + 1, 0, none⟩) (World.block_lt_of_cell? _ _ h.r) (fun e => by have := h0 _ e; simp at this)).trans h.rf,
    (hk.cell (p := ⟨w.heap.size + 2, 0, none⟩) (World.block_lt_of_cell? _ _ h.i) (fun e => by have := h0 _ e; simp at this)).trans h.i,
    (hk.frozen (p := ⟨w.heap.size + 2, 0, none⟩) (World.block_lt_of_cell? _ _ h.i) (fun e => by have := h0 _ e; simp at this)).trans h.jf,
    h.k.trans hk (fun i hi e => by have := h0 _ e; omega)⟩

theorem Iz.next {w : World} {la : Option Addr} {lc n j : Nat} {A : World} (h : Iz w la lc n j A) : Iz w la lc n (j + 1) (A.setCell ⟨w.heap.size + 2, 0, none⟩ (.int .i64 ((j : Int) + 1))) := by
  refine ⟨?_, ?_, ?_, ?_, ?_, Kept.setCell (p := ⟨w.heap.size + 2, 0, none⟩) h.k (fun _ => by simp) _⟩
  · rw [World.cell?_setCell_other _ _ _ _ (by simp)]; exact h.c
  · rw [World.cell?_setCell_other _ _ _ _ (by simp)]; exact h.r
  · rw [World.frozen?_setCell]; exact h.rf
  · rw [World.cell?_setCell_same _ _ _ h.i]; simp
  · rw [World.frozen?_setCell]; exact h.jf

theorem take_len {α : Type} (l : List α) (j : Nat) : l.take (l.take j).length = l.take j := by
  rw [List.length_take]
  by_cases h : j ≤ l.length
  · rw [Nat.min_eq_left h]
  · rw [Nat.min_eq_right (by omega), List.take_length, List.take_of_length_le (by omega)]

def isL (l m : List DD) : Bool := decide (l = m)

set_option maxRecDepth 100000 in
set_option maxHeartbeats 2000000 in
theorem is_any (v : Value) (l : List DD) (la : Option Addr) (lc : Nat) (es : List Ent) (w : World) (hs : Sn w v l) (hD : Ds w w.heap.size la es) (hl : l.length ≤ 600) (hv : ∀ e ∈ es, e.1.vs.length ≤ 1000000) :
    Calls Tryz.prog 20 #[v, .slice la es.length lc] w fun e w' => e = .returned (.bool (isL l (dds es))) ∧ Kept (fun _ => False) w w' := by
  obtain ⟨p, m, hp, ht, rfl⟩ := hs
  change Calls _ _ _ _ (fun e w' => e = .returned (.bool (isL (dds m) (dds es))) ∧ Kept (fun _ => False) w w')
  have HP := Lib.hid hp; have HT := Lib.hid ht; have HD := Lib.hid hD; have HV := Lib.hid hv
  have HML := Lib.hid (show m.length ≤ 600 by simpa using hl)
  obtain ⟨wA, hwA⟩ : ∃ wA, (w.alloc (.cells #[.slice la es.length lc] 22)).alloc (.cells #[.bool false] 4) = wA := ⟨_, rfl⟩
  have KA := Lib.hid (show Kept (fun _ => False) w wA by rw [← hwA]; exact ((Kept.refl (fun _ => False) w).alloc _).alloc _)
  have ZA := Lib.hid (show wA.heap.size = w.heap.size + 2 by rw [← hwA]; simp)
  have CA := Lib.hid (show wA.cell? ⟨w.heap.size, 0, none⟩ = some (.slice la es.length lc) by
    rw [← hwA, World.cell?_alloc_lt _ _ _ (by simp)]; exact World.cell?_alloc_new w _ _ 0)
  have RA := Lib.hid (show wA.cell? ⟨w.heap.size + 1, 0, none⟩ = some (.bool false) by
    rw [← hwA]; have := World.cell?_alloc_new (w.alloc (.cells #[.slice la es.length lc] 22)) #[.bool false] 4 0; rwa [World.size_alloc] at this)
  have FA := Lib.hid (show wA.frozen? ⟨w.heap.size + 1, 0, none⟩ = false by rw [← hwA]; simp)
  have HLEN := Lib.hid (fun (wx : World) (h : Kept (fun _ => False) w wx) => slen_any (show Sn wx v (dds m) from ⟨p, m, hp.keep h, ht.keep h, rfl⟩))
  rw [dds_len] at HLEN
  clear hp ht hl hD hv
  refine (callsIn_wide (n := 5)).1 ?_
  refine callsIn_of_wp_marks Tryz.func20 rfl trivial ?_ rfl
  refine wpIn_wide.2 ?_
  simp only [Tryz.ntmps20, List.size_toArray, List.length_cons, List.length_nil, Nat.reduceAdd, Nat.reduceSub, Array.replicate_succ, Array.replicate_zero, List.push_toArray, List.append_toArray, List.nil_append, List.cons_append]
  go_upto_region 1 with fail
  clear hwA
  have hS : wA.drew.cell? ⟨w.heap.size, 0, none⟩ = some (.slice la es.length lc) := CA.out
  have KD := Lib.hid (KA.out.drew)
  refine wp_onlyN ?_
  go_region_held (fun w' => w'.cell? ⟨w.heap.size, 0, none⟩ = some (.slice la es.length lc)) (with_reducible assumption) (first
    | (go_at_call 55; refine (HLEN.out _ KD.out).mono ?_; rintro e w1 ⟨rfl, hw1⟩; have hS1 := hS; rw [hw1] at hS1))
  simp only [onlyN]
  clear hS hS1
  have C1 := Lib.hid (show w1.cell? ⟨w.heap.size, 0, none⟩ = some (.slice la es.length lc) by rw [← hw1]; exact CA.out)
  have R1 := Lib.hid (show w1.cell? ⟨w.heap.size + 1, 0, none⟩ = some (.bool false) by rw [← hw1]; exact RA.out)
  have F1 := Lib.hid (show w1.frozen? ⟨w.heap.size + 1, 0, none⟩ = false by rw [← hw1]; exact FA.out)
  have K1 := Lib.hid (show Kept (fun _ => False) w w1 by rw [← hw1]; exact KD.out)
  have Z1 := Lib.hid (show w1.heap.size = w.heap.size + 2 by rw [← hw1]; exact ZA.out)
  clear hw1 CA RA FA KA ZA KD
  have r1 := R1.out
  have f1 := F1.out
  by_cases hne : m.length = es.length
  · have hq : ((m.length : Int) != (es.length : Int)) = false := by simp [hne]
    have HNE := Lib.hid hne; clear hne
    have KB := Lib.hid (K1.out.alloc (.cells #[.int .i64 0] 3))
    go_wp2_with fail
    refine (all_any v p m _ (HP.out.keep KB.out) (HT.out.keep KB.out) (by have := HML.out; omega)).mono ?_
    rintro e w3 ⟨Bk, Bm, rfl, hal⟩
    obtain ⟨wB, hwB⟩ : ∃ wB, w1.alloc (.cells #[.int .i64 0] 3) = wB := ⟨_, rfl⟩
    have I3 := Lib.hid (show w3.cell? ⟨w1.heap.size, 0, none⟩ = some (.int .i64 0) from (hal.k.cell (p := ⟨w1.heap.size, 0, none⟩) (by simp) (fun h => h)).trans (World.cell?_alloc_new w1 _ _ 0))
    have J3 := Lib.hid (show w3.frozen? ⟨w1.heap.size, 0, none⟩ = false from (hal.k.frozen (p := ⟨w1.heap.size, 0, none⟩) (by simp) (fun h => h)).trans (by simp))
    have K3 := Lib.hid (KB.out.trans hal.k (fun _ _ h => h))
    have M3 := Lib.hid (((Kept.refl (fun _ => False) w1).alloc (.cells #[.int .i64 0] 3)).trans hal.k (fun _ _ h => h))
    have ZB := Lib.hid (show (w1.alloc (.cells #[.int .i64 0] 3)).heap.size = w.heap.size + 3 by rw [World.size_alloc, Z1.out])
    have hz3 := hal.k.size
    rw [ZB.out] at hz3
    obtain ⟨ko, kc, hap, hown⟩ := hal.ap
    have hbk2 := hal.bk
    have hbm2 := hal.bm
    rw [ZB.out] at hown hbk2 hbm2
    have AP := Lib.hid hap; have KO := Lib.hid hown
    have C3 := Lib.hid ((M3.out.cell (p := ⟨w.heap.size, 0, none⟩) (World.block_lt_of_cell? _ _ C1.out) (fun h => h)).trans C1.out)
    have R3 := Lib.hid ((M3.out.cell (p := ⟨w.heap.size + 1, 0, none⟩) (World.block_lt_of_cell? _ _ R1.out) (fun h => h)).trans R1.out)
    have F3 := Lib.hid ((M3.out.frozen (p := ⟨w.heap.size + 1, 0, none⟩) (World.block_lt_of_cell? _ _ R1.out) (fun h => h)).trans F1.out)
    have z1 := Z1.out
    rw [z1] at I3 J3
    clear hal hap hown r1 f1 hwB
    go_wp2_with fail
    obtain ⟨Sb, hSb⟩ : ∃ Sb : Nat → Prop, Sb = fun k => (k = w.heap.size + 1 ∨ k = w.heap.size + 2) ∨ w3.heap.size + 1 < k := ⟨_, rfl⟩
    have s1 : ¬ Sb w3.heap.size := by rw [hSb]; simp; omega
    have s2 : ¬ Sb (w3.heap.size + 1) := by rw [hSb]; simp; omega
    have s3 : ∀ k, k = w.heap.size + 1 ∨ k = w.heap.size + 2 → Sb k := fun k hk => by rw [hSb]; exact .inl hk
    have hkeys : m ≠ [] → ∀ a, ko = some a → w.heap.size + 3 ≤ a.block ∧ a.block < w3.heap.size := fun hne a ha => by
      obtain ⟨g, hg⟩ := owns_off KO.out (by simpa using hne)
      rw [hg] at ha
      cases ha
      exact owns_lt KO.out g (by rw [hg]; rfl)
    have hrows : ∀ e ∈ m, e.1.vs ≠ [] → ∀ a, e.2.1 = some a → a.block < w.heap.size := fun e he hv a ha => by
      obtain ⟨g, off, e1, hb, _⟩ := (HT.out.lies e he).1 (by unfold strs; simpa using hv)
      rw [e1] at ha
      cases ha
      exact hb
    have htab : ∀ b, p = some b → b < w.heap.size := fun b hb => by
      rcases HT.out with ⟨h, _⟩ | ⟨b', h, hb'⟩
      · rw [h] at hb; cases hb
      · rw [h] at hb; cases hb; exact hb'.lt
    have hbk := World.block_lt_of_cell? _ _ AP.out.cell
    have hbm := World.block_lt_of_cell? _ _ AP.out.tab
    simp only at hbk hbm
    have hno : ∀ k, k < w.heap.size ∨ (w.heap.size + 3 ≤ k ∧ k < w3.heap.size) → ¬ (Sb k ∨ k = w3.heap.size ∨ k = w3.heap.size + 1) := fun k hk h => by
      rw [hSb] at h
      rcases h with ((h | h) | h) | h | h <;> omega
    have KP : ∀ A B, Ap p m Bk Bm ko kc A → Kept (fun k => Sb k ∨ k = w3.heap.size ∨ k = w3.heap.size + 1) A B → Ap p m Bk Bm ko kc B := fun A B hA hk =>
      hA.kept hk (hno _ (.inr ⟨hbk2, hbk⟩)) (hno _ (.inr ⟨hbm2, hbm⟩)) (fun hne a ha => hno _ (.inr (hkeys hne a ha))) (fun b hb => hno _ (.inl (htab b hb))) (fun e he hv a ha => hno _ (.inl (hrows e he hv a ha)))
    have HL8 := Lib.hid (show ∀ e ∈ m, Len8 e.1 from fun e he => by
      have h := right_small (HT.out.right e he)
      exact ⟨Nat.le_trans h.c (by omega), Nat.le_trans h.p (by omega), Nat.le_trans h.s (by omega), Nat.le_trans h.t (by omega), Nat.le_trans h.n (by omega), fun x hx => Nat.le_trans (h.v x hx) (by omega)⟩)
    have HS1 := Lib.hid s1; have HS2 := Lib.hid s2; have HS3 := Lib.hid s3; have HKPP := Lib.hid KP
    have IZ := Lib.hid (show Iz w la lc es.length 0 w3 from ⟨C3.out, R3.out, F3.out, I3.out, J3.out, K3.out.mono (fun _ _ h => h.elim)⟩)
    clear hkeys hrows htab hno KP s1 s2 s3 hbk hbm hbk2 hbm2 hSb
    refine (wpIn_wide (n := 4)).1 ?_
    refine wpIn_rangeG (P := Tryz.prog) (n := 4) (by omega) (gf := 84) (lb := #[.pointer (some ⟨Bk, 0, none⟩), .pointer (some ⟨Bm, 0, none⟩)]) rfl (enters_of Tryz.func84 (by kernel_rfl) rfl)
      Sb HS1.out HS2.out (all1_seq 3 (by omega) p m Bk Bm ko kc _ HKPP.out w3 AP.out HL8.out (by have := HML.out; omega)) (Below.refl _ _) (fun _ => rfl)
      (fun pre W => Iz w la lc es.length pre.length W ∧ dds pre = (dds es).take pre.length) (fun pre W => W.cell? ⟨w.heap.size + 1, 0, none⟩ = some (.bool false) ∧ Kept (fun k => w.heap.size ≤ k) w W ∧ ¬ dds pre = (dds es).take pre.length) ?hI ?hIx (fun x A B hx h1 h2 hk => hx.over h1 h2 hk) ⟨IZ.out, rfl⟩
      (fun x a' W => ∃ bx, w3.heap.size + 1 < bx ∧ Bx W bx x.2.1 x.2.2 x.1 ∧ a' = { tmps := #[v, .slice la es.length lc, undef, .pointer (some ⟨w.heap.size, 0, none⟩), .pointer (some ⟨w.heap.size + 1, 0, none⟩), .pointer (some ⟨w.heap.size + 2, 0, none⟩), .pointer (some ⟨bx, 0, none⟩), v, .int .i64 (m.length : Int), .slice la es.length lc, .int .i64 (es.length : Int), .bool false, v, .func (.func 84) #[] #[.pointer (some ⟨Bk, 0, none⟩), .pointer (some ⟨Bm, 0, none⟩)], .agg #[.int .i64 x.1.k, .string (bs x.1.c), .string (bs x.1.p), .slice x.2.1 x.1.vs.length x.2.2, .string (bs x.1.s), .string (bs x.1.t)], undef, undef, undef, undef, undef, undef, undef, undef, undef, undef, undef, undef, undef, undef, undef, undef, undef, undef, undef], defers := [] })
      ?hAx ?assign ?body ?done ?stop
    case hI =>
      rintro pre A B ⟨h1, h2⟩ hk
      exact ⟨h1.kept hk (fun k h => by rcases h with rfl | rfl <;> omega), h2⟩
    case hIx =>
      rintro pre A B ⟨h1, h2, h3⟩ hk
      exact ⟨(hk.cell (p := ⟨w.heap.size + 1, 0, none⟩) (World.block_lt_of_cell? _ _ h1) (by show ¬ (w.heap.size + 1 = w3.heap.size ∨ w.heap.size + 1 = w3.heap.size + 1); omega)).trans h1, h2.trans hk (fun i hi h => by rcases h with rfl | rfl <;> omega), h3⟩
    case hAx =>
      rintro x a' A B ⟨bx, h1, h2, h3⟩ hk
      exact ⟨bx, h1, h2.kept hk (by omega), h3⟩
    case assign =>
      rintro l pre x W K hi hg hlt hK
      unfold encE
      go_simp
      have HKK := Lib.hid hK; have HB := Lib.hid (bx_new W x.2.1 x.2.2 x.1 49)
      clear hK hi hg
      refine wpIn_region_plain l _ (by rintro ⟨a, w, h⟩; exact h) (by kernel_rfl) ?_
      go_wp2
      exact HKK.out _ _ ((Kept.refl _ W).alloc _) ⟨W.heap.size, hlt, HB.out, rfl⟩
    case body =>
      rintro l pre x a' W ⟨h1, h2⟩ hg ⟨bx, hb1, hb2, rfl⟩ hlt hN
      have hlt2 : pre.length < es.length := by have := HNE.out; omega
      obtain ⟨xb, xo, rfl, hxb, hrow⟩ := HD.out.row (by intro h; rw [h] at hlt2; simp at hlt2)
      have hmem := List.getElem_mem hlt2
      have hW : Kept (fun k => w.heap.size ≤ k) w W.drew := h1.k.drew
      obtain ⟨q0, q1, q2, q3, q4, q5⟩ := (hrow pre.length hlt2).kept hW (by omega)
      obtain ⟨c0, c1, c2, c3, c4, c5⟩ := hb2.kept (S := fun _ => False) (Kept.drew (Kept.refl _ W)) (fun h => h)
      have htk := dds_take es pre.length hlt2
      have HDL := Lib.hid (HD.out.lies es[pre.length] hmem)
      have HVL := Lib.hid (HV.out es[pre.length] hmem)
      generalize es[pre.length] = y at *
      have I0 := Lib.hid h1; have H2 := Lib.hid h2; have HG := Lib.hid hg; have HTK := Lib.hid htk
      have HSM := Lib.hid (rsame7_any x.1 y.1 x.2.1 y.2.1 x.2.2 y.2.2 W.heap.size W.drew (hg.lies.kept (S := fun _ => False) (Kept.drew (Kept.refl _ W)) (fun _ _ _ h => h)) ((HDL.out.1.kept hW (fun hn a ha => by
        obtain ⟨b', o', e', hb', _⟩ := HDL.out.1 hn
        rw [e'] at ha; cases ha; show ¬ w.heap.size ≤ b'; omega)).mono (Nat.le_trans h1.k.size (Nat.le_refl _))) (by have := (right_small hg.right).n; omega) (by have := HVL.out; omega))
      have hS : (fun w' => w'.cell? ⟨w.heap.size, 0, none⟩ = some (.slice (some ⟨xb, xo, none⟩) es.length lc) ∧ w'.cell? ⟨w.heap.size + 2, 0, none⟩ = some (.int .i64 (pre.length : Int)) ∧ w'.cell? ⟨bx, 0, none⟩ = some (.int .i64 x.1.k) ∧ w'.cell? ⟨bx, 1, none⟩ = some (.string (bs x.1.c)) ∧ w'.cell? ⟨bx, 2, none⟩ = some (.string (bs x.1.p)) ∧ w'.cell? ⟨bx, 3, none⟩ = some (.slice x.2.1 x.1.vs.length x.2.2) ∧ w'.cell? ⟨bx, 4, none⟩ = some (.string (bs x.1.s)) ∧ w'.cell? ⟨bx, 5, none⟩ = some (.string (bs x.1.t)) ∧ w'.cell? ⟨xb, xo + pre.length * 6, none⟩ = some (.int .i64 y.1.k) ∧ w'.cell? ⟨xb, xo + pre.length * 6 + 1, none⟩ = some (.string (bs y.1.c)) ∧ w'.cell? ⟨xb, xo + pre.length * 6 + 2, none⟩ = some (.string (bs y.1.p)) ∧ w'.cell? ⟨xb, xo + pre.length * 6 + 3, none⟩ = some (.slice y.2.1 y.1.vs.length y.2.2) ∧ w'.cell? ⟨xb, xo + pre.length * 6 + 4, none⟩ = some (.string (bs y.1.s)) ∧ w'.cell? ⟨xb, xo + pre.length * 6 + 5, none⟩ = some (.string (bs y.1.t))) W.drew := ⟨h1.c, h1.i, c0, c1, c2, c3, c4, c5, q0, q1, q2, q3, q4, q5⟩
      have i1 : (pre.length : Int) < (es.length : Int) := by omega
      have hge : decide ((es.length : Int) ≤ (pre.length : Int)) = false := decide_eq_false (by omega)
      clear h1 h2 hg htk q0 q1 q2 q3 q4 q5 c0 c1 c2 c3 c4 c5 hrow hmem hW
      refine wpIn_block ?_
      refine wpIn_seq ?_
      refine wpIn_seq ?_
      refine wpIn_region_round l _ (by rintro ⟨a, w, h⟩; exact h) (by kernel_rfl) (by kernel_rfl) ?_
      change wpAny _ _ _ _ _ _ _ (World.drew _)
      refine wpAny_of_held (S := fun w' => w'.cell? ⟨w.heap.size, 0, none⟩ = some (.slice (some ⟨xb, xo, none⟩) es.length lc) ∧ w'.cell? ⟨w.heap.size + 2, 0, none⟩ = some (.int .i64 (pre.length : Int)) ∧ w'.cell? ⟨bx, 0, none⟩ = some (.int .i64 x.1.k) ∧ w'.cell? ⟨bx, 1, none⟩ = some (.string (bs x.1.c)) ∧ w'.cell? ⟨bx, 2, none⟩ = some (.string (bs x.1.p)) ∧ w'.cell? ⟨bx, 3, none⟩ = some (.slice x.2.1 x.1.vs.length x.2.2) ∧ w'.cell? ⟨bx, 4, none⟩ = some (.string (bs x.1.s)) ∧ w'.cell? ⟨bx, 5, none⟩ = some (.string (bs x.1.t)) ∧ w'.cell? ⟨xb, xo + pre.length * 6, none⟩ = some (.int .i64 y.1.k) ∧ w'.cell? ⟨xb, xo + pre.length * 6 + 1, none⟩ = some (.string (bs y.1.c)) ∧ w'.cell? ⟨xb, xo + pre.length * 6 + 2, none⟩ = some (.string (bs y.1.p)) ∧ w'.cell? ⟨xb, xo + pre.length * 6 + 3, none⟩ = some (.slice y.2.1 y.1.vs.length y.2.2) ∧ w'.cell? ⟨xb, xo + pre.length * 6 + 4, none⟩ = some (.string (bs y.1.s)) ∧ w'.cell? ⟨xb, xo + pre.length * 6 + 5, none⟩ = some (.string (bs y.1.t))) _ _ _ _ ?_
      · skip
        refine wpAnyH_take (i := 0) (oi := { dst := some 15, op := .load 3 (.tmp 5), type := _, pos := _, after := _, guard := none }) (v := .int .i64 (pre.length : Int)) rfl (by kernel_rfl) (by kernel_rfl) (by kernel_rfl) (fun _ _ _ h => h) (Or.inl ⟨by rfl, by intro w hSw; (try dsimp only at hSw); go_simp⟩) (by assumption) ?_; simp only [Act.put, List.setIfInBounds_toArray, List.set_cons_zero, List.set_cons_succ]
        refine wpAnyH_take (i := 1) (oi := { dst := some 16, op := .load 22 (.tmp 3), type := _, pos := _, after := _, guard := none }) (v := .slice (some ⟨xb, xo, none⟩) es.length lc) rfl (by kernel_rfl) (by kernel_rfl) (by kernel_rfl) (fun _ _ _ h => h) (Or.inl ⟨by rfl, by intro w hSw; (try dsimp only at hSw); go_simp⟩) (by assumption) ?_; simp only [Act.put, List.setIfInBounds_toArray, List.set_cons_zero, List.set_cons_succ]
        refine wpAnyH_take (i := 2) (oi := { dst := some 17, op := .call { callee := .builtin .len, args := #[.tmp 16], argTypes := #[22] }, type := _, pos := _, after := _, guard := none }) (v := .int .i64 (es.length : Int)) rfl (by kernel_rfl) (by kernel_rfl) (by kernel_rfl) (fun _ _ _ h => h) (Or.inl ⟨by rfl, by intro w hSw; (try dsimp only at hSw); go_simp⟩) (by assumption) ?_; simp only [Act.put, List.setIfInBounds_toArray, List.set_cons_zero, List.set_cons_succ]
        refine wpAnyH_take (i := 3) (oi := { dst := some 18, op := .binOp .geq 3 (.tmp 15) (.tmp 17) 3, type := _, pos := _, after := _, guard := none }) (v := .bool false) rfl (by kernel_rfl) (by kernel_rfl) (by kernel_rfl) (fun _ _ _ h => h) (Or.inl ⟨by rfl, by intro w hSw; (try dsimp only at hSw); go_simp⟩) (by assumption) ?_; simp only [Act.put, List.setIfInBounds_toArray, List.set_cons_zero, List.set_cons_succ]
        refine wpAnyH_take (i := 4) (oi := { dst := some 19, op := .move (.tmp 18), type := _, pos := _, after := _, guard := none }) (v := .bool false) rfl (by kernel_rfl) (by kernel_rfl) (by kernel_rfl) (fun _ _ _ h => h) (Or.inl ⟨by rfl, by intro w hSw; (try dsimp only at hSw); go_simp⟩) (by assumption) ?_; simp only [Act.put, List.setIfInBounds_toArray, List.set_cons_zero, List.set_cons_succ]
        refine wpAnyH_take (i := 5) (oi := { dst := some 20, op := .load 49 (.tmp 6), type := _, pos := _, after := _, guard := some (4, false) }) (v := .agg #[.int .i64 x.1.k, .string (bs x.1.c), .string (bs x.1.p), .slice x.2.1 x.1.vs.length x.2.2, .string (bs x.1.s), .string (bs x.1.t)]) rfl (by kernel_rfl) (by kernel_rfl) (by kernel_rfl) (fun _ _ _ h => h) (Or.inl ⟨by rfl, by intro w hSw; (try dsimp only at hSw); go_simp⟩) (by assumption) ?_; simp only [Act.put, List.setIfInBounds_toArray, List.set_cons_zero, List.set_cons_succ]
        refine wpAnyH_take (i := 6) (oi := { dst := some 21, op := .load 22 (.tmp 3), type := _, pos := _, after := _, guard := some (4, false) }) (v := .slice (some ⟨xb, xo, none⟩) es.length lc) rfl (by kernel_rfl) (by kernel_rfl) (by kernel_rfl) (fun _ _ _ h => h) (Or.inl ⟨by rfl, by intro w hSw; (try dsimp only at hSw); go_simp⟩) (by assumption) ?_; simp only [Act.put, List.setIfInBounds_toArray, List.set_cons_zero, List.set_cons_succ]
        refine wpAnyH_take (i := 7) (oi := { dst := some 22, op := .load 3 (.tmp 5), type := _, pos := _, after := _, guard := some (4, false) }) (v := .int .i64 (pre.length : Int)) rfl (by kernel_rfl) (by kernel_rfl) (by kernel_rfl) (fun _ _ _ h => h) (Or.inl ⟨by rfl, by intro w hSw; (try dsimp only at hSw); go_simp⟩) (by assumption) ?_; simp only [Act.put, List.setIfInBounds_toArray, List.set_cons_zero, List.set_cons_succ]
        refine wpAnyH_take (i := 8) (oi := { dst := some 23, op := .indexAddr 22 (.tmp 21) (.tmp 22), type := _, pos := _, after := _, guard := some (4, false) }) (v := .pointer (some ⟨xb, xo + pre.length * 6, none⟩)) rfl (by kernel_rfl) (by kernel_rfl) (by kernel_rfl) (fun _ _ _ h => h) (Or.inl ⟨by rfl, by intro w hSw; (try dsimp only at hSw); go_simp⟩) (by assumption) ?_; simp only [Act.put, List.setIfInBounds_toArray, List.set_cons_zero, List.set_cons_succ]
        refine wpAnyH_take (i := 9) (oi := { dst := some 24, op := .load 49 (.tmp 23), type := _, pos := _, after := _, guard := some (4, false) }) (v := .agg #[.int .i64 y.1.k, .string (bs y.1.c), .string (bs y.1.p), .slice y.2.1 y.1.vs.length y.2.2, .string (bs y.1.s), .string (bs y.1.t)]) rfl (by kernel_rfl) (by kernel_rfl) (by kernel_rfl) (fun _ _ _ h => h) (Or.inl ⟨by rfl, by intro w hSw; (try dsimp only at hSw); go_simp⟩) (by assumption) ?_; simp only [Act.put, List.setIfInBounds_toArray, List.set_cons_zero, List.set_cons_succ]
        refine wpAnyH_ready (rs := [10]) (by kernel_rfl) (by simp) ?_
        refine AllReadyH.cons rfl (fun K hK => ?_) AllReadyH.nil
        go_simp
        refine HSM.out.mono ?_
        rintro e w5 ⟨rfl, k5⟩
        have hlx : ∀ {a : Addr} {u : Value}, W.drew.cell? a = some u → w5.cell? a = some u := fun h => (k5.cell (World.block_lt_of_cell? _ _ h) (fun h => h)).trans h
        obtain ⟨t0, t1, t2, t3, t4, t5, t6, t7, t8, t9, t10, t11, t12, t13⟩ := hS
        refine hK.out _ _ ⟨hlx t0, hlx t1, hlx t2, hlx t3, hlx t4, hlx t5, hlx t6, hlx t7, hlx t8, hlx t9, hlx t10, hlx t11, hlx t12, hlx t13⟩ (fun hHeld => ?_)
        have K5 := Lib.hid (show Kept (fun _ => False) W w5 from (Kept.drew (Kept.refl _ W)).trans k5 (fun _ _ h => h))
        have I5 := Lib.hid (I0.out.kept K5.out (fun _ h => h.elim))
        have HSB := Lib.hid (sameB_iff x.1 y.1)
        clear hK K hlx t0 t1 t2 t3 t4 t5 t6 t7 t8 t9 t10 t11 t12 t13 k5
        generalize sameB x.1 y.1 = r at *
        refine wpAnyH_take (i := 11) (oi := { dst := some 26, op := .unOp .not 4 (.tmp 25), type := _, pos := _, after := _, guard := some (4, false) }) (v := .bool (!r)) rfl (by kernel_rfl) (by kernel_rfl) (by kernel_rfl) (fun _ _ _ h => h) (Or.inl ⟨by rfl, by intro w hSw; (try dsimp only at hSw); go_simp⟩) (by assumption) ?_; simp only [Act.put, List.setIfInBounds_toArray, List.set_cons_zero, List.set_cons_succ]
        refine wpAnyH_take (i := 12) (oi := { dst := some 27, op := .pick (.tmp 19) (.const (.bool true)) (.tmp 26), type := _, pos := _, after := _, guard := none }) (v := .bool (!r)) rfl (by kernel_rfl) (by kernel_rfl) (by kernel_rfl) (fun _ _ _ h => h) (Or.inl ⟨by rfl, by intro w hSw; (try dsimp only at hSw); go_simp⟩) (by assumption) ?_; simp only [Act.put, List.setIfInBounds_toArray, List.set_cons_zero, List.set_cons_succ]
        refine wpAnyH_done (by kernel_rfl) ?_ _
        clear hHeld
        refine wpIn_cond_split (t := !r) rfl (fun hr => ?_) (fun hr => ?_)
        · have HX := Lib.hid (show ¬ x.1 = y.1 from fun e => by rw [HSB.out.2 e] at hr; cases hr)
          clear hr
          have r5 := I5.out.r
          have f5 := I5.out.rf
          refine wpIn_seq ?_
          refine wpIn_region_plain l _ (by rintro ⟨a, w, h⟩; exact h) (by kernel_rfl) ?_
          go_wp2
          refine wpIn_ret ?_
          refine ⟨Kept.setCell (p := ⟨w.heap.size + 1, 0, none⟩) (K5.out.mono (fun _ _ h => h.elim)) (fun _ => HS3.out _ (.inl rfl)) _, World.cell?_setCell_same _ _ _ I5.out.r, Kept.setCell (p := ⟨w.heap.size + 1, 0, none⟩) I5.out.k (fun _ => by simp) _, fun e => ?_⟩
          rw [List.length_append, List.length_singleton, HTK.out, show dds (pre ++ [x]) = dds pre ++ [x.1] by simp [dds], H2.out] at e
          exact HX.out (by simpa using e)
        · have HX := Lib.hid (show x.1 = y.1 from HSB.out.1 (by simpa using hr))
          clear hr
          refine wpIn_skip ?_
          change Code.wpIn _ _ _ (Code.region 8 _ false) _ _ _
          have i5 := I5.out.i
          have j5 := I5.out.jf
          have hw8 : IntKind.i64.wrap ((pre.length : Int) + 1) = (pre.length : Int) + 1 := by rw [IntKind.wrap_i64]; have := HML.out; omega
          refine wpIn_region_plain l _ (by rintro ⟨a, w, h⟩; exact h) (by kernel_rfl) ?_
          go_wp2
          have hI := I5.out.next
          refine ⟨Kept.setCell (p := ⟨w.heap.size + 2, 0, none⟩) (K5.out.mono (fun _ _ h => h.elim)) (fun _ => HS3.out _ (.inr rfl)) _, by rw [List.length_append, List.length_singleton]; exact hI, ?_⟩
          rw [List.length_append, List.length_singleton, HTK.out, show dds (pre ++ [x]) = dds pre ++ [x.1] by simp [dds], H2.out, HX.out]
    case done =>
      rintro xs W hS ⟨h1, h2⟩ hd
      have hxl : xs.length = es.length := by
        have := congrArg List.length hS
        rw [dds_len, dds_len] at this
        rw [this, HNE.out]
      have HI := Lib.hid (show isL (dds m) (dds es) = true from decide_eq_true (by rw [← hS, h2, hxl, ← dds_len es, List.take_length]))
      rw [hxl] at h1
      have c1 := h1.c
      have i1 := h1.i
      have r1 := h1.r
      have f1 := h1.rf
      have hd2 : (W.setCell ⟨w.heap.size + 1, 0, none⟩ (.bool true)).heap[w3.heap.size]? = some (.deferred (some [])) := by
        rw [Below.heap_setCell _ _ _ _ (by show w3.heap.size ≠ w.heap.size + 1; omega)]
        exact hd
      have H1 := Lib.hid h1; have HD2 := Lib.hid hd2
      clear h1 h2 hd hd2 hS hxl
      go_wp2
      refine ⟨by simp, .inl ⟨_, _, rfl, run_takeDeferred HD2.out, ?_⟩⟩
      have kd := kept_putObj (W.setCell ⟨w.heap.size + 1, 0, none⟩ (.bool true)) w3.heap.size (.deferred none)
      have e1 : (W.setCell ⟨w.heap.size + 1, 0, none⟩ (.bool true)).cell? ⟨w.heap.size + 1, 0, none⟩ = some (.bool true) := World.cell?_setCell_same _ _ _ H1.out.r
      have e2 := (kd.cell (p := ⟨w.heap.size + 1, 0, none⟩) (World.block_lt_of_cell? _ _ e1) (by show ¬ w.heap.size + 1 = w3.heap.size; omega)).trans e1
      refine ⟨_, results_box rfl rfl (load_cell Tryz.isAgg4 e2), by rw [HI.out], ?_⟩
      have k5 : Kept (fun k => w.heap.size ≤ k) w (W.setCell ⟨w.heap.size + 1, 0, none⟩ (.bool true)) := Kept.setCell (p := ⟨w.heap.size + 1, 0, none⟩) H1.out.k (fun _ => by simp) _
      exact (k5.trans kd (fun i hi e => by omega)).mono (fun k hk h => by omega)
    case stop =>
      rintro pre W ⟨j, hj⟩ ⟨h1, h2, h3⟩ hd
      have HI := Lib.hid (show isL (dds m) (dds es) = false from decide_eq_false (fun e => h3 (by
        rw [e] at hj
        have := take_len (dds es) j
        rw [← hj, dds_len] at this
        exact this.symm)))
      refine wpIn_ret ?_
      refine ⟨by simp, .inl ⟨_, _, rfl, run_takeDeferred hd, ?_⟩⟩
      have kd := kept_putObj W w3.heap.size (.deferred none)
      have e2 := (kd.cell (p := ⟨w.heap.size + 1, 0, none⟩) (World.block_lt_of_cell? _ _ h1) (by show ¬ w.heap.size + 1 = w3.heap.size; omega)).trans h1
      refine ⟨_, results_box rfl rfl (load_cell Tryz.isAgg4 e2), by rw [HI.out], ?_⟩
      exact (h2.trans kd (fun i hi e => by omega)).mono (fun k hk h => by omega)
  · have hq : ((m.length : Int) != (es.length : Int)) = true := by rw [bne_iff_ne]; omega
    have HI := Lib.hid (show isL (dds m) (dds es) = false from decide_eq_false (fun e => hne (by rw [← dds_len, e, dds_len])))
    clear hne
    go_wp2
    have e1 : (w1.setCell ⟨w.heap.size + 1, 0, none⟩ (.bool false)).cell? ⟨w.heap.size + 1, 0, none⟩ = some (.bool false) := World.cell?_setCell_same _ _ _ R1.out
    refine ⟨_, results_box rfl rfl (load_cell Tryz.isAgg4 e1), by rw [HI.out], ?_⟩
    exact K1.out.trans (Kept.setCell (S := fun k => k = w.heap.size + 1) (p := ⟨w.heap.size + 1, 0, none⟩) (Kept.refl _ w1) (fun _ => rfl) _) (fun i hi e => by omega)

end Go.Proofs.YtecjecdgjmipcaaGreat
