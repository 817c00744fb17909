/-
  The reference of layer 9: Of.
-/
import Derived.Test.YtecjecdgjmipcaaGreatR9a
import Derived.Test.YtecjecdgjmipcaaGreatGPn
import Derived.Deep.CutBlock
import Derived.Deep.DeepCutAuto
namespace Go.Proofs.YtecjecdgjmipcaaGreat
open Go.RowKit Go.Mk Go.Maps

/-- A side of an edit in a row that is under way: it lies in another block. -/
structure SDn (base : Nat) (w : World) (v : Value) (s : SD) : Prop where
  sd : SDs w w.heap.size s
  low : ∀ e ∈ s.es, Lies w base e.2.1 (strs e.1.vs)
  apart : s.es ≠ [] → ∀ a, s.ao = some a → v.ownBlock ≠ some a.block

theorem SDn.own {w w' : World} {s : SD} {base : Nat} {v : Value} (h : SDn base w v s) (hk : Kept (fun k => v.ownBlock = some k) w w') (hv : ∀ k, v.ownBlock = some k → base ≤ k) (v' : Value) (hv' : ∀ k, v'.ownBlock = some k → v.ownBlock = some k ∨ w.heap.size ≤ k) : SDn base w' v' s := by
  have hlow : ∀ e ∈ s.es, strs e.1.vs ≠ [] → ∀ a, e.2.1 = some a → ¬ v.ownBlock = some a.block := fun e he hn a ha e1 => by
    obtain ⟨b, off, e2, hb, _⟩ := h.low e he hn
    rw [e2] at ha
    cases ha
    have := hv _ e1
    dsimp only at this
    omega
  refine ⟨⟨⟨fun hn => ?_, fun e he => ⟨((h.sd.ds.lies e he).1.kept hk (hlow e he)).mono hk.size, (h.sd.ds.lies e he).2⟩⟩, h.sd.cap⟩, fun e he => (h.low e he).kept hk (hlow e he), fun hn a ha e1 => ?_⟩
  · obtain ⟨b, off, e1, hb, hc⟩ := h.sd.ds.row hn
    exact ⟨b, off, e1, Nat.lt_of_lt_of_le hb hk.size, fun j hj => (hc j hj).kept hk (h.apart hn _ e1)⟩
  · rcases hv' _ e1 with h1 | h1
    · exact h.apart hn a ha h1
    · obtain ⟨b, off, e2, hb, _⟩ := h.sd.ds.row hn
      rw [e2] at ha
      cases ha
      dsimp only at h1
      omega

theorem SDn.keep {w w' : World} {s : SD} {base : Nat} {v : Value} (h : SDn base w v s) (hk : Kept (fun _ => False) w w') : SDn base w' v s :=
  ⟨(h.sd.keep hk).mono hk.size, fun e he => (h.low e he).kept hk (fun _ _ _ h => h), h.apart⟩

/-- The patch under way. -/
structure Po9 (w : World) (v : Value) (q : List EE) (wx : World) : Prop where
  own : wx.ownsRow w.heap.size 42 3 v q.length (cellsP q)
  sd : ∀ e ∈ q, SDn w.heap.size wx v e.old ∧ SDn w.heap.size wx v e.new
  k : Kept (fun _ => False) w wx

theorem Po9.keep {w : World} {v : Value} {q : List EE} {wx wy : World} (h : Po9 w v q wx) (hk : Kept (fun _ => False) wx wy) : Po9 w v q wy :=
  ⟨owns_kept h.own hk (fun _ _ h => h), fun e he => ⟨(h.sd e he).1.keep hk, (h.sd e he).2.keep hk⟩, h.k.trans hk (fun _ _ h => h)⟩

theorem Po9.nil (w wx : World) (h : Kept (fun _ => False) w wx) : Po9 w (.slice none 0 0) [] wx := ⟨World.ownsRow_nil _ _ _ _, fun e he => absurd he List.not_mem_nil, h⟩

/-- One edit more. -/
theorem Po9.app {w : World} {v v' : Value} {q : List EE} {wx wy : World} (h : Po9 w v q wx) (e : EE) (he : SDn w.heap.size wx v e.old ∧ SDn w.heap.size wx v e.new) {o : Obj}
    (ho : wy.ownsRow 0 42 3 v' (q.length + 1) (cellsP q ++ cellsP1 e)) (hg : (wx.alloc o).grownBy wy v.ownBlock) (hb : v'.ownBlock = v.ownBlock ∨ v'.ownBlock = some (wx.alloc o).heap.size) : Po9 w v' (q ++ [e]) wy := by
  have hlt := owns_lt h.own
  have hrow : ∀ k, v'.ownBlock = some k → v.ownBlock = some k ∨ wx.heap.size ≤ k := fun k hk => by
    rcases hb with hb | hb
    · rw [hb] at hk; exact .inl hk
    · rw [hb] at hk; cases hk; right; simp
  have hbase : ∀ k, v.ownBlock = some k → w.heap.size ≤ k := fun k hk => (hlt k hk).1
  have k4 : Kept (fun k => v.ownBlock = some k) wx wy := Kept.grown ((Kept.refl _ wx).alloc _) hg (fun k hk _ => hk)
  refine ⟨?_, fun x hx => ?_, h.k.trans k4 (fun i hi h1 => by have := hbase i h1; omega)⟩
  · have ho5 := owns_base (base' := w.heap.size) ho (fun k hk => by
      rcases hrow k hk with h1 | h1
      · exact hbase k h1
      · exact Nat.le_trans h.k.size h1)
    rw [← cellsP_snoc, show q.length + 1 = (q ++ [e]).length by simp] at ho5
    exact ho5
  · rcases List.mem_append.1 hx with hx | hx
    · exact ⟨(h.sd x hx).1.own k4 hbase v' hrow, (h.sd x hx).2.own k4 hbase v' hrow⟩
    · rw [List.mem_singleton] at hx
      subst hx
      exact ⟨he.1.own k4 hbase v' hrow, he.2.own k4 hbase v' hrow⟩

/-- What Get answered, as a side. -/
theorem sdn_get {base : Nat} {w w' : World} {v : Value} {s : SD} (hs : SDs w' w'.heap.size s) (hf : s.es ≠ [] → ∃ g, s.ao = some ⟨g, 0, none⟩ ∧ w.heap.size ≤ g) (hlow : ∀ e ∈ s.es, Lies w' base e.2.1 (strs e.1.vs)) (hv : ∀ k, v.ownBlock = some k → k < w.heap.size) : SDn base w' v s :=
  ⟨hs, hlow, fun hn a ha e1 => by
    obtain ⟨g, e2, hg⟩ := hf hn
    rw [e2] at ha
    cases ha
    have := hv _ e1
    dsimp only at this
    omega⟩

/-- What Of answers. -/
def RoPost (w : World) (p : List ED) (e : Ending) (w' : World) : Prop := ∃ pa pc q, e = .returned (.slice pa q.length pc) ∧ eds q = p ∧ Es w' w'.heap.size pa q ∧ Kept (fun _ => False) w w'

/-- The smallest key that is left. -/
def MinK (A B : List DD) (i k : Nat) (kk : List UInt8) : Prop := (∀ x ∈ A.drop i, ¬ keyD x < kk) ∧ (∀ y ∈ B.drop k, ¬ keyD y < kk) ∧ ((∃ x ∈ A.drop i, keyD x = kk) ∨ ∃ y ∈ B.drop k, keyD y = kk)

theorem rise_first {A : List DD} (hA : Rise keyD A) {i : Nat} (h : i < A.length) : A[i] ∈ A.drop i ∧ ∀ x ∈ A.drop i, ¬ keyD x < keyD A[i] := by
  have hc : A.drop i = A[i] :: A.drop (i + 1) := List.drop_eq_getElem_cons h
  have hd : Rise keyD (A.drop i) := List.Pairwise.sublist (List.drop_sublist i A) hA
  rw [hc] at hd ⊢
  obtain ⟨d1, _⟩ := rise_cons.1 hd
  refine ⟨List.mem_cons_self, fun x hx => ?_⟩
  rcases List.mem_cons.1 hx with rfl | hx
  · exact lt_irr _
  · exact lt_asy (d1 x hx)

theorem min_a {A B : List DD} (hA : Rise keyD A) (hB : Rise keyD B) {i k : Nat} (hi : i < A.length) (hle : ∀ h : k < B.length, ¬ keyD B[k] < keyD A[i]) : MinK A B i k (keyD A[i]) := by
  obtain ⟨m1, m2⟩ := rise_first hA hi
  refine ⟨m2, fun y hy hlt => ?_, .inl ⟨_, m1, rfl⟩⟩
  by_cases hk : k < B.length
  · obtain ⟨_, n2⟩ := rise_first hB hk
    have h1 := n2 y hy
    rcases lt_tri (keyD y) (keyD B[k]) with h | h | h
    · exact h1 h
    · rw [h] at hlt; exact hle hk hlt
    · exact hle hk (lt_tr h hlt)
  · rw [List.drop_eq_nil_of_le (by omega)] at hy
    cases hy

theorem min_b {A B : List DD} (hA : Rise keyD A) (hB : Rise keyD B) {i k : Nat} (hk : k < B.length) (hle : ∀ h : i < A.length, ¬ keyD A[i] < keyD B[k]) : MinK A B i k (keyD B[k]) := by
  have := min_a hB hA hk hle
  exact ⟨this.2.1, this.1, this.2.2.symm⟩

theorem key_len3 {d : DD} (h : Len8 d) : (keyD d).length ≤ 3000000 := by
  have := h.c; have := h.s
  unfold keyD
  split
  · split
    · simp; omega
    · omega
  · simp

def moreB (a b : List Ent) (i k : Nat) : Bool := decide (i < a.length) || decide (k < b.length)
def keyAt (a : List Ent) (i : Nat) : List UInt8 := if h : i < a.length then keyD a[i].1 else []
def secB (a b : List Ent) (i k : Nat) : Bool := decide (k < b.length) && (decide (a.length ≤ i) || decide (keyAt b k < keyAt a i))

theorem keyAt_lt {a : List Ent} {i : Nat} (h : i < a.length) : keyAt a i = keyD a[i].1 := dif_pos h

theorem min_sec {a b : List Ent} (hA : Rise keyD (dds a)) (hB : Rise keyD (dds b)) {i k : Nat} (h : secB a b i k = true) : MinK (dds a) (dds b) i k (keyAt b k) := by
  simp only [secB, Bool.and_eq_true, Bool.or_eq_true, decide_eq_true_eq] at h
  obtain ⟨hk, h⟩ := h
  have := min_b hA hB (i := i) (k := k) (by rw [dds_len]; exact hk) (fun hi => by
    rw [dds_len] at hi
    rcases h with h | h
    · omega
    · rw [dds_get a i hi, dds_get b k hk]
      rw [keyAt_lt hi, keyAt_lt hk] at h
      exact lt_asy h)
  rw [dds_get b k hk] at this
  rw [keyAt_lt hk]
  exact this

theorem min_fst {a b : List Ent} (hA : Rise keyD (dds a)) (hB : Rise keyD (dds b)) {i k : Nat} (hm : moreB a b i k = true) (h : secB a b i k = false) : MinK (dds a) (dds b) i k (keyAt a i) := by
  have hi : i < a.length := by
    simp only [moreB, Bool.or_eq_true, decide_eq_true_eq] at hm
    rcases hm with hm | hm
    · exact hm
    · apply Classical.byContradiction
      intro hi
      rw [secB, decide_eq_true hm, decide_eq_true (by omega)] at h
      simp at h
  have := min_a hA hB (i := i) (k := k) (by rw [dds_len]; exact hi) (fun hk => by
    rw [dds_len] at hk
    rw [dds_get a i hi, dds_get b k hk]
    rw [secB, decide_eq_true hk, decide_eq_false (show ¬ a.length ≤ i by omega), Bool.true_and, Bool.false_or] at h
    have := of_decide_eq_false h
    rwa [keyAt_lt hi, keyAt_lt hk] at this)
  rw [dds_get a i hi] at this
  rw [keyAt_lt hi]
  exact this

theorem i64_wrap (n : Nat) (h : n ≤ 9000000000) : wrap64 (n : Int) = (n : Int) := by unfold wrap64; omega

set_option maxHeartbeats 4000000 in
set_option maxRecDepth 100000 in
theorem rof9_any (la : Option Addr) (lc : Nat) (a : List Ent) (lb : Option Addr) (ld : Nat) (b : List Ent) (w : World) (hA : Rl w la a) (hB : Rl w lb b) (hna : a.length ≤ 100000) (hnb : b.length ≤ 100000) :
    Calls Tryz.prog 13 #[.slice la a.length lc, .slice lb b.length ld] w (RoPost w (ofL (dds a) (dds b))) := by
  obtain ⟨i0, hi, hz0, hz1, hz2⟩ := info_parts Tryz.infoEdit
  have HA := Lib.hid hA; have HB := Lib.hid hB
  have RA := Lib.hid (show Rise keyD (dds a) from (map_rise (f := fun e : Ent => e.1) (ka := keyE) (kb := keyD) (fun _ => rfl)).2 hA.rise)
  have RB := Lib.hid (show Rise keyD (dds b) from (map_rise (f := fun e : Ent => e.1) (ka := keyE) (kb := keyD) (fun _ => rfl)).2 hB.rise)
  have HGA := Lib.hid (fun (key : List UInt8) (wx : World) (h : Kept (fun _ => False) w wx) => rget_any la lc a key w.heap.size wx h.size (hA.ds.keep h) hA.len (by omega) hA.rise)
  have HGB := Lib.hid (fun (key : List UInt8) (wx : World) (h : Kept (fun _ => False) w wx) => rget_any lb ld b key w.heap.size wx h.size (hB.ds.keep h) hB.len (by omega) hB.rise)
  clear hA hB
  go_enter Tryz.func13, Tryz.ntmps13
  go_wp2
  go_loopg [5, 6, 7] ((a.length + b.length)) (fun m v c1 c2 wr => ∃ (i k : Nat) (q : List EE), m = a.length + b.length - (i + k) ∧ c1 = .int .i64 (i : Int) ∧ c2 = .int .i64 (k : Int) ∧ OfI (dds a) (dds b) i k ∧ eds q = ofL ((dds a).take i) ((dds b).take k) ∧ q.length ≤ i + k ∧ Po9 w v q wr)
  case atStart => exact ⟨0, 0, [], rfl, rfl, rfl, OfI.zero _ _, rfl, Nat.le_refl _, Po9.nil _ _ (Kept.refl _ _)⟩
  case round =>
    obtain ⟨i, k, q, hm, rfl, rfl, hof, hq, hql, hpo⟩ := hrel
    have HM := Lib.hid hm; have HOF := Lib.hid hof; have HQ := Lib.hid hq; have HQL := Lib.hid hql; have HPO := Lib.hid hpo
    have hi1 := hof.hi; have hk1 := hof.hk
    rw [dds_len] at hi1 hk1
    clear hm hof hq hql hpo
    have i3 : (¬ (i : Int) < (a.length : Int)) = (¬ i < a.length) := by simp
    go_upto_region 3 with fail
    go_cut [20] (fun v wx => v = .bool (moreB a b i k) ∧ wr = wx)
    case first =>
      by_cases hia : i < a.length
      · have i1 : (i : Int) < (a.length : Int) := by omega
        go_wp2_with fail
        all_goals go_meet
        all_goals exact ⟨by simp [moreB, hia], rfl⟩
      · have i1 : ¬ (i : Int) < (a.length : Int) := by omega
        go_wp2_with fail
        all_goals go_meet
        all_goals exact ⟨by simp [moreB, hia], rfl⟩
    case rest =>
      obtain ⟨rfl, rfl⟩ := hcut
      cases hmore : moreB a b i k with
      | false =>
        have h2 : ¬ i < a.length ∧ ¬ k < b.length := by simpa [moreB] using hmore
        obtain rfl : i = a.length := by omega
        obtain rfl : k = b.length := by omega
        have hs := HQ.out
        rw [← dds_len a, List.take_length, ← dds_len b, List.take_length] at hs
        have HX := Lib.hid hs
        obtain ⟨pa, pc, rfl⟩ := owns_slice HPO.out.own
        clear hs h2 hmore
        go_wp2
        go_ret
        exact ⟨pa, pc, q, rfl, HX.out, owns_es HPO.out.own (fun e he => ⟨((HPO.out.sd e he).1).sd, ((HPO.out.sd e he).2).sd⟩), HPO.out.k⟩
      | true =>
        have HMO := Lib.hid hmore
        clear hmore
        go_upto_if 24 with fail
        go_cut [8] (fun v wx => v = .string (bs (keyAt a i)) ∧ Kept (fun _ => False) wr wx)
        case first =>
          by_cases hia : i < a.length
          · have i1 : (i : Int) < (a.length : Int) := by omega
            obtain ⟨xb, xo, rfl, hxb, hc⟩ := HA.out.ds.row (by intro h; rw [h] at hia; simp at hia)
            have HLI := Lib.hid (HA.out.ds.lies a[i] (List.getElem_mem hia))
            have HLE := Lib.hid (HA.out.len a[i] (List.getElem_mem hia))
            obtain ⟨c0, c1, c2, c3, c4, c5⟩ := (hc i hia).kept HPO.out.k (fun h => h)
            have HKA := Lib.hid (keyAt_lt hia)
            clear hc
            generalize a[i] = x at *
            obtain ⟨d, ao, cap⟩ := x
            dsimp only at c0 c1 c2 c3 c4 c5 HLE HLI HKA
            have HKEY := Lib.hid (rkey_any d ao cap _ wr (HLI.out.1.kept HPO.out.k (fun _ _ _ h => h)) HLI.out.2 HLE.out.n HLE.out.s HLE.out.c)
            rw [← HKA.out] at HKEY
            generalize keyAt a i = ka at *
            go_wp2_with fail
            refine HKEY.out.mono ?_
            rintro e w1 ⟨rfl, k1⟩
            go_wp2_with fail
            go_meet
            exact ⟨rfl, k1⟩
          · have i1 : ¬ (i : Int) < (a.length : Int) := by omega
            have HKA := Lib.hid (show keyAt a i = [] from dif_neg hia)
            go_wp2_with fail
            go_meet
            exact ⟨by rw [HKA.out]; rfl, Kept.refl _ _⟩
        case rest =>
          obtain ⟨rfl, k3⟩ := hcut
          have P3 := Lib.hid (HPO.out.keep k3)
          clear k3 HPO
          go_upto_region 7 with fail
          have z1 := bs_list (keyAt a i)
          go_cut [48] (fun v wx => v = .bool (secB a b i k) ∧ Po9 w u5 q wx)
          case first =>
            by_cases hkb : k < b.length
            · have i1 : (k : Int) < (b.length : Int) := by omega
              by_cases hia : i < a.length
              · have i2 : ¬ (a.length : Int) ≤ (i : Int) := by omega
                obtain ⟨xb, xo, rfl, hxb, hc⟩ := HB.out.ds.row (by intro h; rw [h] at hkb; simp at hkb)
                have HLI := Lib.hid (HB.out.ds.lies b[k] (List.getElem_mem hkb))
                have HLE := Lib.hid (HB.out.len b[k] (List.getElem_mem hkb))
                obtain ⟨c0, c1, c2, c3, c4, c5⟩ := (hc k hkb).kept P3.out.k (fun h => h)
                have HKA := Lib.hid (keyAt_lt hkb)
                have HSE := Lib.hid (show secB a b i k = Op.bytesLess (keyAt b k) (keyAt a i) by rw [bytesLess_lt, secB, decide_eq_true hkb, decide_eq_false (show ¬ a.length ≤ i by omega)]; rfl)
                clear hc
                generalize b[k] = x at *
                obtain ⟨d, ao, cap⟩ := x
                dsimp only at c0 c1 c2 c3 c4 c5 HLE HLI HKA
                have HKEY := Lib.hid (rkey_any d ao cap _ wc (HLI.out.1.kept P3.out.k (fun _ _ _ h => h)) HLI.out.2 HLE.out.n HLE.out.s HLE.out.c)
                rw [← HKA.out] at HKEY
                generalize keyAt b k = kb at *
                have z2 := bs_list kb
                go_wp2_with fail
                refine HKEY.out.mono ?_
                rintro e w1 ⟨rfl, k1⟩
                have P4 := Lib.hid (P3.out.keep k1); clear k1
                go_wp2_with fail
                all_goals go_meet
                all_goals exact ⟨by rw [HSE.out], P4.out⟩
              · have i2 : (a.length : Int) ≤ (i : Int) := by omega
                have HSE := Lib.hid (show secB a b i k = true by rw [secB, decide_eq_true hkb, decide_eq_true (show a.length ≤ i by omega)]; rfl)
                go_wp2_with fail
                all_goals go_meet
                all_goals exact ⟨by rw [HSE.out], P3.out⟩
            · have i1 : ¬ (k : Int) < (b.length : Int) := by omega
              have HSE := Lib.hid (show secB a b i k = false by rw [secB, decide_eq_false hkb]; rfl)
              go_wp2_with fail
              all_goals go_meet
              all_goals exact ⟨by rw [HSE.out], P3.out⟩
          case rest =>
            obtain ⟨rfl, p4⟩ := hcut
            have P4 := Lib.hid p4
            clear p4 P3 z1
            go_upto_if 48 with fail
            go_cut [8] (fun v wx => ∃ kk, v = .string (bs kk) ∧ MinK (dds a) (dds b) i k kk ∧ kk.length ≤ 3000000 ∧ Po9 w u5 q wx)
            case first =>
              cases hsec : secB a b i k with
              | true =>
                have HMI := Lib.hid (min_sec RA.out RB.out hsec)
                have hkb : k < b.length := by simp [secB] at hsec; exact hsec.1
                have i1 : (k : Int) < (b.length : Int) := by omega
                obtain ⟨xb, xo, rfl, hxb, hc⟩ := HB.out.ds.row (by intro h; rw [h] at hkb; simp at hkb)
                have HLI := Lib.hid (HB.out.ds.lies b[k] (List.getElem_mem hkb))
                have HLE := Lib.hid (HB.out.len b[k] (List.getElem_mem hkb))
                obtain ⟨c0, c1, c2, c3, c4, c5⟩ := (hc k hkb).kept P4.out.k (fun h => h)
                have HKA := Lib.hid (keyAt_lt hkb)
                have HKL := Lib.hid (show (keyAt b k).length ≤ 3000000 by rw [HKA.out]; exact key_len3 HLE.out)
                clear hc hsec
                generalize b[k] = x at *
                obtain ⟨d, ao, cap⟩ := x
                dsimp only at c0 c1 c2 c3 c4 c5 HLE HLI HKA
                have HKEY := Lib.hid (rkey_any d ao cap _ wc (HLI.out.1.kept P4.out.k (fun _ _ _ h => h)) HLI.out.2 HLE.out.n HLE.out.s HLE.out.c)
                rw [← HKA.out] at HKEY
                generalize keyAt b k = kb at *
                go_wp2_with fail
                refine HKEY.out.mono ?_
                rintro e w1 ⟨rfl, k1⟩
                have P5 := Lib.hid (P4.out.keep k1); clear k1
                go_wp2_with fail
                go_meet
                exact ⟨kb, rfl, HMI.out, HKL.out, P5.out⟩
              | false =>
                have HMI := Lib.hid (min_fst RA.out RB.out HMO.out hsec)
                have HKL := Lib.hid (show (keyAt a i).length ≤ 3000000 by
                  unfold keyAt
                  split
                  · rename_i h; exact key_len3 (HA.out.len _ (List.getElem_mem h))
                  · simp)
                clear hsec
                go_wp2_with fail
                go_meet
                exact ⟨keyAt a i, rfl, HMI.out, HKL.out, P4.out⟩
            case rest =>
              obtain ⟨kk, rfl, hmin, hkl, p5⟩ := hcut
              have hst := of_step RA.out RB.out HOF.out hmin.1 hmin.2.1 hmin.2.2
              have P5 := Lib.hid p5
              clear p5 P4 hmin
              rw [← dds_getK, ← dds_getK, dds_len, dds_len] at hst
              have hge1 := HGA.out kk
              have hge2 := HGB.out kk
              have hlx := fun x (hx : x ∈ getK keyE kk a) => (⟨(HA.out.ds.lies x (mem_getK.1 hx).1).1, (HA.out.len x (mem_getK.1 hx).1).n⟩ : Lies w w.heap.size x.2.1 (strs x.1.vs) ∧ x.1.vs.length ≤ 1000000)
              have hly := fun x (hx : x ∈ getK keyE kk b) => (⟨(HB.out.ds.lies x (mem_getK.1 hx).1).1, (HB.out.len x (mem_getK.1 hx).1).n⟩ : Lies w w.heap.size x.2.1 (strs x.1.vs) ∧ x.1.vs.length ≤ 1000000)
              have hx1 := getK_len HA.out.rise kk
              have hy1 := getK_len HB.out.rise kk
              have HS := Lib.hid hst; have HGE1 := Lib.hid hge1; have HGE2 := Lib.hid hge2; have HLX := Lib.hid hlx; have HLY := Lib.hid hly
              clear hst hge1 hge2 hlx hly
              generalize getK keyE kk a = xs at *
              generalize getK keyE kk b = ys at *
              obtain ⟨i', hI⟩ : ∃ n : Nat, n = i + xs.length := ⟨_, rfl⟩
              obtain ⟨k', hJ⟩ : ∃ n : Nat, n = k + ys.length := ⟨_, rfl⟩
              have i4 : wrap64 ((i : Int) + (xs.length : Int)) = (i' : Int) := by rw [← Int.natCast_add, ← hI]; exact i64_wrap _ (by omega)
              have i5 : wrap64 ((k : Int) + (ys.length : Int)) = (k' : Int) := by rw [← Int.natCast_add, ← hJ]; exact i64_wrap _ (by omega)
              rw [← hI, ← hJ] at HS
              have HI := Lib.hid hI; have HJ := Lib.hid hJ
              clear hI hJ
              go_wp2_with fail
              refine (HGE1.out _ P5.out.k).mono ?_
              rintro e w6 ⟨ao6, cap6, rfl, s6, f6, k6⟩
              have P6 := Lib.hid (P5.out.keep k6)
              have S6 := Lib.hid (sdn_get (base := w.heap.size) (v := u5) s6 f6 (fun e he => (HLX.out e he).1.kept P6.out.k (fun _ _ _ h => h)) (fun k hk => (owns_lt P5.out.own k hk).2))
              clear s6 f6 k6
              go_wp2_with fail
              refine (HGE2.out _ P6.out.k).mono ?_
              rintro e w7 ⟨ao7, cap7, rfl, s7, f7, k7⟩
              have P7 := Lib.hid (P6.out.keep k7)
              have S7 := Lib.hid (sdn_get (base := w.heap.size) (v := u5) s7 f7 (fun e he => (HLY.out e he).1.kept P7.out.k (fun _ _ _ h => h)) (fun k hk => (owns_lt P6.out.own k hk).2))
              have T7 := Lib.hid (S6.out.keep k7)
              clear s7 f7 k7
              have HSA := Lib.hid (rsameall_any ao6 cap6 xs ao7 cap7 ys w7.heap.size w7 T7.out.sd.ds S7.out.sd.ds (fun e he => (HLX.out e he).2) (fun e he => (HLY.out e he).2) (Nat.le_trans hx1 (by decide)))
              go_wp2_with fail
              refine HSA.out.mono ?_
              rintro e w8 ⟨rfl, k8⟩
              have P8 := Lib.hid (P7.out.keep k8)
              have T8 := Lib.hid (T7.out.keep k8)
              have S8 := Lib.hid (S7.out.keep k8)
              clear k8
              cases hsa : sameA xs ys with
              | true =>
                have HE := Lib.hid (show eds q = ofL ((dds a).take i') ((dds b).take k') by
                  rw [HS.out.2.2, if_pos (of_decide_eq_true hsa), List.append_nil]; exact HQ.out)
                clear hsa
                go_wp2
                go_roundg (a.length + b.length - (i' + k'))
                case measure => have h1 := HS.out.1.hi; have h2 := HS.out.1.hk; have h3 := HS.out.2.1; have h4 := HM.out; have h5 := HI.out; have h6 := HJ.out; rw [dds_len] at h1 h2; omega
                case rel => exact ⟨i', k', q, rfl, (by have h5 := HI.out; first | rfl | rw [h5, Int.natCast_add]), (by have h6 := HJ.out; first | rfl | rw [h6, Int.natCast_add]), HS.out.1, HE.out, by have := HQL.out; have h5 := HI.out; have h6 := HJ.out; omega, P8.out⟩
              | false =>
                have HE := Lib.hid (show eds (q ++ [⟨kk, ⟨ao6, cap6, xs⟩, ⟨ao7, cap7, ys⟩⟩]) = ofL ((dds a).take i') ((dds b).take k') by
                  rw [HS.out.2.2, if_neg (of_decide_eq_false hsa), ← HQ.out]
                  simp [eds, edE])
                clear hsa
                have HQ3 := Lib.hid (owns_base (base' := 0) P8.out.own (fun _ _ => Nat.zero_le _))
                have hql := HQL.out
                go_wp2_with (at_builtin; refine wpList_app _ rfl (.tmp 72) (.tmp 77) 31 31 rfl 42 i0 (.agg #[.string ⟨#[]⟩, .slice none 0 0, .slice none 0 0]) 3 64 Tryz.underlying31 hi hz0 hz1 hz2 rfl _ _ _ rfl (HQ3.out.alloc _) (.slice (some ⟨w8.heap.size, 0, none⟩) 1 1) 1 (cellsP1 ⟨kk, ⟨ao6, cap6, xs⟩, ⟨ao7, cap7, ys⟩⟩) rfl (src_ed w8 ⟨kk, ⟨ao6, cap6, xs⟩, ⟨ao7, cap7, ys⟩⟩ _) ?b1 ?b2 ?next)
                case b1 => unfold maxLen; omega
                case b2 => omega
                case next =>
                  intro v' w9 ho9 hg9 hb9 _
                  have P9 := Lib.hid (P8.out.app ⟨kk, ⟨ao6, cap6, xs⟩, ⟨ao7, cap7, ys⟩⟩ ⟨T8.out, S8.out⟩ ho9 hg9 (by simpa using hb9))
                  clear ho9 hg9 hb9
                  go_wp2
                  go_roundg (a.length + b.length - (i' + k'))
                  case measure => have h1 := HS.out.1.hi; have h2 := HS.out.1.hk; have h3 := HS.out.2.1; have h4 := HM.out; have h5 := HI.out; have h6 := HJ.out; rw [dds_len] at h1 h2; omega
                  case rel => exact ⟨i', k', _, rfl, (by have h5 := HI.out; first | rfl | rw [h5, Int.natCast_add]), (by have h6 := HJ.out; first | rfl | rw [h6, Int.natCast_add]), HS.out.1, HE.out, by have := HS.out.2.1; have h5 := HI.out; have h6 := HJ.out; simp; omega, P9.out⟩

end Go.Proofs.YtecjecdgjmipcaaGreat
