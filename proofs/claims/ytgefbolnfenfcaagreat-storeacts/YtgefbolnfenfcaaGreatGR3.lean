/-
  Lemmas towards the claim of this folder: contracts of the functions that the law reaches; joined texts.
-/
import Derived.Test.YtgefbolnfenfcaaGreatL3
import Derived.Test.YtgefbolnfenfcaaGreatBy2
import Derived.Deep.RegionHeld
import Derived.Deep.CutBlock
import Derived.Deep.DeepCutAuto
/-
  CONTRACTS of the reference of layer 3.
-/
namespace Go.Proofs.YtgefbolnfenfcaaGreat
open Go.RowKit Go.Mk

def wtCells (x : Wt) : List Value := [.int .i64 x.k, .string (bs x.b)]
def wcells (ws : List Wt) : List Value := ws.flatMap wtCells
theorem wcells_length : ∀ ws : List Wt, (wcells ws).length = ws.length * 2
  | [] => rfl
  | x :: ws => by
    have := wcells_length ws
    simp only [wcells, List.flatMap_cons, List.length_append, List.length_cons] at this ⊢
    simp [wtCells] at this ⊢
    omega
theorem wcells_snoc (ws : List Wt) (x : Wt) : wcells (ws ++ [x]) = wcells ws ++ wtCells x := by simp [wcells]
theorem wcells_get : ∀ (ws : List Wt) (i : Nat) (hi : i < ws.length), (wcells ws)[i * 2]? = some (.int .i64 ws[i].k) ∧ (wcells ws)[i * 2 + 1]? = some (.string (bs ws[i].b))
  | [], _, hi => by simp at hi
  | x :: ws, 0, _ => by simp [wcells, wtCells]
  | x :: ws, i + 1, hi => by
    have := wcells_get ws i (by simpa using hi)
    have e : wcells (x :: ws) = .int .i64 x.k :: .string (bs x.b) :: wcells ws := by simp [wcells, wtCells]
    rw [e, show (i + 1) * 2 = i * 2 + 1 + 1 by omega]
    simpa using this
theorem wcells_one (ws : List Wt) : ∀ u ∈ wcells ws, u.oneCell' = true := by
  intro u hu
  obtain ⟨x, _, hx⟩ := List.mem_flatMap.1 hu
  simp [wtCells] at hx
  rcases hx with rfl | rfl <;> rfl

/-- The reference's Disk at block rb. -/
structure RkAt (w : World) (rb n : Nat) (sure : List UInt8) (ws : List Wt) (pv : Value) (left : Int) : Prop where
  c0 : w.cell? ⟨rb, 0, none⟩ = some (.string (bs sure))
  c1 : w.cell? ⟨rb, 1, none⟩ = some pv
  c2 : w.cell? ⟨rb, 2, none⟩ = some (.int .i64 left)
  f0 : w.frozen? ⟨rb, 0, none⟩ = false
  f1 : w.frozen? ⟨rb, 1, none⟩ = false
  f2 : w.frozen? ⟨rb, 2, none⟩ = false
  own : w.ownsRow 0 88 2 pv ws.length (wcells ws)
  ne : ∀ g, pv.ownBlock = some g → g ≠ rb
  len : sure.length = 64 * n
  n1 : 1 ≤ n
  n2 : n ≤ 65536
  ok : ∀ x ∈ ws, x.ok n
  lb : -1 ≤ left ∧ left ≤ 9223372036854775807

section
variable {w w' : World} {rb n : Nat} {sure : List UInt8} {ws : List Wt} {pv : Value} {left : Int}

theorem RkAt.lt (h : RkAt w rb n sure ws pv left) : rb < w.heap.size := World.block_lt_of_cell? _ _ h.c0

theorem RkAt.kept {S : Nat → Prop} (h : RkAt w rb n sure ws pv left) (hk : Kept S w w') (h1 : ¬ S rb) (h3 : ∀ g, pv.ownBlock = some g → ¬ S g) : RkAt w' rb n sure ws pv left :=
  ⟨(hk.cell (p := ⟨rb, 0, none⟩) h.lt h1).trans h.c0, (hk.cell (p := ⟨rb, 1, none⟩) h.lt h1).trans h.c1, (hk.cell (p := ⟨rb, 2, none⟩) h.lt h1).trans h.c2,
    (hk.frozen (p := ⟨rb, 0, none⟩) h.lt h1).trans h.f0, (hk.frozen (p := ⟨rb, 1, none⟩) h.lt h1).trans h.f1, (hk.frozen (p := ⟨rb, 2, none⟩) h.lt h1).trans h.f2,
    owns_kept h.own hk h3, h.ne, h.len, h.n1, h.n2, h.ok, h.lb⟩

theorem RkAt.setLeft (h : RkAt w rb n sure ws pv left) (c : Int) (hc : -1 ≤ c ∧ c ≤ 9223372036854775807) : RkAt (w.setCell ⟨rb, 2, none⟩ (.int .i64 c)) rb n sure ws pv c := by
  have kp : Kept (fun k => k = rb) w (w.setCell ⟨rb, 2, none⟩ (.int .i64 c)) := Kept.setCell (p := ⟨rb, 2, none⟩) (Kept.refl (fun k => k = rb) w) (fun _ => rfl) _
  refine ⟨?_, ?_, World.cell?_setCell_same _ _ _ h.c2, ?_, ?_, ?_, owns_kept h.own kp (fun g hg => h.ne g hg), h.ne, h.len, h.n1, h.n2, h.ok, hc⟩
  · rw [World.cell?_setCell_other _ _ _ _ (by simp)]; exact h.c0
  · rw [World.cell?_setCell_other _ _ _ _ (by simp)]; exact h.c1
  · rw [World.frozen?_setCell]; exact h.f0
  · rw [World.frozen?_setCell]; exact h.f1
  · rw [World.frozen?_setCell]; exact h.f2

theorem RkAt.setSure (h : RkAt w rb n sure ws pv left) (s : List UInt8) (hs : s.length = 64 * n) : RkAt (w.setCell ⟨rb, 0, none⟩ (.string (bs s))) rb n s ws pv left := by
  have kp : Kept (fun k => k = rb) w (w.setCell ⟨rb, 0, none⟩ (.string (bs s))) := Kept.setCell (p := ⟨rb, 0, none⟩) (Kept.refl (fun k => k = rb) w) (fun _ => rfl) _
  refine ⟨World.cell?_setCell_same _ _ _ h.c0, ?_, ?_, ?_, ?_, ?_, owns_kept h.own kp (fun g hg => h.ne g hg), h.ne, hs, h.n1, h.n2, h.ok, h.lb⟩
  · rw [World.cell?_setCell_other _ _ _ _ (by simp)]; exact h.c1
  · rw [World.cell?_setCell_other _ _ _ _ (by simp)]; exact h.c2
  · rw [World.frozen?_setCell]; exact h.f0
  · rw [World.frozen?_setCell]; exact h.f1
  · rw [World.frozen?_setCell]; exact h.f2

theorem RkAt.setWaits (h : RkAt w rb n sure ws pv left) (v : Value) (qs : List Wt) (hq : ∀ x ∈ qs, x.ok n) (ho : w.ownsRow 0 88 2 v qs.length (wcells qs)) (hv : ∀ g, v.ownBlock = some g → g ≠ rb) :
    RkAt (w.setCell ⟨rb, 1, none⟩ v) rb n sure qs v left := by
  have kp : Kept (fun k => k = rb) w (w.setCell ⟨rb, 1, none⟩ v) := Kept.setCell (p := ⟨rb, 1, none⟩) (Kept.refl (fun k => k = rb) w) (fun _ => rfl) _
  refine ⟨?_, World.cell?_setCell_same _ _ _ h.c1, ?_, ?_, ?_, ?_, owns_kept ho kp (fun g hg => hv g hg), hv, h.len, h.n1, h.n2, hq, h.lb⟩
  · rw [World.cell?_setCell_other _ _ _ _ (by simp)]; exact h.c0
  · rw [World.cell?_setCell_other _ _ _ _ (by simp)]; exact h.c2
  · rw [World.frozen?_setCell]; exact h.f0
  · rw [World.frozen?_setCell]; exact h.f1
  · rw [World.frozen?_setCell]; exact h.f2

set_option maxHeartbeats 400000 in
theorem there_any (h : RkAt w rb n sure ws pv left) (at_ : Int) :
    Calls Tryz.prog 49 #[.pointer (some ⟨rb, 0, none⟩), .int .i64 at_] w fun e w' => e = .returned (.bool (decide (0 ≤ at_ ∧ at_ < n))) ∧ w' = w := by
  have h0 := h.c0
  have hn2 := h.n2
  have hsz : (bs sure).size = 64 * n := by rw [bs_size, h.len]
  generalize bs sure = S at *
  have hq : ((64 * n : Nat) : Int) / 64 = (n : Int) := by omega
  have hq2 : wrap64 (n : Int) = (n : Int) := by unfold wrap64; omega
  have hq3 : IntKind.i64.wrap (n : Int) = (n : Int) := by rw [IntKind.wrap_i64]; omega
  generalize 64 * n = N at *
  clear h
  by_cases h1 : 0 ≤ at_
  · go_enter Tryz.func49, Tryz.ntmps49
    go_wp2
    go_ret
    exact ⟨by simp [h1], rfl⟩
  · go_enter Tryz.func49, Tryz.ntmps49
    go_wp2
    go_ret
    exact ⟨by simp; omega, rfl⟩

theorem less_lb {c : Int} (h : -1 ≤ c ∧ c ≤ 9223372036854775807) : -1 ≤ less c ∧ less c ≤ 9223372036854775807 := by unfold less; split <;> omega

set_option maxHeartbeats 400000 in
theorem on_any (h : RkAt w rb n sure ws pv left) :
    Calls Tryz.prog 50 #[.pointer (some ⟨rb, 0, none⟩)] w fun e w' => e = .returned (.bool (left != 0)) ∧ RkAt w' rb n sure ws pv (less left) ∧ Kept (fun k => k = rb) w w' := by
  have h2 := h.c2
  have hf := h.f2
  have hcb := h.lb
  have HL := Lib.hid (less_lb hcb)
  rcases Int.lt_trichotomy left 0 with hc | hc | hc
  · have hl : less left = left := by unfold less; rw [if_neg (by omega)]
    have he : (left == 0) = false := by simp; omega
    have hg : ¬ 0 < left := by omega
    have H := Lib.hid h; have HL := Lib.hid hl; have HE := Lib.hid he; clear h hl he
    go_enter Tryz.func50, Tryz.ntmps50
    go_wp2
    go_ret
    refine ⟨by simp [bne, HE.out], ?_, Kept.refl _ _⟩
    rw [HL.out]; exact H.out
  · subst hc
    have H := Lib.hid h; clear h
    go_enter Tryz.func50, Tryz.ntmps50
    go_wp2
    go_ret
    exact ⟨by simp, H.out, Kept.refl _ _⟩
  · have hl : less left = left - 1 := by unfold less; rw [if_pos hc]
    have hw : wrap64 (left - 1) = left - 1 := by unfold wrap64; omega
    have he : (left == 0) = false := by simp; omega
    have H := Lib.hid h; have HL2 := Lib.hid hl; have HE := Lib.hid he; have HW := Lib.hid hw; clear h hl he hw
    go_enter Tryz.func50, Tryz.ntmps50
    go_wp2
    go_ret
    refine ⟨by simp [bne, HE.out], ?_, Kept.setCell (S := fun k => k = rb) (p := ⟨rb, 2, none⟩) (Kept.refl _ _) (fun _ => rfl) _⟩
    rw [HL2.out]
    first
      | exact H.out.setLeft _ (HL2.out ▸ HL.out)
      | (rw [HW.out]; exact H.out.setLeft _ (HL2.out ▸ HL.out))

end

set_option maxHeartbeats 1000000 in
/-- lay, of whatever is long enough. -/
theorem lay_any (s b : List UInt8) (k : Nat) (w : World) (h : 64 * k + b.length ≤ s.length) (hl : s.length ≤ 10000000) :
    Calls Tryz.prog 38 #[.string (bs s), .int .i64 (64 * (k : Int)), .string (bs b)] w fun e w' => e = .returned (.string (bs (lay s k b))) ∧ Kept (fun _ => False) w w' := by
  have e0 : (64 * (k : Int)) = ((64 * k : Nat) : Int) := by omega
  rw [e0]
  have el : lay s k b = (s.take (64 * k) ++ b) ++ s.drop (64 * k + b.length) := by unfold lay splice; rw [List.append_assoc]
  rw [el]
  generalize 64 * k = K at *
  have t1 := bs_take' s K
  have t2 : (bs s).extract (K + b.length) s.length = bs (s.drop (K + b.length)) := by rw [bs_cut, List.take_length]
  have a1 := bs_append (s.take K) b
  have a2 := bs_append (s.take K ++ b) (s.drop (K + b.length))
  have z1 : (bs (s.take K)).size = K := by rw [bs_size, List.length_take]; omega
  have z2 : (bs b).size = b.length := rfl
  have z3 : (bs (s.drop (K + b.length))).size = s.length - (K + b.length) := by rw [bs_size, List.length_drop]
  have z4 : (bs (s.take K ++ b)).size = K + b.length := by rw [bs_size, List.length_append, List.length_take]; omega
  have z5 : (bs s).size = s.length := rfl
  generalize bs ((s.take K ++ b) ++ s.drop (K + b.length)) = V at *
  generalize bs (s.take K ++ b) = U at *
  generalize bs (s.drop (K + b.length)) = R at *
  generalize bs (s.take K) = T at *
  generalize bs s = S at *
  generalize bs b = Bb at *
  generalize b.length = M at *
  generalize s.length = N at *
  have b1 : (K : Int) ≤ (N : Int) := by omega
  have b2 : (K : Int) + (M : Int) ≤ (N : Int) := by omega
  have b3 : (N : Int) ≤ 10000000 := by omega
  go_enter Tryz.func38, Tryz.ntmps38
  go_wp2_with fail
  go_region
  all_goals go_wp2
  all_goals go_ret
  all_goals exact ⟨rfl, Kept.drew (Kept.refl _ _)⟩

section
variable {w w' : World} {rb n : Nat} {sure : List UInt8} {ws : List Wt} {pv : Value} {left : Int}

theorem RkAt.waits (h : RkAt w rb n sure ws pv left) (j : Nat) (hj : j < ws.length) : ∃ g cap, pv = .slice (some ⟨g, 0, none⟩) ws.length cap ∧ g ≠ rb ∧ w.cell? ⟨g, j * 2, none⟩ = some (.int .i64 ws[j].k) ∧ w.cell? ⟨g, j * 2 + 1, none⟩ = some (.string (bs ws[j].b)) := by
  rcases h.own.2 with ⟨_, h00⟩ | ⟨g, c, cur, hv, _⟩
  · omega
  · obtain ⟨e1, e2⟩ := wcells_get ws j hj
    have c1 := h.own.cells (g := g) (by rw [hv]; rfl) _ _ e1
    have c2 := h.own.cells (g := g) (by rw [hv]; rfl) _ _ e2
    rw [Addr.add_lit, Nat.zero_add] at c1 c2
    exact ⟨g, c, hv, h.ne g (by rw [hv]; rfl), c1, c2⟩

set_option maxRecDepth 100000 in
set_option maxHeartbeats 1000000 in
theorem rimage_any (h : RkAt w rb n sure ws pv left) (hw : ws.length ≤ 1000000) :
    Calls Tryz.prog 23 #[.pointer (some ⟨rb, 0, none⟩)] w fun e w' => e = .returned (.string (bs (image sure ws))) ∧ Kept (fun _ => False) w w' := by
  have h0 := h.c0
  have hn2 := h.n2
  have hlen := h.len
  obtain ⟨pa, pcap, rfl⟩ := owns_slice h.own
  have H := Lib.hid h; clear h
  go_enter Tryz.func23, Tryz.ntmps23
  go_wp2
  go_loopg [3, 4] ws.length (fun q v3 v4 wr => ∃ (j : Nat) (cur : List UInt8), q = ws.length - j ∧ j ≤ ws.length ∧ v4 = .int .i64 (j : Int) ∧ v3 = .string (bs cur) ∧ Hid (image cur (ws.drop j) = image sure ws) ∧ Hid (cur.length = 64 * n) ∧ Hid (Kept (fun _ => False) w wr))
  case atStart => exact ⟨0, sure, rfl, Nat.zero_le _, rfl, rfl, Lib.hid rfl, Lib.hid hlen, Lib.hid (Kept.refl _ _)⟩
  case round =>
    obtain ⟨j, cur, hq, hj, rfl, rfl, him, hcl, hk⟩ := hrel
    have HQ := Lib.hid hq; clear hq
    have hr := H.out.kept hk.out (fun h => h) (fun _ _ h => h)
    have hc1 := hr.c1
    by_cases hlt : j < ws.length
    · obtain ⟨g, cap, hpv, hg, hA, hB⟩ := hr.waits j hlt
      cases hpv
      have hok := hr.ok ws[j] (List.getElem_mem hlt)
      have hdr : ws.drop j = ws[j] :: ws.drop (j + 1) := List.drop_eq_getElem_cons hlt
      have hst := him.out
      rw [hdr] at hst
      generalize ws[j] = x at *
      have hst2 : image (lay cur x.k x.b) (ws.drop (j + 1)) = image sure ws := hst
      have hll := lay_length (l := cur) (k := x.k) (b := x.b) (by rw [hok.2, hcl.out]; have := hok.1; omega)
      have hlay := fun (W : World) => lay_any cur x.b x.k W (by rw [hok.2, hcl.out]; have := hok.1; omega) (by rw [hcl.out]; omega)
      have hxk : (x.k : Int) ≤ 65536 := by have := hok.1; omega
      have hm1 : wrap64 (64 * (x.k : Int)) = 64 * (x.k : Int) := by unfold wrap64; omega
      have hm2 : IntKind.i64.wrap (64 * (x.k : Int)) = 64 * (x.k : Int) := by rw [IntKind.wrap_i64]; omega
      generalize lay cur x.k x.b = nx at *
      have HST := Lib.hid hst2; have HLL := Lib.hid (hll.trans hcl.out); have HLAY := Lib.hid hlay; have HK := Lib.hid hk.out
      clear hst hst2 hll hlay hok hdr him hcl hk hr
      go_wp2_with fail
      go_region_held (fun w' => w'.cell? ⟨rb, 1, none⟩ = some (.slice (some ⟨g, 0, none⟩) ws.length pcap) ∧ w'.cell? ⟨g, j * 2, none⟩ = some (.int .i64 x.k) ∧ w'.cell? ⟨g, j * 2 + 1, none⟩ = some (.string (bs x.b))) (go_keep)
        (first | (go_at_call 38; refine (HLAY.out _).mono ?_; rintro e w2 ⟨rfl, k2⟩; have q1 : w2.cell? ⟨rb, 1, none⟩ = some (.slice (some ⟨g, 0, none⟩) ws.length pcap) := (k2.cell (p := ⟨rb, 1, none⟩) (World.block_lt_of_cell? _ _ hc1) (fun h => h)).trans hc1; have q2 : w2.cell? ⟨g, j * 2, none⟩ = some (.int .i64 x.k) := (k2.cell (p := ⟨g, j * 2, none⟩) (World.block_lt_of_cell? _ _ hA) (fun h => h)).trans hA; have q3 : w2.cell? ⟨g, j * 2 + 1, none⟩ = some (.string (bs x.b)) := (k2.cell (p := ⟨g, j * 2 + 1, none⟩) (World.block_lt_of_cell? _ _ hB) (fun h => h)).trans hB; have K2 := Lib.hid (HK.out.trans (Mk.Kept.of_drew k2) (S := fun _ => False) (fun _ _ h => h)); clear k2))
      all_goals go_wp2
      all_goals go_roundg (ws.length - (j + 1))
      all_goals first
        | (have := HQ.out; omega)
        | exact ⟨j + 1, nx, rfl, by omega, by go_num, rfl, HST, HLL, K2⟩
    · obtain rfl : j = ws.length := by omega
      have hst := him.out
      rw [List.drop_length] at hst
      have hst2 : cur = image sure ws := hst
      have HST := Lib.hid hst2; clear hst hst2
      go_wp2
      go_ret
      exact ⟨by rw [← HST.out]; rfl, hk.out⟩

end

end Go.Proofs.YtgefbolnfenfcaaGreat

/-
  CONTRACTS of the reference of layer 3: New, Read, Write, Sync, Power.
-/
namespace Go.Proofs.YtgefbolnfenfcaaGreat
open Go.RowKit Go.Mk

theorem Tryz.infoWait : (Tryz.prog.info? 88).map (fun i => (i.zero, i.size, i.bytes)) = some (some (.agg #[.int .i64 0, .string ⟨#[]⟩]), 2, 24) := by kernel_rfl

theorem src_owns {P : Program} {tx e' : TypeId} (hk : P.underlying tx = some (.slice e')) {w : World} {base : Nat} {e : TypeId} {size : Nat} {v : Value} {n : Nat} {xs : List Value} (h : w.ownsRow base e size v n xs) (h1 : ∀ u ∈ xs, u.oneCell' = true) : Src P size tx v n xs w := by
  rcases h.2 with ⟨rfl, rfl⟩ | ⟨g, cap, cur, rfl, _⟩
  · have hx : xs = [] := List.eq_nil_of_length_eq_zero (by simpa using h.1)
    subst hx
    exact Src.ofNil w hk 0
  · exact Src.ofSlice w hk _ n cap xs h.1 (h.cells rfl) h1

section
variable {w w' : World} {rb n : Nat} {sure : List UInt8} {ws : List Wt} {pv : Value} {left : Int}

set_option maxHeartbeats 400000 in
theorem rnew_any (w : World) (n : Nat) (h1 : 1 ≤ n) (h2 : n ≤ 10000) :
    Calls Tryz.prog 8 #[.int .i64 n] w fun e w' => ∃ rb, e = .returned (.pointer (some ⟨rb, 0, none⟩)) ∧ RkAt w' rb n (List.replicate (64 * n) 0) [] (.slice none 0 0) (-1) ∧ w.heap.size ≤ rb ∧ Below w.heap.size w w' := by
  have hno : ∀ W : World, Calls Tryz.prog 26 #[.int .i64 (64 * (n : Int))] W fun e w' => e = .returned (.string (bs (List.replicate (64 * n) 0))) ∧ Below W.heap.size W w' := fun W => by
    have := noughts_any W (64 * n) (by omega)
    rw [show ((64 * n : Nat) : Int) = 64 * (n : Int) by omega] at this
    exact this
  have hl : (List.replicate (64 * n) (0 : UInt8)).length = 64 * n := by simp
  generalize List.replicate (64 * n) (0 : UInt8) = rl at *
  have HNO := Lib.hid hno; have HL := Lib.hid hl; clear hno hl
  go_enter Tryz.func8, Tryz.ntmps8
  go_wp2_with fail
  refine (HNO.out _).mono ?_
  rintro e w1 ⟨rfl, b1⟩
  have B1 := Lib.hid b1; clear b1
  go_wp2
  go_ret
  have hb := heap_alloc_new w1 (.cells #[.string (bs rl), .slice none 0 0, .int .i64 (-1)] 61)
  refine ⟨w1.heap.size, rfl, ⟨by rw [cell_of_row _ _ _ _ _ _ hb]; rfl, by rw [cell_of_row _ _ _ _ _ _ hb]; rfl, by rw [cell_of_row _ _ _ _ _ _ hb]; rfl, ?_, ?_, ?_, World.ownsRow_nil _ _ _ _, by simp [Value.ownBlock], HL.out, h1, by omega, by simp, by omega⟩, B1.out.size, B1.out.alloc B1.out.size _⟩ <;> (unfold World.frozen?; rw [hb]; simp)

/-- What the document's power is, of a number of calls. -/
def norm (c : Int) : Int := if c < 0 then -1 else c
theorem norm_lb {c : Int} (h : c ≤ 9223372036854775807) : -1 ≤ norm c ∧ norm c ≤ 9223372036854775807 := by unfold norm; split <;> omega

set_option maxHeartbeats 400000 in
theorem rpower_any (h : RkAt w rb n sure ws pv left) (c : Int) (hc : c ≤ 9223372036854775807) :
    Calls Tryz.prog 12 #[.pointer (some ⟨rb, 0, none⟩), .int .i64 c] w fun e w' => (∃ v, e = .returned v) ∧ RkAt w' rb n sure ws pv (norm c) ∧ Kept (fun k => k = rb) w w' := by
  have h2 := h.c2
  have hf := h.f2
  have HNL := Lib.hid (norm_lb hc)
  by_cases h0 : c < 0
  · have e : norm c = -1 := by unfold norm; rw [if_pos h0]
    have hcx : (w.setCell ⟨rb, 2, none⟩ (.int .i64 c)).cell? ⟨rb, 2, none⟩ = some (.int .i64 c) := World.cell?_setCell_same _ _ _ h2
    have hfx : (w.setCell ⟨rb, 2, none⟩ (.int .i64 c)).frozen? ⟨rb, 2, none⟩ = false := by rw [World.frozen?_setCell]; exact hf
    have H := Lib.hid h; have E := Lib.hid e; clear h e
    go_enter Tryz.func12, Tryz.ntmps12
    go_wp2
    go_end0
    refine ⟨⟨_, rfl⟩, ?_, ?_⟩
    · rw [E.out]
      refine ⟨?_, ?_, ?_, ?_, ?_, ?_, ?_, H.out.ne, H.out.len, H.out.n1, H.out.n2, H.out.ok, by omega⟩
      · rw [World.cell?_setCell_other _ _ _ _ (by simp), World.cell?_setCell_other _ _ _ _ (by simp)]; exact H.out.c0
      · rw [World.cell?_setCell_other _ _ _ _ (by simp), World.cell?_setCell_other _ _ _ _ (by simp)]; exact H.out.c1
      · exact World.cell?_setCell_same _ _ _ hcx
      · rw [World.frozen?_setCell, World.frozen?_setCell]; exact H.out.f0
      · rw [World.frozen?_setCell, World.frozen?_setCell]; exact H.out.f1
      · rw [World.frozen?_setCell, World.frozen?_setCell]; exact H.out.f2
      · exact owns_kept H.out.own (Kept.setCell (S := fun k => k = rb) (p := ⟨rb, 2, none⟩) (Kept.setCell (S := fun k => k = rb) (p := ⟨rb, 2, none⟩) (Kept.refl _ _) (fun _ => rfl) _) (fun _ => rfl) _) (fun g hg => H.out.ne g hg)
    · exact Kept.setCell (S := fun k => k = rb) (p := ⟨rb, 2, none⟩) (Kept.setCell (S := fun k => k = rb) (p := ⟨rb, 2, none⟩) (Kept.refl _ _) (fun _ => rfl) _) (fun _ => rfl) _
  · have e : norm c = c := by unfold norm; rw [if_neg h0]
    have H := Lib.hid h; have E := Lib.hid e; clear h e
    go_enter Tryz.func12, Tryz.ntmps12
    go_wp2
    go_end0
    refine ⟨⟨_, rfl⟩, ?_, Kept.setCell (S := fun k => k = rb) (p := ⟨rb, 2, none⟩) (Kept.refl _ _) (fun _ => rfl) _⟩
    have := HNL.out
    rw [E.out] at this ⊢
    exact H.out.setLeft _ this

set_option maxHeartbeats 400000 in
theorem rsync_any (h : RkAt w rb n sure ws pv left) (hw : ws.length ≤ 1000000) :
    Calls Tryz.prog 96 #[.pointer (some ⟨rb, 0, none⟩)] w fun e w' => e = .returned (.int .i64 (if left = 0 then 20 else 0)) ∧
      (∃ pv', RkAt w' rb n (if left = 0 then sure else image sure ws) (if left = 0 then ws else []) pv' (less left) ∧ (pv' = pv ∨ pv'.ownBlock = none)) ∧ Kept (fun k => k = rb) w w' := by
  have HU := Lib.hid (on_any h)
  have hil := image_length ws sure h.len h.ok
  have HIL := Lib.hid hil
  clear h hil
  by_cases hc : left = 0
  · subst hc
    go_enter Tryz.func96, Tryz.ntmps96
    go_wp2_with fail
    refine HU.out.mono ?_
    rintro e w1 ⟨rfl, h1, k1⟩
    have H1 := Lib.hid h1; have K1 := Lib.hid k1; clear h1 k1
    go_wp2
    go_ret
    exact ⟨rfl, ⟨pv, H1.out, .inl rfl⟩, K1.out⟩
  · rw [if_neg hc, if_neg hc, if_neg hc]
    have hb : (left != 0) = true := by simpa using hc
    rw [hb] at HU
    clear hb
    go_enter Tryz.func96, Tryz.ntmps96
    go_wp2_with fail
    refine HU.out.mono ?_
    rintro e w1 ⟨rfl, h1, k1⟩
    have HIM := Lib.hid (rimage_any h1 hw)
    have H1 := Lib.hid h1; have K1 := Lib.hid k1; clear h1 k1
    go_wp2_with fail
    refine HIM.out.mono ?_
    rintro e w2 ⟨rfl, k2⟩
    have h2 := H1.out.kept k2 (fun h => h) (fun _ _ h => h)
    have h3 := h2.setSure (image sure ws) HIL.out
    have h4 := h3.setWaits (.slice none 0 0) [] (by simp) (World.ownsRow_nil _ _ _ _) (by simp [Value.ownBlock])
    have c0 := h2.c0
    have f0 := h2.f0
    have c1 := h3.c1
    have f1 := h3.f1
    have H4 := Lib.hid h4; have K2 := Lib.hid (K1.out.trans k2 (S := fun k => k = rb) (fun _ _ h => h.elim)); clear h2 h3 h4 k2
    go_wp2
    go_ret
    exact ⟨rfl, ⟨_, H4.out, .inr rfl⟩, Kept.setCell (p := ⟨rb, 1, none⟩) (Kept.setCell (p := ⟨rb, 0, none⟩) K2.out (fun _ => rfl) _) (fun _ => rfl) _⟩

set_option maxHeartbeats 1000000 in
/-- Write, where all is well. -/
theorem rwrite_ok (h : RkAt w rb n sure ws pv left) (k : Nat) (hk : k < n) (l : List UInt8) (hl : l.length = 64) (hc : left ≠ 0) (hp : ws.length ≤ 1000000) :
    Calls Tryz.prog 20 #[.pointer (some ⟨rb, 0, none⟩), .int .i64 k, .string (bs l)] w fun e w' => e = .returned (.int .i64 0) ∧
      (∃ pv', RkAt w' rb n sure (ws ++ [⟨k, l⟩]) pv' (less left) ∧ ∀ g, pv'.ownBlock = some g → w.heap.size ≤ g) ∧ Kept (fun i => i = rb) w w' := by
  obtain ⟨i0, hi, hz0, hz1, hz2⟩ := info_parts Tryz.infoWait
  have hh := there_any h k
  rw [decide_eq_true (by omega)] at hh
  have hu := on_any h
  rw [show (left != 0) = true by simpa using hc] at hu
  have hbl : (bs l).size = 64 := by rw [bs_size, hl]
  obtain ⟨pa, pcap, rfl⟩ := owns_slice h.own
  have hrlt := h.lt
  have HH := Lib.hid hh; have HU := Lib.hid hu; have HK := Lib.hid hk; have HLL := Lib.hid hl; have HP := Lib.hid hp
  clear hh hu hc hk hl h hp
  generalize hS : bs l = S at *
  have HS := Lib.hid hS; clear hS
  go_enter Tryz.func20, Tryz.ntmps20
  go_wp2_with fail
  refine HH.out.mono ?_
  rintro e w1 ⟨rfl, hw1⟩
  subst w1
  go_wp2_with fail
  refine HU.out.mono ?_
  rintro e w1 ⟨rfl, h1, k1⟩
  have hc1 := h1.c1
  have hf1 := h1.f1
  have s1 := k1.size
  have hc1a : (w1.alloc (.cells #[] 88)).cell? ⟨rb, 1, none⟩ = some (.slice pa ws.length pcap) := by rw [World.cell?_alloc_lt _ _ _ h1.lt]; exact hc1
  have H1 := Lib.hid h1; have K1 := Lib.hid k1; clear h1 k1
  go_wp2_with (at_builtin; refine wpList_app _ rfl (.tmp 20) (.tmp 24) 59 59 rfl 88 i0 (.agg #[.int .i64 0, .string ⟨#[]⟩]) 2 24 Tryz.underlying59 hi hz0 hz1 hz2 rfl (.slice (some ⟨w1.heap.size, 0, none⟩) 0 0) 0 [] rfl ?own (.slice pa ws.length pcap) ws.length (wcells ws) rfl ?src ?b1 ?b2 ?next)
  case own => exact World.ownsRow_made w1 _ 0 (Nat.zero_le _) (by unfold maxLen; omega) rfl
  case src => exact src_owns Tryz.underlying59 (owns_kept H1.out.own (S := fun _ => False) ((Kept.refl _ w1).alloc _) (fun _ _ h => h)) (wcells_one ws)
  case b1 => have := HP.out; unfold maxLen; omega
  case b2 => have := HP.out; omega
  case next =>
    intro v2 w2 ho2 hg2 hb2 _
    obtain ⟨ao2, cap2, rfl⟩ := owns_slice ho2
    try simp only [Nat.zero_add, List.nil_append] at ho2
    have k2 : Kept (fun k => w.heap.size ≤ k) w1 w2 := ((Kept.refl _ w1).alloc _).grown hg2 (fun q hq _ => by cases hq; exact s1)
    have hn2 : ∀ g, (Value.slice ao2 ws.length cap2).ownBlock = some g → w.heap.size ≤ g := fun g hg => by
      rcases hb2 with e | e
      · rw [e] at hg; cases hg; exact s1
      · rw [e] at hg; cases hg; first | omega | (simp; omega)
    try simp only [Nat.zero_add] at hn2
    try simp only [Nat.zero_add]
    have s2 := k2.size
    have HO2 := Lib.hid ho2; have K2 := Lib.hid k2; have HN2 := Lib.hid hn2
    have hc12 : w2.cell? ⟨rb, 1, none⟩ = some (.slice pa ws.length pcap) := (k2.cell (p := ⟨rb, 1, none⟩) H1.out.lt (by show ¬ w.heap.size ≤ rb; omega)).trans hc1
    clear ho2 hg2 hb2 k2 hn2
    go_wp2_with (at_builtin; refine wpList_app _ rfl (.tmp 25) (.tmp 29) 59 59 rfl 88 i0 (.agg #[.int .i64 0, .string ⟨#[]⟩]) 2 24 Tryz.underlying59 hi hz0 hz1 hz2 rfl (.slice ao2 ws.length cap2) ws.length (wcells ws) rfl ?own2 (.slice (some ⟨w2.heap.size, 0, none⟩) 1 1) 1 [.int .i64 k, .string S] rfl ?src2 ?b12 ?b22 ?next2)
    case own2 => exact HO2.out.alloc _
    case src2 =>
      refine Src.ofSlice _ Tryz.underlying59 _ 1 1 [.int .i64 k, .string S] rfl (fun j u hu => ?_) (fun u hu => by simp at hu; rcases hu with rfl | rfl <;> rfl)
      rw [Addr.add_lit, Nat.zero_add]
      exact (World.cell?_alloc_new w2 _ _ j).trans (by simpa using hu)
    case b12 => have := HP.out; unfold maxLen; omega
    case b22 => have := HP.out; omega
    case next2 =>
      intro v3 w3 ho3 hg3 hb3 _
      obtain ⟨ao3, cap3, rfl⟩ := owns_slice ho3
      have k3 : Kept (fun k => w.heap.size ≤ k) w2 w3 := ((Kept.refl _ w2).alloc _).grown hg3 (fun q hq _ => HN2.out q hq)
      have hn3 : ∀ g, (Value.slice ao3 (ws.length + 1) cap3).ownBlock = some g → w.heap.size ≤ g := fun g hg => by
        rcases hb3 with e | e
        · rw [e] at hg; exact HN2.out g hg
        · rw [e] at hg; cases hg; first | omega | (simp; omega)
      have hsv := HS.out
      have ho3' : w3.ownsRow 0 88 2 (.slice ao3 (ws.length + 1) cap3) (ws ++ [(⟨k, l⟩ : Wt)]).length (wcells (ws ++ [(⟨k, l⟩ : Wt)])) := by
        rw [wcells_snoc, List.length_append, List.length_singleton]
        show w3.ownsRow 0 _ 2 _ _ (wcells ws ++ [.int .i64 k, .string (bs l)])
        rw [hsv]
        exact ho3
      have kk := (K2.out.trans k3 (S := fun k => w.heap.size ≤ k) (fun _ _ h => h))
      have kept3 : Kept (fun k => k = rb) w w3 := K1.out.trans kk (fun i hi h => by omega)
      -- where the reference stands
      have nb : ¬ w.heap.size ≤ rb := by omega
      have hx4 : RkAt (w3.setCell ⟨rb, 1, none⟩ (.slice ao3 (ws.length + 1) cap3)) rb n sure (ws ++ [⟨k, l⟩]) (.slice ao3 (ws.length + 1) cap3) (less left) := by
        have c0 := (kk.cell (p := ⟨rb, 0, none⟩) H1.out.lt nb).trans H1.out.c0
        have c1 := (kk.cell (p := ⟨rb, 1, none⟩) H1.out.lt nb).trans H1.out.c1
        have c2 := (kk.cell (p := ⟨rb, 2, none⟩) H1.out.lt nb).trans H1.out.c2
        have f0 := (kk.frozen (p := ⟨rb, 0, none⟩) H1.out.lt nb).trans H1.out.f0
        have f1 := (kk.frozen (p := ⟨rb, 1, none⟩) H1.out.lt nb).trans H1.out.f1
        have f2 := (kk.frozen (p := ⟨rb, 2, none⟩) H1.out.lt nb).trans H1.out.f2
        have kp : Kept (fun k => k = rb) w3 (w3.setCell ⟨rb, 1, none⟩ (.slice ao3 (ws.length + 1) cap3)) := Kept.setCell (p := ⟨rb, 1, none⟩) (Kept.refl (fun k => k = rb) w3) (fun _ => rfl) _
        have hne : ∀ g, (Value.slice ao3 (ws.length + 1) cap3).ownBlock = some g → g ≠ rb := fun g hg e => by have := hn3 g hg; omega
        refine ⟨?_, World.cell?_setCell_same _ _ _ c1, ?_, ?_, ?_, ?_, owns_kept ho3' kp (fun g hg => hne g hg), hne, H1.out.len, H1.out.n1, H1.out.n2, fun x hx => ?_, H1.out.lb⟩
        · rw [World.cell?_setCell_other _ _ _ _ (by simp)]; exact c0
        · rw [World.cell?_setCell_other _ _ _ _ (by simp)]; exact c2
        · rw [World.frozen?_setCell]; exact f0
        · rw [World.frozen?_setCell]; exact f1
        · rw [World.frozen?_setCell]; exact f2
        · rcases List.mem_append.1 hx with hx | hx
          · exact H1.out.ok x hx
          · rw [List.mem_singleton] at hx; rw [hx]; exact ⟨HK.out, HLL.out⟩
      have hc13 : w3.cell? ⟨rb, 1, none⟩ = some (.slice pa ws.length pcap) := (k3.cell (p := ⟨rb, 1, none⟩) (World.block_lt_of_cell? _ _ hc12) nb).trans hc12
      have hf13 : w3.frozen? ⟨rb, 1, none⟩ = false := (kk.frozen (p := ⟨rb, 1, none⟩) H1.out.lt nb).trans hf1
      have HX4 := Lib.hid hx4; have HN3 := Lib.hid hn3; have K3 := Lib.hid kept3
      clear ho3 hg3 hb3 k3 hn3 ho3' kk kept3 hx4
      go_wp2
      go_ret
      exact ⟨rfl, ⟨_, HX4.out, HN3.out⟩, Kept.setCell (p := ⟨rb, 1, none⟩) K3.out (fun _ => rfl) _⟩

set_option maxHeartbeats 400000 in
theorem rwrite_bad (h : RkAt w rb n sure ws pv left) (k : Int) (l : List UInt8) (hb : ¬ ((0 ≤ k ∧ k < n) ∧ l.length = 64)) :
    Calls Tryz.prog 20 #[.pointer (some ⟨rb, 0, none⟩), .int .i64 k, .string (bs l)] w fun e w' => e = .returned (.int .i64 2) ∧ w' = w := by
  have hh := there_any h k
  have hsz : (bs l).size = l.length := rfl
  generalize bs l = S at *
  by_cases hk : 0 ≤ k ∧ k < n
  · have hn : ¬ l.length = 64 := fun e => hb ⟨hk, e⟩
    have hn2 : ((l.length : Int) != 64) = true := by simp; omega
    have hn3 : ¬ (l.length : Int) = 64 := by omega
    rw [decide_eq_true hk] at hh
    have HH := Lib.hid hh; clear hh h hb hk
    go_enter Tryz.func20, Tryz.ntmps20
    go_wp2_with fail
    refine HH.out.mono ?_
    rintro e w1 ⟨rfl, hw1⟩
    subst w1
    go_wp2
    go_ret
    exact ⟨rfl, rfl⟩
  · rw [decide_eq_false hk] at hh
    have HH := Lib.hid hh; clear hh h hb hk
    go_enter Tryz.func20, Tryz.ntmps20
    go_wp2_with fail
    refine HH.out.mono ?_
    rintro e w1 ⟨rfl, hw1⟩
    subst w1
    go_wp2
    go_ret
    exact ⟨rfl, rfl⟩

set_option maxHeartbeats 400000 in
theorem rwrite_off (h : RkAt w rb n sure ws pv 0) (k : Int) (l : List UInt8) (hk : 0 ≤ k ∧ k < n) (hl : l.length = 64) :
    Calls Tryz.prog 20 #[.pointer (some ⟨rb, 0, none⟩), .int .i64 k, .string (bs l)] w fun e w' => e = .returned (.int .i64 20) ∧ RkAt w' rb n sure ws pv 0 ∧ Kept (fun i => i = rb) w w' := by
  have hh := there_any h k
  have hsz : (bs l).size = 64 := hl
  rw [decide_eq_true hk] at hh
  have HU := Lib.hid (on_any h)
  have HH := Lib.hid hh; clear hh h hk
  generalize bs l = S at *
  go_enter Tryz.func20, Tryz.ntmps20
  go_wp2_with fail
  refine HH.out.mono ?_
  rintro e w1 ⟨rfl, hw1⟩
  subst w1
  go_wp2_with fail
  refine HU.out.mono ?_
  rintro e w1 ⟨rfl, h1, k1⟩
  have H1 := Lib.hid h1; have K1 := Lib.hid k1; clear h1 k1
  go_wp2
  go_ret
  exact ⟨rfl, H1.out, K1.out⟩

end

end Go.Proofs.YtgefbolnfenfcaaGreat

/-
  CONTRACTS of the reference of layer 3: Crash.
-/
namespace Go.Proofs.YtgefbolnfenfcaaGreat
open Go.RowKit Go.Mk

set_option maxRecDepth 100000 in
set_option maxHeartbeats 4000000 in
theorem rcrash_any {w : World} {rb n : Nat} {sure : List UInt8} {ws : List Wt} {pv : Value} {left : Int} (h : RkAt w rb n sure ws pv left) (ao : Option Addr) (kcap : Nat) (ks : List Bool) (hL : Lies w w.heap.size ao (ks.map .bool)) (hn : ks ≠ [] → ∀ a, ao = some a → a.block ≠ rb) (torn octets : Int)
    (hob : -9223372036854775808 ≤ octets ∧ octets ≤ 9223372036854775807) (hw : ws.length ≤ 1000000) (hkl : ks.length ≤ 1000000) :
    Calls Tryz.prog 14 #[.pointer (some ⟨rb, 0, none⟩), .slice ao ks.length kcap, .int .i64 torn, .int .i64 octets] w fun e w' => (∃ v, e = .returned v) ∧
      RkAt w' rb n (crash ks torn (octs octets) 0 ws sure) [] (.slice none 0 0) (-1) ∧ Kept (fun k => k = rb) w w' := by
  obtain ⟨pa, pcap, rfl⟩ := owns_slice h.own
  have hn2 := h.n2
  have H := Lib.hid h; have HL := Lib.hid hL; have HN := Lib.hid hn; clear h hL hn
  go_enter Tryz.func14, Tryz.ntmps14
  go_upto_if 13 with fail
  go_cut [8] (fun v wx => v = .int .i64 (max octets 0) ∧ w = wx)
  case first =>
    by_cases h0 : octets < 0
    · have e : max octets 0 = 0 := by omega
      have E := Lib.hid e; clear e
      go_wp2_with fail
      go_meet
      case rel => exact ⟨by rw [E.out], rfl⟩
    · have e : max octets 0 = octets := by omega
      have E := Lib.hid e; clear e
      go_wp2_with fail
      go_meet
      case rel => exact ⟨by rw [E.out], rfl⟩
  case rest =>
    obtain ⟨rfl, rfl⟩ := hcut
    obtain ⟨mo, hmo⟩ : ∃ mo, max octets 0 = mo := ⟨_, rfl⟩
    rw [hmo]
    have hoc : octs octets = (min mo 64).toNat := by rw [← hmo]; rfl
    have hm0 : 0 ≤ mo := by omega
    have HMO := Lib.hid hmo; have HOC := Lib.hid hoc; clear hmo hoc
    go_upto_if 15 with fail
    go_cut [8] (fun v wx => v = .int .i64 ((octs octets : Nat) : Int) ∧ w = wx)
    case first =>
      by_cases h0 : 64 < mo
      · have e : ((octs octets : Nat) : Int) = 64 := by rw [HOC.out]; omega
        have E := Lib.hid e; clear e
        go_wp2_with fail
        go_meet
        case rel => exact ⟨by rw [E.out], rfl⟩
      · have e : ((octs octets : Nat) : Int) = mo := by rw [HOC.out]; omega
        have E := Lib.hid e; clear e
        go_wp2_with fail
        go_meet
        case rel => exact ⟨by rw [E.out], rfl⟩
    case rest =>
      obtain ⟨rfl, rfl⟩ := hcut
      have hol := octs_le octets
      clear HMO HOC hm0
      obtain ⟨o, ho⟩ : ∃ o, octs octets = o := ⟨_, rfl⟩
      rw [ho] at hol ⊢
      have HO := Lib.hid ho; clear ho
      go_wp2_with fail
      go_loopg [9] ws.length (fun q v9 wr => ∃ (j : Nat) (cur : List UInt8), q = ws.length - j ∧ j ≤ ws.length ∧ v9 = .int .i64 (j : Int) ∧ Hid (RkAt wr rb n cur ws (.slice pa ws.length pcap) left) ∧ Hid (crash ks torn o j (ws.drop j) cur = crash ks torn o 0 ws sure) ∧ Hid (Kept (fun k => k = rb) w wr))
      case atStart => exact ⟨0, sure, rfl, Nat.zero_le _, rfl, H, Lib.hid rfl, Lib.hid (Kept.refl _ _)⟩
      case round =>
        obtain ⟨j, cur, hq, hj, rfl, hr, hst, hk⟩ := hrel
        have HQ := Lib.hid hq; clear hq
        have hc1 := hr.out.c1
        by_cases hlt : j < ws.length
        · have HLT := Lib.hid hlt
          obtain ⟨g, cap, hpv, hg, hA, hB⟩ := hr.out.waits j hlt
          cases hpv
          have hok := hr.out.ok ws[j] (List.getElem_mem hlt)
          have hdr : ws.drop j = ws[j] :: ws.drop (j + 1) := List.drop_eq_getElem_cons hlt
          have hst1 := hst.out
          rw [hdr, crash] at hst1
          generalize ws[j] = x at *
          have hcl := hr.out.len
          have hxk : (x.k : Int) ≤ 65536 := by have := hok.1; omega
          have hm1 : wrap64 (64 * (x.k : Int)) = 64 * (x.k : Int) := by unfold wrap64; omega
          have hm2 : IntKind.i64.wrap (64 * (x.k : Int)) = 64 * (x.k : Int) := by rw [IntKind.wrap_i64]; omega
          have hka : Kept (fun _ => False) wr (wr.alloc (.cells #[.int .i64 x.k, .string (bs x.b)] 88)) := (Kept.refl _ wr).alloc _
          have e0 : (wr.alloc (.cells #[.int .i64 x.k, .string (bs x.b)] 88)).cell? ⟨rb, 0, none⟩ = some (.string (bs cur)) := (hka.cell (p := ⟨rb, 0, none⟩) hr.out.lt (fun h => h)).trans hr.out.c0
          have e1 : (wr.alloc (.cells #[.int .i64 x.k, .string (bs x.b)] 88)).cell? ⟨wr.heap.size, 0, none⟩ = some (.int .i64 x.k) := World.cell?_alloc_new wr _ _ 0
          have e2 : (wr.alloc (.cells #[.int .i64 x.k, .string (bs x.b)] 88)).cell? ⟨wr.heap.size, 1, none⟩ = some (.string (bs x.b)) := World.cell?_alloc_new wr _ _ 1
          have HX0 := Lib.hid (hr.out.kept hka (fun h => h) (fun _ _ h => h)); have HK0 := Lib.hid (hk.out.trans hka (S := fun k => k = rb) (fun _ _ h => h.elim))
          have HKA := Lib.hid hka; clear hka
          have hxl : (bs x.b).size = 64 := by rw [bs_size, hok.2]
          by_cases ht : (j : Int) = torn
          · have hs1 : crash1 ks torn o j x cur = lay cur x.k (x.b.take o) := by unfold crash1; rw [if_pos ht]
            rw [hs1] at hst1
            have htl : (x.b.take o).length ≤ 64 := by rw [List.length_take]; omega
            have hll := lay_length (l := cur) (k := x.k) (b := x.b.take o) (by rw [hcl]; have := hok.1; omega)
            have hlay := fun (W : World) => lay_any cur (x.b.take o) x.k W (by rw [hcl]; have := hok.1; omega) (by rw [hcl]; omega)
            have bt := bs_take' x.b o
            have hob2 : (o : Int) ≤ 64 := by omega
            generalize lay cur x.k (x.b.take o) = nx at *
            generalize bs (x.b.take o) = TB at *
            have HST := Lib.hid hst1; have HLL := Lib.hid (hll.trans hcl); have HLAY := Lib.hid hlay
            clear hst1 hll hlay hok hdr hst hs1 htl
            subst ht
            go_wp2_with fail
            go_region_with (go_at_call 38; refine (HLAY.out _).mono ?_; rintro e w2 ⟨rfl, k2⟩; have kw2 := (HKA.out.trans (Mk.Kept.of_drew k2) (S := fun _ => False) (fun _ _ h => h)); have hr2 := hr.out.kept kw2 (fun h => h) (fun _ _ h => h); have q0 := hr2.c0; have qf := hr2.f0; have HX2 := Lib.hid (hr2.setSure nx HLL.out); have K2 := Lib.hid (Kept.setCell (p := ⟨rb, 0, none⟩) (hk.out.trans kw2 (S := fun k => k = rb) (fun _ _ h => h.elim)) (fun _ => rfl) (.string (bs nx))); clear k2 kw2 hr2)
            all_goals go_wp2
            all_goals go_roundg (ws.length - (j + 1))
            all_goals first
              | (have := HQ.out; have := HLT.out; omega)
              | exact ⟨j + 1, nx, rfl, HLT.out, by go_num, HX2, Lib.hid HST.out, K2⟩
          · have htb : ((j : Int) == torn) = false := by simpa using ht
            by_cases hjk : j < ks.length
            · obtain ⟨kb, ko, rfl, hkb, hkc⟩ := HL.out (by intro h; rw [List.map_eq_nil_iff] at h; rw [h] at hjk; simp at hjk)
              have hkg := HN.out (by intro h; rw [h] at hjk; simp at hjk) _ rfl
              have hkc0 := hkc j (.bool ks[j]) (by simp [hjk])
              have hkcr := (hk.out.cell (p := ⟨kb, ko + j, none⟩) hkb (by exact hkg)).trans hkc0
              have hkc1 : (wr.alloc (.cells #[.int .i64 x.k, .string (bs x.b)] 88)).cell? ⟨kb, ko + j, none⟩ = some (.bool ks[j]) := (HKA.out.cell (p := ⟨kb, ko + j, none⟩) (World.block_lt_of_cell? _ _ hkcr) (fun h => h)).trans hkcr
              have hgk : ks[j]? = some ks[j] := List.getElem?_eq_getElem hjk
              clear hkc hkc0 hkcr hkb
              cases hkj : ks[j] with
              | true =>
                rw [hkj] at hkc1 hgk
                have hs1 : crash1 ks torn o j x cur = lay cur x.k x.b := by unfold crash1; rw [if_neg ht, if_pos hgk]
                rw [hs1] at hst1
                have hll := lay_length (l := cur) (k := x.k) (b := x.b) (by rw [hcl, hok.2]; have := hok.1; omega)
                have hlay := fun (W : World) => lay_any cur x.b x.k W (by rw [hcl, hok.2]; have := hok.1; omega) (by rw [hcl]; omega)
                generalize lay cur x.k x.b = nx at *
                have HST := Lib.hid hst1; have HLL := Lib.hid (hll.trans hcl); have HLAY := Lib.hid hlay
                clear hst1 hll hlay hok hdr hst hs1 hgk hkj hkg ht
                go_wp2_with fail
                go_region_with (go_at_call 38; refine (HLAY.out _).mono ?_; rintro e w2 ⟨rfl, k2⟩; have kw2 := (HKA.out.trans (Mk.Kept.of_drew k2) (S := fun _ => False) (fun _ _ h => h)); have hr2 := hr.out.kept kw2 (fun h => h) (fun _ _ h => h); have q0 := hr2.c0; have qf := hr2.f0; have HX2 := Lib.hid (hr2.setSure nx HLL.out); have K2 := Lib.hid (Kept.setCell (p := ⟨rb, 0, none⟩) (hk.out.trans kw2 (S := fun k => k = rb) (fun _ _ h => h.elim)) (fun _ => rfl) (.string (bs nx))); clear k2 kw2 hr2)
                all_goals go_wp2
                all_goals go_roundg (ws.length - (j + 1))
                all_goals first
                  | (have := HQ.out; have := HLT.out; omega)
                  | exact ⟨j + 1, nx, rfl, HLT.out, by go_num, HX2, Lib.hid HST.out, K2⟩
              | false =>
                rw [hkj] at hkc1 hgk
                have hs1 : crash1 ks torn o j x cur = cur := by unfold crash1; rw [if_neg ht, if_neg (by rw [hgk]; simp)]
                rw [hs1] at hst1
                have HST := Lib.hid hst1
                clear hst1 hok hdr hst hs1 hgk hkj hkg ht
                go_wp2
                go_roundg (ws.length - (j + 1))
                case measure => have := HQ.out; have := HLT.out; omega
                case rel => exact ⟨j + 1, cur, rfl, HLT.out, by go_num, HX0, Lib.hid HST.out, HK0⟩
            · have hgk : ks[j]? = none := List.getElem?_eq_none (by omega)
              have hs1 : crash1 ks torn o j x cur = cur := by unfold crash1; rw [if_neg ht, if_neg (by rw [hgk]; simp)]
              rw [hs1] at hst1
              have HST := Lib.hid hst1
              clear hst1 hok hdr hst hs1 hgk ht
              go_wp2
              go_roundg (ws.length - (j + 1))
              case measure => have := HQ.out; have := HLT.out; omega
              case rel => exact ⟨j + 1, cur, rfl, HLT.out, by go_num, HX0, Lib.hid HST.out, HK0⟩
        · obtain rfl : j = ws.length := by omega
          have hst2 := hst.out
          rw [List.drop_length] at hst2
          have hst3 : cur = crash ks torn o 0 ws sure := hst2
          have h1 := hr.out
          have h2 := h1.setWaits (.slice none 0 0) [] (by simp) (World.ownsRow_nil _ _ _ _) (by simp [Value.ownBlock])
          have h3 := h2.setLeft (-1) (by omega)
          rw [hst3] at h3
          have c1 := h1.c1
          have f1 := h1.f1
          have c2 := h2.c2
          have f2 := h2.f2
          have H3 := Lib.hid h3; clear h1 h2 h3 hst2 hst3
          go_wp2
          go_end0
          exact ⟨⟨_, rfl⟩, by rw [HO.out]; exact H3.out, Kept.setCell (p := ⟨rb, 2, none⟩) (Kept.setCell (p := ⟨rb, 1, none⟩) hk.out (fun _ => rfl) _) (fun _ => rfl) _⟩

end Go.Proofs.YtgefbolnfenfcaaGreat

/-
  CONTRACTS of the reference of layer 3 beside the disk's: its power is the disk's, of a negative number -1; M: the blocks of the reference's Disk.
-/
namespace Go.Proofs.YtgefbolnfenfcaaGreat
open Go.RowKit Go.Mk

theorem norm_zero (c : Int) : norm c = 0 ↔ c = 0 := by unfold norm; split <;> omega
theorem norm_less (c : Int) : less (norm c) = norm (less c) := by
  rcases Int.lt_trichotomy c 0 with h | h | h
  · have e1 : norm c = -1 := by unfold norm; rw [if_pos h]
    have e2 : less c = c := by unfold less; rw [if_neg (by omega)]
    rw [e1, e2, e1]; rfl
  · subst h; rfl
  · have e1 : norm c = c := by unfold norm; rw [if_neg (by omega)]
    have e2 : less c = c - 1 := by unfold less; rw [if_pos h]
    have e3 : norm (c - 1) = c - 1 := by unfold norm; rw [if_neg (by omega)]
    rw [e1, e2, e3]
theorem writeE_norm (n : Nat) (c k : Int) (l : List UInt8) : writeE n (norm c) k l = writeE n c k l := by
  unfold writeE
  simp only [norm_zero]
theorem writeW_norm (n : Nat) (c k : Int) (l : List UInt8) (ws : List Wt) : writeW n (norm c) k l ws = writeW n c k l ws := by
  unfold writeW
  simp only [ne_eq, norm_zero]
theorem writeC_norm (n : Nat) (c k : Int) (l : List UInt8) : writeC n (norm c) k l = norm (writeC n c k l) := by
  unfold writeC
  split
  · exact norm_less c
  · rfl

structure Rk (w : World) (M : Nat → Prop) (rb n : Nat) (base : List UInt8) (ws : List Wt) (calls : Int) : Prop where
  at_ : ∃ pv, RkAt w rb n base ws pv (norm calls) ∧ ∀ g, pv.ownBlock = some g → M g
  mem : M rb
  lt : ∀ k, M k → k < w.heap.size

section
variable {w w' : World} {M : Nat → Prop} {rb n : Nat} {base : List UInt8} {ws : List Wt} {calls : Int}

theorem Rk.kept {S : Nat → Prop} (h : Rk w M rb n base ws calls) (hk : Kept S w w') (hs : ∀ k, M k → ¬ S k) : Rk w' M rb n base ws calls := by
  obtain ⟨pv, h1, h5⟩ := h.at_
  exact ⟨⟨pv, h1.kept hk (hs rb h.mem) (fun g hg => hs g (h5 g hg)), h5⟩, h.mem, fun k hk' => Nat.lt_of_lt_of_le (h.lt k hk') hk.size⟩

theorem rknew_any (w : World) (n : Nat) (h1 : 1 ≤ n) (h2 : n ≤ 10000) :
    Calls Tryz.prog 8 #[.int .i64 n] w fun e w' => ∃ rb M, e = .returned (.pointer (some ⟨rb, 0, none⟩)) ∧ Rk w' M rb n (List.replicate (64 * n) 0) [] (-1) ∧ (∀ k, M k → w.heap.size ≤ k) ∧ Below w.heap.size w w' := by
  refine (rnew_any w n h1 h2).mono ?_
  rintro e w1 ⟨rb, rfl, hx, hrb, hb⟩
  exact ⟨rb, fun k => w.heap.size ≤ k ∧ k < w1.heap.size, rfl, ⟨⟨_, hx, by simp [Value.ownBlock]⟩, ⟨hrb, hx.lt⟩, fun k hk => hk.2⟩, fun k hk => hk.1, hb⟩

theorem rkimage_any (h : Rk w M rb n base ws calls) (hw : ws.length ≤ 1000000) :
    Calls Tryz.prog 23 #[.pointer (some ⟨rb, 0, none⟩)] w fun e w' => e = .returned (.string (bs (image base ws))) ∧ Kept (fun _ => False) w w' := by
  obtain ⟨pv, h1, h5⟩ := h.at_
  exact rimage_any h1 hw

theorem rkpower_any (h : Rk w M rb n base ws calls) (c : Int) (hc : c ≤ 9223372036854775807) :
    Calls Tryz.prog 12 #[.pointer (some ⟨rb, 0, none⟩), .int .i64 c] w fun e w' => (∃ v, e = .returned v) ∧ Rk w' M rb n base ws c ∧ Kept M w w' := by
  obtain ⟨pv, h1, h5⟩ := h.at_
  refine (rpower_any h1 c hc).mono ?_
  rintro e w1 ⟨he, hx, hk⟩
  exact ⟨he, ⟨⟨pv, hx, h5⟩, h.mem, fun k hk' => Nat.lt_of_lt_of_le (h.lt k hk') hk.size⟩, hk.mono (fun k _ e => by rw [e]; exact h.mem)⟩

theorem rksync_any (h : Rk w M rb n base ws calls) (hw : ws.length ≤ 1000000) :
    Calls Tryz.prog 96 #[.pointer (some ⟨rb, 0, none⟩)] w fun e w' => e = .returned (.int .i64 (if calls = 0 then 20 else 0)) ∧
      Rk w' M rb n (if calls = 0 then base else image base ws) (if calls = 0 then ws else []) (less calls) ∧ Kept M w w' := by
  obtain ⟨pv, h1, h5⟩ := h.at_
  refine (rsync_any h1 hw).mono ?_
  rintro e w1 ⟨he, ⟨pv', hx, hp⟩, hk⟩
  simp only [norm_zero] at he hx
  rw [norm_less] at hx
  refine ⟨he, ⟨⟨pv', hx, fun g hg => ?_⟩, h.mem, fun k hk' => Nat.lt_of_lt_of_le (h.lt k hk') hk.size⟩, hk.mono (fun k _ e => by rw [e]; exact h.mem)⟩
  rcases hp with rfl | hp
  · exact h5 g hg
  · rw [hp] at hg; cases hg

theorem rkwrite_any (h : Rk w M rb n base ws calls) (k : Int) (l : List UInt8) (hp : ws.length ≤ 1000000) :
    Calls Tryz.prog 20 #[.pointer (some ⟨rb, 0, none⟩), .int .i64 k, .string (bs l)] w fun e w' => e = .returned (.int .i64 (writeE n calls k l)) ∧
      ∃ M', Rk w' M' rb n base (writeW n calls k l ws) (writeC n calls k l) ∧ (∀ i, M' i → M i ∨ w.heap.size ≤ i) ∧ Kept M w w' := by
  obtain ⟨pv, h1, h5⟩ := h.at_
  by_cases hk : (0 ≤ k ∧ k < n) ∧ l.length = 64
  · by_cases hc : calls = 0
    · subst hc
      have e1 : writeE n 0 k l = 20 := by unfold writeE; rw [if_pos hk, if_pos rfl]
      have e2 : writeW n 0 k l ws = ws := by unfold writeW; rw [if_neg (by simp)]
      have e3 : writeC n 0 k l = 0 := by unfold writeC; rw [if_pos hk]; rfl
      rw [e1, e2, e3]
      refine (rwrite_off h1 k l hk.1 hk.2).mono ?_
      rintro e w1 ⟨rfl, hx, hkk⟩
      exact ⟨rfl, M, ⟨⟨pv, hx, h5⟩, h.mem, fun i hi => Nat.lt_of_lt_of_le (h.lt i hi) hkk.size⟩, fun i hi => .inl hi, hkk.mono (fun i _ e => by rw [e]; exact h.mem)⟩
    · have e1 : writeE n calls k l = 0 := by unfold writeE; rw [if_pos hk, if_neg hc]
      have e2 : writeW n calls k l ws = ws ++ [⟨k.toNat, l⟩] := by unfold writeW; rw [if_pos ⟨hk, hc⟩]
      have e3 : writeC n calls k l = less calls := by unfold writeC; rw [if_pos hk]
      rw [e1, e2, e3]
      obtain ⟨q, rfl⟩ : ∃ q : Nat, k = q := ⟨k.toNat, by omega⟩
      rw [show ((q : Int)).toNat = q by omega]
      refine (rwrite_ok h1 q (by omega) l hk.2 (fun e => hc ((norm_zero _).1 e)) hp).mono ?_
      rintro e w1 ⟨rfl, ⟨pv', hx, hpv⟩, hkk⟩
      rw [norm_less] at hx
      have hok := hx.own
      refine ⟨rfl, fun i => M i ∨ (w.heap.size ≤ i ∧ i < w1.heap.size), ⟨⟨pv', hx, fun g hg => .inr ⟨hpv g hg, (owns_lt hok g hg).2⟩⟩, .inl h.mem, fun i hi => ?_⟩, fun i hi => hi.imp id (·.1), hkk.mono (fun i _ e => by rw [e]; exact h.mem)⟩
      rcases hi with hi | hi
      · exact Nat.lt_of_lt_of_le (h.lt i hi) hkk.size
      · exact hi.2
  · have e1 : writeE n calls k l = 2 := by unfold writeE; rw [if_neg hk]
    have e2 : writeW n calls k l ws = ws := by unfold writeW; rw [if_neg (fun h => hk h.1)]
    have e3 : writeC n calls k l = calls := by unfold writeC; rw [if_neg hk]
    rw [e1, e2, e3]
    refine (rwrite_bad h1 k l hk).mono ?_
    rintro e w1 ⟨rfl, rfl⟩
    exact ⟨rfl, M, h, fun i hi => .inl hi, Kept.refl _ _⟩

theorem rkcrash_any (h : Rk w M rb n base ws calls) (ao : Option Addr) (kcap : Nat) (ks : List Bool) (hL : Lies w w.heap.size ao (ks.map .bool)) (hn : ks ≠ [] → ∀ a, ao = some a → ¬ M a.block) (torn octets : Int) (hob : -9223372036854775808 ≤ octets ∧ octets ≤ 9223372036854775807) (hp : ws.length ≤ 1000000) (hkl : ks.length ≤ 1000000) :
    Calls Tryz.prog 14 #[.pointer (some ⟨rb, 0, none⟩), .slice ao ks.length kcap, .int .i64 torn, .int .i64 octets] w fun e w' => (∃ v, e = .returned v) ∧
      Rk w' M rb n (crash ks torn (octs octets) 0 ws base) [] (-1) ∧ Kept M w w' := by
  obtain ⟨pv, h1, h5⟩ := h.at_
  refine (rcrash_any h1 ao kcap ks hL (fun hne a ha e => hn hne a ha (by rw [e]; exact h.mem)) torn octets hob hp hkl).mono ?_
  rintro e w1 ⟨he, hx, hk⟩
  exact ⟨he, ⟨⟨_, hx, by simp [Value.ownBlock]⟩, h.mem, fun i hi => Nat.lt_of_lt_of_le (h.lt i hi) hk.size⟩, hk.mono (fun i _ e => by rw [e]; exact h.mem)⟩

end

end Go.Proofs.YtgefbolnfenfcaaGreat
