/-
  CONTRACTS of the reference of layer 3.
-/
import Derived.Test.YtobikgcoekiboaaL3
import Derived.Test.YtobikgcoekiboaaBy2
import Derived.Deep.RegionHeld
namespace Go.Proofs.Ytobikgcoekiboaa
open Go.RowKit Go.Mk

def wtCells (x : Wt) : List Value := [.int .i64 x.k, .string (bs x.b)]
def wcells (ws : List Wt) : List Value := ws.flatMap wtCells
theorem wcells_length : ∀ ws : List Wt, (wcells ws).length = ws.length * 2
  | [] => rfl
  | x :: ws => by
    have := wcells_length ws
    simp only [wcells, List.flatMap_cons, List.length_append, List.length_cons] at this ⊢
    simp [wtCells] at this ⊢
    omega
theorem wcells_snoc (ws : List Wt) (x : Wt) : wcells (ws ++ [x]) = wcells ws ++ wtCells x := by simp [wcells]
theorem wcells_get : ∀ (ws : List Wt) (i : Nat) (hi : i < ws.length), (wcells ws)[i * 2]? = some (.int .i64 ws[i].k) ∧ (wcells ws)[i * 2 + 1]? = some (.string (bs ws[i].b))
  | [], _, hi => by simp at hi
  | x :: ws, 0, _ => by simp [wcells, wtCells]
  | x :: ws, i + 1, hi => by
    have := wcells_get ws i (by simpa using hi)
    have e : wcells (x :: ws) = .int .i64 x.k :: .string (bs x.b) :: wcells ws := by simp [wcells, wtCells]
    rw [e, show (i + 1) * 2 = i * 2 + 1 + 1 by omega]
    simpa using this
theorem wcells_one (ws : List Wt) : ∀ u ∈ wcells ws, u.oneCell' = true := by
  intro u hu
  obtain ⟨x, _, hx⟩ := List.mem_flatMap.1 hu
  simp [wtCells] at hx
  rcases hx with rfl | rfl <;> rfl

/-- The reference's Disk at block rb. -/
structure RkAt (w : World) (rb n : Nat) (sure : List UInt8) (ws : List Wt) (pv : Value) (left : Int) : Prop where
  c0 : w.cell? ⟨rb, 0, none⟩ = some (.string (bs sure))
  c1 : w.cell? ⟨rb, 1, none⟩ = some pv
  c2 : w.cell? ⟨rb, 2, none⟩ = some (.int .i64 left)
  f0 : w.frozen? ⟨rb, 0, none⟩ = false
  f1 : w.frozen? ⟨rb, 1, none⟩ = false
  f2 : w.frozen? ⟨rb, 2, none⟩ = false
  own : w.ownsRow 0 92 2 pv ws.length (wcells ws)
  ne : ∀ g, pv.ownBlock = some g → g ≠ rb
  len : sure.length = 64 * n
  n1 : 1 ≤ n
  n2 : n ≤ 65536
  ok : ∀ x ∈ ws, x.ok n
  lb : -1 ≤ left ∧ left ≤ 9223372036854775807

section
variable {w w' : World} {rb n : Nat} {sure : List UInt8} {ws : List Wt} {pv : Value} {left : Int}

theorem RkAt.lt (h : RkAt w rb n sure ws pv left) : rb < w.heap.size := World.block_lt_of_cell? _ _ h.c0

theorem RkAt.kept {S : Nat → Prop} (h : RkAt w rb n sure ws pv left) (hk : Kept S w w') (h1 : ¬ S rb) (h3 : ∀ g, pv.ownBlock = some g → ¬ S g) : RkAt w' rb n sure ws pv left :=
  ⟨(hk.cell (p := ⟨rb, 0, none⟩) h.lt h1).trans h.c0, (hk.cell (p := ⟨rb, 1, none⟩) h.lt h1).trans h.c1, (hk.cell (p := ⟨rb, 2, none⟩) h.lt h1).trans h.c2,
    (hk.frozen (p := ⟨rb, 0, none⟩) h.lt h1).trans h.f0, (hk.frozen (p := ⟨rb, 1, none⟩) h.lt h1).trans h.f1, (hk.frozen (p := ⟨rb, 2, none⟩) h.lt h1).trans h.f2,
    owns_kept h.own hk h3, h.ne, h.len, h.n1, h.n2, h.ok, h.lb⟩

theorem RkAt.setLeft (h : RkAt w rb n sure ws pv left) (c : Int) (hc : -1 ≤ c ∧ c ≤ 9223372036854775807) : RkAt (w.setCell ⟨rb, 2, none⟩ (.int .i64 c)) rb n sure ws pv c := by
  have kp : Kept (fun k => k = rb) w (w.setCell ⟨rb, 2, none⟩ (.int .i64 c)) := Kept.setCell (p := ⟨rb, 2, none⟩) (Kept.refl (fun k => k = rb) w) (fun _ => rfl) _
  refine ⟨?_, ?_, World.cell?_setCell_same _ _ _ h.c2, ?_, ?_, ?_, owns_kept h.own kp (fun g hg => h.ne g hg), h.ne, h.len, h.n1, h.n2, h.ok, hc⟩
  · rw [World.cell?_setCell_other _ _ _ _ (by simp)]; exact h.c0
  · rw [World.cell?_setCell_other _ _ _ _ (by simp)]; exact h.c1
  · rw [World.frozen?_setCell]; exact h.f0
  · rw [World.frozen?_setCell]; exact h.f1
  · rw [World.frozen?_setCell]; exact h.f2

theorem RkAt.setSure (h : RkAt w rb n sure ws pv left) (s : List UInt8) (hs : s.length = 64 * n) : RkAt (w.setCell ⟨rb, 0, none⟩ (.string (bs s))) rb n s ws pv left := by
  have kp : Kept (fun k => k = rb) w (w.setCell ⟨rb, 0, none⟩ (.string (bs s))) := Kept.setCell (p := ⟨rb, 0, none⟩) (Kept.refl (fun k => k = rb) w) (fun _ => rfl) _
  refine ⟨World.cell?_setCell_same _ _ _ h.c0, ?_, ?_, ?_, ?_, ?_, owns_kept h.own kp (fun g hg => h.ne g hg), h.ne, hs, h.n1, h.n2, h.ok, h.lb⟩
  · rw [World.cell?_setCell_other _ _ _ _ (by simp)]; exact h.c1
  · rw [World.cell?_setCell_other _ _ _ _ (by simp)]; exact h.c2
  · rw [World.frozen?_setCell]; exact h.f0
  · rw [World.frozen?_setCell]; exact h.f1
  · rw [World.frozen?_setCell]; exact h.f2

theorem RkAt.setWaits (h : RkAt w rb n sure ws pv left) (v : Value) (qs : List Wt) (hq : ∀ x ∈ qs, x.ok n) (ho : w.ownsRow 0 92 2 v qs.length (wcells qs)) (hv : ∀ g, v.ownBlock = some g → g ≠ rb) :
    RkAt (w.setCell ⟨rb, 1, none⟩ v) rb n sure qs v left := by
  have kp : Kept (fun k => k = rb) w (w.setCell ⟨rb, 1, none⟩ v) := Kept.setCell (p := ⟨rb, 1, none⟩) (Kept.refl (fun k => k = rb) w) (fun _ => rfl) _
  refine ⟨?_, World.cell?_setCell_same _ _ _ h.c1, ?_, ?_, ?_, ?_, owns_kept ho kp (fun g hg => hv g hg), hv, h.len, h.n1, h.n2, hq, h.lb⟩
  · rw [World.cell?_setCell_other _ _ _ _ (by simp)]; exact h.c0
  · rw [World.cell?_setCell_other _ _ _ _ (by simp)]; exact h.c2
  · rw [World.frozen?_setCell]; exact h.f0
  · rw [World.frozen?_setCell]; exact h.f1
  · rw [World.frozen?_setCell]; exact h.f2

set_option maxHeartbeats 400000 in
theorem there_any (h : RkAt w rb n sure ws pv left) (at_ : Int) :
    Calls Try.prog 58 #[.pointer (some ⟨rb, 0, none⟩), .int .i64 at_] w fun e w' => e = .returned (.bool (decide (0 ≤ at_ ∧ at_ < n))) ∧ w' = w := by
  have h0 := h.c0
  have hn2 := h.n2
  have hsz : (bs sure).size = 64 * n := by rw [bs_size, h.len]
  generalize bs sure = S at *
  have hq : ((64 * n : Nat) : Int) / 64 = (n : Int) := by omega
  have hq2 : wrap64 (n : Int) = (n : Int) := by unfold wrap64; omega
  have hq3 : IntKind.i64.wrap (n : Int) = (n : Int) := by rw [IntKind.wrap_i64]; omega
  generalize 64 * n = N at *
  clear h
  by_cases h1 : 0 ≤ at_
  · go_enter Try.func58, Try.ntmps58
    go_wp2
    go_ret
    exact ⟨by simp [h1], rfl⟩
  · go_enter Try.func58, Try.ntmps58
    go_wp2
    go_ret
    exact ⟨by simp; omega, rfl⟩

theorem less_lb {c : Int} (h : -1 ≤ c ∧ c ≤ 9223372036854775807) : -1 ≤ less c ∧ less c ≤ 9223372036854775807 := by unfold less; split <;> omega

set_option maxHeartbeats 400000 in
theorem on_any (h : RkAt w rb n sure ws pv left) :
    Calls Try.prog 59 #[.pointer (some ⟨rb, 0, none⟩)] w fun e w' => e = .returned (.bool (left != 0)) ∧ RkAt w' rb n sure ws pv (less left) ∧ Kept (fun k => k = rb) w w' := by
  have h2 := h.c2
  have hf := h.f2
  have hcb := h.lb
  have HL := Lib.hid (less_lb hcb)
  rcases Int.lt_trichotomy left 0 with hc | hc | hc
  · have hl : less left = left := by unfold less; rw [if_neg (by omega)]
    have he : (left == 0) = false := by simp; omega
    have hg : ¬ 0 < left := by omega
    have H := Lib.hid h; have HL := Lib.hid hl; have HE := Lib.hid he; clear h hl he
    go_enter Try.func59, Try.ntmps59
    go_wp2
    go_ret
    refine ⟨by simp [bne, HE.out], ?_, Kept.refl _ _⟩
    rw [HL.out]; exact H.out
  · subst hc
    have H := Lib.hid h; clear h
    go_enter Try.func59, Try.ntmps59
    go_wp2
    go_ret
    exact ⟨by simp, H.out, Kept.refl _ _⟩
  · have hl : less left = left - 1 := by unfold less; rw [if_pos hc]
    have hw : wrap64 (left - 1) = left - 1 := by unfold wrap64; omega
    have he : (left == 0) = false := by simp; omega
    have H := Lib.hid h; have HL2 := Lib.hid hl; have HE := Lib.hid he; have HW := Lib.hid hw; clear h hl he hw
    go_enter Try.func59, Try.ntmps59
    go_wp2
    go_ret
    refine ⟨by simp [bne, HE.out], ?_, Kept.setCell (S := fun k => k = rb) (p := ⟨rb, 2, none⟩) (Kept.refl _ _) (fun _ => rfl) _⟩
    rw [HL2.out]
    first
      | exact H.out.setLeft _ (HL2.out ▸ HL.out)
      | (rw [HW.out]; exact H.out.setLeft _ (HL2.out ▸ HL.out))

end

set_option maxHeartbeats 1000000 in
/-- lay, of whatever is long enough. -/
theorem lay_any (s b : List UInt8) (k : Nat) (w : World) (h : 64 * k + b.length ≤ s.length) (hl : s.length ≤ 10000000) :
    Calls Try.prog 55 #[.string (bs s), .int .i64 (64 * (k : Int)), .string (bs b)] w fun e w' => e = .returned (.string (bs (lay s k b))) ∧ Kept (fun _ => False) w w' := by
  have e0 : (64 * (k : Int)) = ((64 * k : Nat) : Int) := by omega
  rw [e0]
  have el : lay s k b = (s.take (64 * k) ++ b) ++ s.drop (64 * k + b.length) := by unfold lay splice; rw [List.append_assoc]
  rw [el]
  generalize 64 * k = K at *
  have t1 := bs_take' s K
  have t2 : (bs s).extract (K + b.length) s.length = bs (s.drop (K + b.length)) := by rw [bs_cut, List.take_length]
  have a1 := bs_append (s.take K) b
  have a2 := bs_append (s.take K ++ b) (s.drop (K + b.length))
  have z1 : (bs (s.take K)).size = K := by rw [bs_size, List.length_take]; omega
  have z2 : (bs b).size = b.length := rfl
  have z3 : (bs (s.drop (K + b.length))).size = s.length - (K + b.length) := by rw [bs_size, List.length_drop]
  have z4 : (bs (s.take K ++ b)).size = K + b.length := by rw [bs_size, List.length_append, List.length_take]; omega
  have z5 : (bs s).size = s.length := rfl
  generalize bs ((s.take K ++ b) ++ s.drop (K + b.length)) = V at *
  generalize bs (s.take K ++ b) = U at *
  generalize bs (s.drop (K + b.length)) = R at *
  generalize bs (s.take K) = T at *
  generalize bs s = S at *
  generalize bs b = Bb at *
  generalize b.length = M at *
  generalize s.length = N at *
  have b1 : (K : Int) ≤ (N : Int) := by omega
  have b2 : (K : Int) + (M : Int) ≤ (N : Int) := by omega
  have b3 : (N : Int) ≤ 10000000 := by omega
  go_enter Try.func55, Try.ntmps55
  go_wp2_with fail
  go_region
  all_goals go_wp2
  all_goals go_ret
  all_goals exact ⟨rfl, Kept.drew (Kept.refl _ _)⟩

section
variable {w w' : World} {rb n : Nat} {sure : List UInt8} {ws : List Wt} {pv : Value} {left : Int}

theorem RkAt.waits (h : RkAt w rb n sure ws pv left) (j : Nat) (hj : j < ws.length) : ∃ g cap, pv = .slice (some ⟨g, 0, none⟩) ws.length cap ∧ g ≠ rb ∧ w.cell? ⟨g, j * 2, none⟩ = some (.int .i64 ws[j].k) ∧ w.cell? ⟨g, j * 2 + 1, none⟩ = some (.string (bs ws[j].b)) := by
  rcases h.own.2 with ⟨_, h00⟩ | ⟨g, c, cur, hv, _⟩
  · omega
  · obtain ⟨e1, e2⟩ := wcells_get ws j hj
    have c1 := h.own.cells (g := g) (by rw [hv]; rfl) _ _ e1
    have c2 := h.own.cells (g := g) (by rw [hv]; rfl) _ _ e2
    rw [Addr.add_lit, Nat.zero_add] at c1 c2
    exact ⟨g, c, hv, h.ne g (by rw [hv]; rfl), c1, c2⟩

set_option maxRecDepth 100000 in
set_option maxHeartbeats 1000000 in
theorem rimage_any (h : RkAt w rb n sure ws pv left) (hw : ws.length ≤ 1000000) :
    Calls Try.prog 30 #[.pointer (some ⟨rb, 0, none⟩)] w fun e w' => e = .returned (.string (bs (image sure ws))) ∧ Kept (fun _ => False) w w' := by
  have h0 := h.c0
  have hn2 := h.n2
  have hlen := h.len
  obtain ⟨pa, pcap, rfl⟩ := owns_slice h.own
  have H := Lib.hid h; clear h
  go_enter Try.func30, Try.ntmps30
  go_wp2
  go_loopg [3, 4] ws.length (fun q v3 v4 wr => ∃ (j : Nat) (cur : List UInt8), q = ws.length - j ∧ j ≤ ws.length ∧ v4 = .int .i64 (j : Int) ∧ v3 = .string (bs cur) ∧ Hid (image cur (ws.drop j) = image sure ws) ∧ Hid (cur.length = 64 * n) ∧ Hid (Kept (fun _ => False) w wr))
  case atStart => exact ⟨0, sure, rfl, Nat.zero_le _, rfl, rfl, Lib.hid rfl, Lib.hid hlen, Lib.hid (Kept.refl _ _)⟩
  case round =>
    obtain ⟨j, cur, hq, hj, rfl, rfl, him, hcl, hk⟩ := hrel
    have HQ := Lib.hid hq; clear hq
    have hr := H.out.kept hk.out (fun h => h) (fun _ _ h => h)
    have hc1 := hr.c1
    by_cases hlt : j < ws.length
    · obtain ⟨g, cap, hpv, hg, hA, hB⟩ := hr.waits j hlt
      cases hpv
      have hok := hr.ok ws[j] (List.getElem_mem hlt)
      have hdr : ws.drop j = ws[j] :: ws.drop (j + 1) := List.drop_eq_getElem_cons hlt
      have hst := him.out
      rw [hdr] at hst
      generalize ws[j] = x at *
      have hst2 : image (lay cur x.k x.b) (ws.drop (j + 1)) = image sure ws := hst
      have hll := lay_length (l := cur) (k := x.k) (b := x.b) (by rw [hok.2, hcl.out]; have := hok.1; omega)
      have hlay := fun (W : World) => lay_any cur x.b x.k W (by rw [hok.2, hcl.out]; have := hok.1; omega) (by rw [hcl.out]; omega)
      have hxk : (x.k : Int) ≤ 65536 := by have := hok.1; omega
      have hm1 : wrap64 (64 * (x.k : Int)) = 64 * (x.k : Int) := by unfold wrap64; omega
      have hm2 : IntKind.i64.wrap (64 * (x.k : Int)) = 64 * (x.k : Int) := by rw [IntKind.wrap_i64]; omega
      generalize lay cur x.k x.b = nx at *
      have HST := Lib.hid hst2; have HLL := Lib.hid (hll.trans hcl.out); have HLAY := Lib.hid hlay; have HK := Lib.hid hk.out
      clear hst hst2 hll hlay hok hdr him hcl hk hr
      go_wp2_with fail
      go_region_held (fun w' => w'.cell? ⟨rb, 1, none⟩ = some (.slice (some ⟨g, 0, none⟩) ws.length pcap) ∧ w'.cell? ⟨g, j * 2, none⟩ = some (.int .i64 x.k) ∧ w'.cell? ⟨g, j * 2 + 1, none⟩ = some (.string (bs x.b))) (go_keep)
        (first | (go_at_call 55; refine (HLAY.out _).mono ?_; rintro e w2 ⟨rfl, k2⟩; have q1 : w2.cell? ⟨rb, 1, none⟩ = some (.slice (some ⟨g, 0, none⟩) ws.length pcap) := (k2.cell (p := ⟨rb, 1, none⟩) (World.block_lt_of_cell? _ _ hc1) (fun h => h)).trans hc1; have q2 : w2.cell? ⟨g, j * 2, none⟩ = some (.int .i64 x.k) := (k2.cell (p := ⟨g, j * 2, none⟩) (World.block_lt_of_cell? _ _ hA) (fun h => h)).trans hA; have q3 : w2.cell? ⟨g, j * 2 + 1, none⟩ = some (.string (bs x.b)) := (k2.cell (p := ⟨g, j * 2 + 1, none⟩) (World.block_lt_of_cell? _ _ hB) (fun h => h)).trans hB; have K2 := Lib.hid (HK.out.trans (Mk.Kept.of_drew k2) (S := fun _ => False) (fun _ _ h => h)); clear k2))
      all_goals go_wp2
      all_goals go_roundg (ws.length - (j + 1))
      all_goals first
        | (have := HQ.out; omega)
        | exact ⟨j + 1, nx, rfl, by omega, by go_num, rfl, HST, HLL, K2⟩
    · obtain rfl : j = ws.length := by omega
      have hst := him.out
      rw [List.drop_length] at hst
      have hst2 : cur = image sure ws := hst
      have HST := Lib.hid hst2; clear hst hst2
      go_wp2
      go_ret
      exact ⟨by rw [← HST.out]; rfl, hk.out⟩

end

end Go.Proofs.Ytobikgcoekiboaa
