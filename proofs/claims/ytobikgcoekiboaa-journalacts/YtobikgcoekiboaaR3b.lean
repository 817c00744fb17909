/-
  CONTRACTS of the reference of layer 3: New, Read, Write, Sync, Power.
-/
import Derived.Test.YtobikgcoekiboaaR3
namespace Go.Proofs.Ytobikgcoekiboaa
open Go.RowKit Go.Mk

theorem Try.infoWait : (Try.prog.info? 92).map (fun i => (i.zero, i.size, i.bytes)) = some (some (.agg #[.int .i64 0, .string ⟨#[]⟩]), 2, 24) := by kernel_rfl

theorem src_owns {P : Program} {tx e' : TypeId} (hk : P.underlying tx = some (.slice e')) {w : World} {base : Nat} {e : TypeId} {size : Nat} {v : Value} {n : Nat} {xs : List Value} (h : w.ownsRow base e size v n xs) (h1 : ∀ u ∈ xs, u.oneCell' = true) : Src P size tx v n xs w := by
  rcases h.2 with ⟨rfl, rfl⟩ | ⟨g, cap, cur, rfl, _⟩
  · have hx : xs = [] := List.eq_nil_of_length_eq_zero (by simpa using h.1)
    subst hx
    exact Src.ofNil w hk 0
  · exact Src.ofSlice w hk _ n cap xs h.1 (h.cells rfl) h1

section
variable {w w' : World} {rb n : Nat} {sure : List UInt8} {ws : List Wt} {pv : Value} {left : Int}

set_option maxHeartbeats 400000 in
theorem rnew_any (w : World) (n : Nat) (h1 : 1 ≤ n) (h2 : n ≤ 10000) :
    Calls Try.prog 11 #[.int .i64 n] w fun e w' => ∃ rb, e = .returned (.pointer (some ⟨rb, 0, none⟩)) ∧ RkAt w' rb n (List.replicate (64 * n) 0) [] (.slice none 0 0) (-1) ∧ w.heap.size ≤ rb ∧ Below w.heap.size w w' := by
  have hno : ∀ W : World, Calls Try.prog 32 #[.int .i64 (64 * (n : Int))] W fun e w' => e = .returned (.string (bs (List.replicate (64 * n) 0))) ∧ Below W.heap.size W w' := fun W => by
    have := noughts_any W (64 * n) (by omega)
    rw [show ((64 * n : Nat) : Int) = 64 * (n : Int) by omega] at this
    exact this
  have hl : (List.replicate (64 * n) (0 : UInt8)).length = 64 * n := by simp
  generalize List.replicate (64 * n) (0 : UInt8) = rl at *
  have HNO := Lib.hid hno; have HL := Lib.hid hl; clear hno hl
  go_enter Try.func11, Try.ntmps11
  go_wp2_with fail
  refine (HNO.out _).mono ?_
  rintro e w1 ⟨rfl, b1⟩
  have B1 := Lib.hid b1; clear b1
  go_wp2
  go_ret
  have hb := heap_alloc_new w1 (.cells #[.string (bs rl), .slice none 0 0, .int .i64 (-1)] 67)
  refine ⟨w1.heap.size, rfl, ⟨by rw [cell_of_row _ _ _ _ _ _ hb]; rfl, by rw [cell_of_row _ _ _ _ _ _ hb]; rfl, by rw [cell_of_row _ _ _ _ _ _ hb]; rfl, ?_, ?_, ?_, World.ownsRow_nil _ _ _ _, by simp [Value.ownBlock], HL.out, h1, by omega, by simp, by omega⟩, B1.out.size, B1.out.alloc B1.out.size _⟩ <;> (unfold World.frozen?; rw [hb]; simp)

/-- What the document's power is, of a number of calls. -/
def norm (c : Int) : Int := if c < 0 then -1 else c
theorem norm_lb {c : Int} (h : c ≤ 9223372036854775807) : -1 ≤ norm c ∧ norm c ≤ 9223372036854775807 := by unfold norm; split <;> omega

set_option maxHeartbeats 400000 in
theorem rpower_any (h : RkAt w rb n sure ws pv left) (c : Int) (hc : c ≤ 9223372036854775807) :
    Calls Try.prog 19 #[.pointer (some ⟨rb, 0, none⟩), .int .i64 c] w fun e w' => (∃ v, e = .returned v) ∧ RkAt w' rb n sure ws pv (norm c) ∧ Kept (fun k => k = rb) w w' := by
  have h2 := h.c2
  have hf := h.f2
  have HNL := Lib.hid (norm_lb hc)
  by_cases h0 : c < 0
  · have e : norm c = -1 := by unfold norm; rw [if_pos h0]
    have hcx : (w.setCell ⟨rb, 2, none⟩ (.int .i64 c)).cell? ⟨rb, 2, none⟩ = some (.int .i64 c) := World.cell?_setCell_same _ _ _ h2
    have hfx : (w.setCell ⟨rb, 2, none⟩ (.int .i64 c)).frozen? ⟨rb, 2, none⟩ = false := by rw [World.frozen?_setCell]; exact hf
    have H := Lib.hid h; have E := Lib.hid e; clear h e
    go_enter Try.func19, Try.ntmps19
    go_wp2
    go_end0
    refine ⟨⟨_, rfl⟩, ?_, ?_⟩
    · rw [E.out]
      refine ⟨?_, ?_, ?_, ?_, ?_, ?_, ?_, H.out.ne, H.out.len, H.out.n1, H.out.n2, H.out.ok, by omega⟩
      · rw [World.cell?_setCell_other _ _ _ _ (by simp), World.cell?_setCell_other _ _ _ _ (by simp)]; exact H.out.c0
      · rw [World.cell?_setCell_other _ _ _ _ (by simp), World.cell?_setCell_other _ _ _ _ (by simp)]; exact H.out.c1
      · exact World.cell?_setCell_same _ _ _ hcx
      · rw [World.frozen?_setCell, World.frozen?_setCell]; exact H.out.f0
      · rw [World.frozen?_setCell, World.frozen?_setCell]; exact H.out.f1
      · rw [World.frozen?_setCell, World.frozen?_setCell]; exact H.out.f2
      · exact owns_kept H.out.own (Kept.setCell (S := fun k => k = rb) (p := ⟨rb, 2, none⟩) (Kept.setCell (S := fun k => k = rb) (p := ⟨rb, 2, none⟩) (Kept.refl _ _) (fun _ => rfl) _) (fun _ => rfl) _) (fun g hg => H.out.ne g hg)
    · exact Kept.setCell (S := fun k => k = rb) (p := ⟨rb, 2, none⟩) (Kept.setCell (S := fun k => k = rb) (p := ⟨rb, 2, none⟩) (Kept.refl _ _) (fun _ => rfl) _) (fun _ => rfl) _
  · have e : norm c = c := by unfold norm; rw [if_neg h0]
    have H := Lib.hid h; have E := Lib.hid e; clear h e
    go_enter Try.func19, Try.ntmps19
    go_wp2
    go_end0
    refine ⟨⟨_, rfl⟩, ?_, Kept.setCell (S := fun k => k = rb) (p := ⟨rb, 2, none⟩) (Kept.refl _ _) (fun _ => rfl) _⟩
    have := HNL.out
    rw [E.out] at this ⊢
    exact H.out.setLeft _ this

set_option maxHeartbeats 400000 in
theorem rsync_any (h : RkAt w rb n sure ws pv left) (hw : ws.length ≤ 1000000) :
    Calls Try.prog 74 #[.pointer (some ⟨rb, 0, none⟩)] w fun e w' => e = .returned (.int .i64 (if left = 0 then 20 else 0)) ∧
      (∃ pv', RkAt w' rb n (if left = 0 then sure else image sure ws) (if left = 0 then ws else []) pv' (less left) ∧ (pv' = pv ∨ pv'.ownBlock = none)) ∧ Kept (fun k => k = rb) w w' := by
  have HU := Lib.hid (on_any h)
  have hil := image_length ws sure h.len h.ok
  have HIL := Lib.hid hil
  clear h hil
  by_cases hc : left = 0
  · subst hc
    go_enter Try.func74, Try.ntmps74
    go_wp2_with fail
    refine HU.out.mono ?_
    rintro e w1 ⟨rfl, h1, k1⟩
    have H1 := Lib.hid h1; have K1 := Lib.hid k1; clear h1 k1
    go_wp2
    go_ret
    exact ⟨rfl, ⟨pv, H1.out, .inl rfl⟩, K1.out⟩
  · rw [if_neg hc, if_neg hc, if_neg hc]
    have hb : (left != 0) = true := by simpa using hc
    rw [hb] at HU
    clear hb
    go_enter Try.func74, Try.ntmps74
    go_wp2_with fail
    refine HU.out.mono ?_
    rintro e w1 ⟨rfl, h1, k1⟩
    have HIM := Lib.hid (rimage_any h1 hw)
    have H1 := Lib.hid h1; have K1 := Lib.hid k1; clear h1 k1
    go_wp2_with fail
    refine HIM.out.mono ?_
    rintro e w2 ⟨rfl, k2⟩
    have h2 := H1.out.kept k2 (fun h => h) (fun _ _ h => h)
    have h3 := h2.setSure (image sure ws) HIL.out
    have h4 := h3.setWaits (.slice none 0 0) [] (by simp) (World.ownsRow_nil _ _ _ _) (by simp [Value.ownBlock])
    have c0 := h2.c0
    have f0 := h2.f0
    have c1 := h3.c1
    have f1 := h3.f1
    have H4 := Lib.hid h4; have K2 := Lib.hid (K1.out.trans k2 (S := fun k => k = rb) (fun _ _ h => h.elim)); clear h2 h3 h4 k2
    go_wp2
    go_ret
    exact ⟨rfl, ⟨_, H4.out, .inr rfl⟩, Kept.setCell (p := ⟨rb, 1, none⟩) (Kept.setCell (p := ⟨rb, 0, none⟩) K2.out (fun _ => rfl) _) (fun _ => rfl) _⟩

set_option maxHeartbeats 1000000 in
/-- Write, where all is well. -/
theorem rwrite_ok (h : RkAt w rb n sure ws pv left) (k : Nat) (hk : k < n) (l : List UInt8) (hl : l.length = 64) (hc : left ≠ 0) (hp : ws.length ≤ 1000000) :
    Calls Try.prog 26 #[.pointer (some ⟨rb, 0, none⟩), .int .i64 k, .string (bs l)] w fun e w' => e = .returned (.int .i64 0) ∧
      (∃ pv', RkAt w' rb n sure (ws ++ [⟨k, l⟩]) pv' (less left) ∧ ∀ g, pv'.ownBlock = some g → w.heap.size ≤ g) ∧ Kept (fun i => i = rb) w w' := by
  obtain ⟨i0, hi, hz0, hz1, hz2⟩ := info_parts Try.infoWait
  have hh := there_any h k
  rw [decide_eq_true (by omega)] at hh
  have hu := on_any h
  rw [show (left != 0) = true by simpa using hc] at hu
  have hbl : (bs l).size = 64 := by rw [bs_size, hl]
  obtain ⟨pa, pcap, rfl⟩ := owns_slice h.own
  have hrlt := h.lt
  have HH := Lib.hid hh; have HU := Lib.hid hu; have HK := Lib.hid hk; have HLL := Lib.hid hl; have HP := Lib.hid hp
  clear hh hu hc hk hl h hp
  generalize hS : bs l = S at *
  have HS := Lib.hid hS; clear hS
  go_enter Try.func26, Try.ntmps26
  go_wp2_with fail
  refine HH.out.mono ?_
  rintro e w1 ⟨rfl, hw1⟩
  subst w1
  go_wp2_with fail
  refine HU.out.mono ?_
  rintro e w1 ⟨rfl, h1, k1⟩
  have hc1 := h1.c1
  have hf1 := h1.f1
  have s1 := k1.size
  have hc1a : (w1.alloc (.cells #[] 92)).cell? ⟨rb, 1, none⟩ = some (.slice pa ws.length pcap) := by rw [World.cell?_alloc_lt _ _ _ h1.lt]; exact hc1
  have H1 := Lib.hid h1; have K1 := Lib.hid k1; clear h1 k1
  go_wp2_with (at_builtin; refine wpList_app _ rfl (.tmp 20) (.tmp 24) 65 65 rfl 92 i0 (.agg #[.int .i64 0, .string ⟨#[]⟩]) 2 24 Try.underlying65 hi hz0 hz1 hz2 rfl (.slice (some ⟨w1.heap.size, 0, none⟩) 0 0) 0 [] rfl ?own (.slice pa ws.length pcap) ws.length (wcells ws) rfl ?src ?b1 ?b2 ?next)
  case own => exact World.ownsRow_made w1 _ 0 (Nat.zero_le _) (by unfold maxLen; omega) rfl
  case src => exact src_owns Try.underlying65 (owns_kept H1.out.own (S := fun _ => False) ((Kept.refl _ w1).alloc _) (fun _ _ h => h)) (wcells_one ws)
  case b1 => have := HP.out; unfold maxLen; omega
  case b2 => have := HP.out; omega
  case next =>
    intro v2 w2 ho2 hg2 hb2 _
    obtain ⟨ao2, cap2, rfl⟩ := owns_slice ho2
    try simp only [Nat.zero_add, List.nil_append] at ho2
    have k2 : Kept (fun k => w.heap.size ≤ k) w1 w2 := ((Kept.refl _ w1).alloc _).grown hg2 (fun q hq _ => by cases hq; exact s1)
    have hn2 : ∀ g, (Value.slice ao2 ws.length cap2).ownBlock = some g → w.heap.size ≤ g := fun g hg => by
      rcases hb2 with e | e
      · rw [e] at hg; cases hg; exact s1
      · rw [e] at hg; cases hg; first | omega | (simp; omega)
    try simp only [Nat.zero_add] at hn2
    try simp only [Nat.zero_add]
    have s2 := k2.size
    have HO2 := Lib.hid ho2; have K2 := Lib.hid k2; have HN2 := Lib.hid hn2
    have hc12 : w2.cell? ⟨rb, 1, none⟩ = some (.slice pa ws.length pcap) := (k2.cell (p := ⟨rb, 1, none⟩) H1.out.lt (by show ¬ w.heap.size ≤ rb; omega)).trans hc1
    clear ho2 hg2 hb2 k2 hn2
    go_wp2_with (at_builtin; refine wpList_app _ rfl (.tmp 25) (.tmp 29) 65 65 rfl 92 i0 (.agg #[.int .i64 0, .string ⟨#[]⟩]) 2 24 Try.underlying65 hi hz0 hz1 hz2 rfl (.slice ao2 ws.length cap2) ws.length (wcells ws) rfl ?own2 (.slice (some ⟨w2.heap.size, 0, none⟩) 1 1) 1 [.int .i64 k, .string S] rfl ?src2 ?b12 ?b22 ?next2)
    case own2 => exact HO2.out.alloc _
    case src2 =>
      refine Src.ofSlice _ Try.underlying65 _ 1 1 [.int .i64 k, .string S] rfl (fun j u hu => ?_) (fun u hu => by simp at hu; rcases hu with rfl | rfl <;> rfl)
      rw [Addr.add_lit, Nat.zero_add]
      exact (World.cell?_alloc_new w2 _ _ j).trans (by simpa using hu)
    case b12 => have := HP.out; unfold maxLen; omega
    case b22 => have := HP.out; omega
    case next2 =>
      intro v3 w3 ho3 hg3 hb3 _
      obtain ⟨ao3, cap3, rfl⟩ := owns_slice ho3
      have k3 : Kept (fun k => w.heap.size ≤ k) w2 w3 := ((Kept.refl _ w2).alloc _).grown hg3 (fun q hq _ => HN2.out q hq)
      have hn3 : ∀ g, (Value.slice ao3 (ws.length + 1) cap3).ownBlock = some g → w.heap.size ≤ g := fun g hg => by
        rcases hb3 with e | e
        · rw [e] at hg; exact HN2.out g hg
        · rw [e] at hg; cases hg; first | omega | (simp; omega)
      have hsv := HS.out
      have ho3' : w3.ownsRow 0 92 2 (.slice ao3 (ws.length + 1) cap3) (ws ++ [(⟨k, l⟩ : Wt)]).length (wcells (ws ++ [(⟨k, l⟩ : Wt)])) := by
        rw [wcells_snoc, List.length_append, List.length_singleton]
        show w3.ownsRow 0 _ 2 _ _ (wcells ws ++ [.int .i64 k, .string (bs l)])
        rw [hsv]
        exact ho3
      have kk := (K2.out.trans k3 (S := fun k => w.heap.size ≤ k) (fun _ _ h => h))
      have kept3 : Kept (fun k => k = rb) w w3 := K1.out.trans kk (fun i hi h => by omega)
      -- where the reference stands
      have nb : ¬ w.heap.size ≤ rb := by omega
      have hx4 : RkAt (w3.setCell ⟨rb, 1, none⟩ (.slice ao3 (ws.length + 1) cap3)) rb n sure (ws ++ [⟨k, l⟩]) (.slice ao3 (ws.length + 1) cap3) (less left) := by
        have c0 := (kk.cell (p := ⟨rb, 0, none⟩) H1.out.lt nb).trans H1.out.c0
        have c1 := (kk.cell (p := ⟨rb, 1, none⟩) H1.out.lt nb).trans H1.out.c1
        have c2 := (kk.cell (p := ⟨rb, 2, none⟩) H1.out.lt nb).trans H1.out.c2
        have f0 := (kk.frozen (p := ⟨rb, 0, none⟩) H1.out.lt nb).trans H1.out.f0
        have f1 := (kk.frozen (p := ⟨rb, 1, none⟩) H1.out.lt nb).trans H1.out.f1
        have f2 := (kk.frozen (p := ⟨rb, 2, none⟩) H1.out.lt nb).trans H1.out.f2
        have kp : Kept (fun k => k = rb) w3 (w3.setCell ⟨rb, 1, none⟩ (.slice ao3 (ws.length + 1) cap3)) := Kept.setCell (p := ⟨rb, 1, none⟩) (Kept.refl (fun k => k = rb) w3) (fun _ => rfl) _
        have hne : ∀ g, (Value.slice ao3 (ws.length + 1) cap3).ownBlock = some g → g ≠ rb := fun g hg e => by have := hn3 g hg; omega
        refine ⟨?_, World.cell?_setCell_same _ _ _ c1, ?_, ?_, ?_, ?_, owns_kept ho3' kp (fun g hg => hne g hg), hne, H1.out.len, H1.out.n1, H1.out.n2, fun x hx => ?_, H1.out.lb⟩
        · rw [World.cell?_setCell_other _ _ _ _ (by simp)]; exact c0
        · rw [World.cell?_setCell_other _ _ _ _ (by simp)]; exact c2
        · rw [World.frozen?_setCell]; exact f0
        · rw [World.frozen?_setCell]; exact f1
        · rw [World.frozen?_setCell]; exact f2
        · rcases List.mem_append.1 hx with hx | hx
          · exact H1.out.ok x hx
          · rw [List.mem_singleton] at hx; rw [hx]; exact ⟨HK.out, HLL.out⟩
      have hc13 : w3.cell? ⟨rb, 1, none⟩ = some (.slice pa ws.length pcap) := (k3.cell (p := ⟨rb, 1, none⟩) (World.block_lt_of_cell? _ _ hc12) nb).trans hc12
      have hf13 : w3.frozen? ⟨rb, 1, none⟩ = false := (kk.frozen (p := ⟨rb, 1, none⟩) H1.out.lt nb).trans hf1
      have HX4 := Lib.hid hx4; have HN3 := Lib.hid hn3; have K3 := Lib.hid kept3
      clear ho3 hg3 hb3 k3 hn3 ho3' kk kept3 hx4
      go_wp2
      go_ret
      exact ⟨rfl, ⟨_, HX4.out, HN3.out⟩, Kept.setCell (p := ⟨rb, 1, none⟩) K3.out (fun _ => rfl) _⟩

set_option maxHeartbeats 400000 in
theorem rwrite_bad (h : RkAt w rb n sure ws pv left) (k : Int) (l : List UInt8) (hb : ¬ ((0 ≤ k ∧ k < n) ∧ l.length = 64)) :
    Calls Try.prog 26 #[.pointer (some ⟨rb, 0, none⟩), .int .i64 k, .string (bs l)] w fun e w' => e = .returned (.int .i64 2) ∧ w' = w := by
  have hh := there_any h k
  have hsz : (bs l).size = l.length := rfl
  generalize bs l = S at *
  by_cases hk : 0 ≤ k ∧ k < n
  · have hn : ¬ l.length = 64 := fun e => hb ⟨hk, e⟩
    have hn2 : ((l.length : Int) != 64) = true := by simp; omega
    have hn3 : ¬ (l.length : Int) = 64 := by omega
    rw [decide_eq_true hk] at hh
    have HH := Lib.hid hh; clear hh h hb hk
    go_enter Try.func26, Try.ntmps26
    go_wp2_with fail
    refine HH.out.mono ?_
    rintro e w1 ⟨rfl, hw1⟩
    subst w1
    go_wp2
    go_ret
    exact ⟨rfl, rfl⟩
  · rw [decide_eq_false hk] at hh
    have HH := Lib.hid hh; clear hh h hb hk
    go_enter Try.func26, Try.ntmps26
    go_wp2_with fail
    refine HH.out.mono ?_
    rintro e w1 ⟨rfl, hw1⟩
    subst w1
    go_wp2
    go_ret
    exact ⟨rfl, rfl⟩

set_option maxHeartbeats 400000 in
theorem rwrite_off (h : RkAt w rb n sure ws pv 0) (k : Int) (l : List UInt8) (hk : 0 ≤ k ∧ k < n) (hl : l.length = 64) :
    Calls Try.prog 26 #[.pointer (some ⟨rb, 0, none⟩), .int .i64 k, .string (bs l)] w fun e w' => e = .returned (.int .i64 20) ∧ RkAt w' rb n sure ws pv 0 ∧ Kept (fun i => i = rb) w w' := by
  have hh := there_any h k
  have hsz : (bs l).size = 64 := hl
  rw [decide_eq_true hk] at hh
  have HU := Lib.hid (on_any h)
  have HH := Lib.hid hh; clear hh h hk
  generalize bs l = S at *
  go_enter Try.func26, Try.ntmps26
  go_wp2_with fail
  refine HH.out.mono ?_
  rintro e w1 ⟨rfl, hw1⟩
  subst w1
  go_wp2_with fail
  refine HU.out.mono ?_
  rintro e w1 ⟨rfl, h1, k1⟩
  have H1 := Lib.hid h1; have K1 := Lib.hid k1; clear h1 k1
  go_wp2
  go_ret
  exact ⟨rfl, H1.out, K1.out⟩

end

end Go.Proofs.Ytobikgcoekiboaa
