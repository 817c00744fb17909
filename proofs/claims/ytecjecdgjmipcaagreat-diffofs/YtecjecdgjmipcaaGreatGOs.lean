/-
  Lemmas towards the claim of this folder: contracts of the functions that the law reaches; joined texts.
-/
import Derived.Test.YtecjecdgjmipcaaGreatGEe
import Derived.Test.YtecjecdgjmipcaaGreatR9a
import Derived.Test.YtecjecdgjmipcaaGreatDj
import Derived.Test.YtecjecdgjmipcaaGreatSy
import Derived.Test.YtecjecdgjmipcaaGreatGTh
/-
  CONTRACTS of package diff: same (slices.EqualFunc with def.Same), under, isSide.
-/
namespace Go.Proofs.YtecjecdgjmipcaaGreat
open Go.RowKit Go.Mk Go.Maps

set_option maxHeartbeats 1000000 in
set_option maxRecDepth 100000 in
theorem dequal_any (la : Option Addr) (lc : Nat) (a : List Ent) (lb : Option Addr) (ld : Nat) (b : List Ent) (B : Nat) (w : World) (hA : Ds w B la a) (hB : Ds w B lb b) (ha : ∀ e ∈ a, e.1.vs.length ≤ 1000000) (hb : ∀ e ∈ b, e.1.vs.length ≤ 1000000) (hn : a.length ≤ 1000000) :
    Calls Tryz.prog 76 #[.slice la a.length lc, .slice lb b.length ld, .func (.func 54) #[] #[]] w fun e w' => e = .returned (.bool (sameA a b)) ∧ Kept (fun _ => False) w w' := by
  have HA := Lib.hid hA; have HB := Lib.hid hB; have HLA := Lib.hid ha; have HLB := Lib.hid hb
  clear hA hB ha hb
  by_cases hl : a.length = b.length
  · have HL := Lib.hid hl
    have h1 : (b.length : Int) = (a.length : Int) := by omega
    clear hl
    go_enter Tryz.func76, Tryz.ntmps76
    go_wp2
    go_loopg [17] a.length (fun k c wr => ∃ j, k = a.length - j ∧ j ≤ a.length ∧ c = .int .i64 (j : Int) ∧ (dds a).take j = (dds b).take j ∧ Kept (fun _ => False) w wr)
    case atStart => exact ⟨0, rfl, Nat.zero_le _, rfl, rfl, Kept.refl _ _⟩
    case round =>
      obtain ⟨j, hk, hj, rfl, htk, hw⟩ := hrel
      have HK := Lib.hid hk; have HTK := Lib.hid htk; have HW := Lib.hid hw
      clear hk htk hw
      by_cases hlt : j < a.length
      · have hlt2 : j < b.length := by have := HL.out; omega
        obtain ⟨xa, xo, rfl, hxa, hca⟩ := HA.out.row (by intro h; rw [h] at hlt; simp at hlt)
        obtain ⟨ya, yo, rfl, hya, hcb⟩ := HB.out.row (by intro h; rw [h] at hlt2; simp at hlt2)
        have HBA := Lib.hid ((hca j hlt).kept HW.out (fun h => h))
        have HBB := Lib.hid ((hcb j hlt2).kept HW.out (fun h => h))
        have HNE := Lib.hid (fun h => same_ne (a := a) (b := b) hlt hlt2 h)
        have HTA := Lib.hid (fun h => same_take (a := a) (b := b) hlt hlt2 HTK.out h)
        have HSA := Lib.hid (fun (wx : World) (h : Kept (fun _ => False) wr wx) => dsame_any a[j].1 b[j].1 a[j].2.1 b[j].2.1 a[j].2.2 b[j].2.2 B wx (((HA.out.lies _ (List.getElem_mem hlt)).1.kept HW.out (fun _ _ _ h => h)).kept h (fun _ _ _ h => h)) (((HB.out.lies _ (List.getElem_mem hlt2)).1.kept HW.out (fun _ _ _ h => h)).kept h (fun _ _ _ h => h)) (by have := HLA.out _ (List.getElem_mem hlt); omega) (by have := HLB.out _ (List.getElem_mem hlt2); omega))
        have i1 : (j : Int) < (a.length : Int) := by omega
        clear hca hcb
        generalize a[j] = x at *
        generalize b[j] = y at *
        obtain ⟨d, ao, cap⟩ := x
        obtain ⟨d', ao', cap'⟩ := y
        dsimp only at HBA HBB HNE HTA HSA
        have KA := Lib.hid ((Kept.refl (fun _ => False) wr).alloc (.cells #[.int .i64 d.k, .string (bs d.c), .string (bs d.p), .slice ao d.vs.length cap, .string (bs d.s), .string (bs d.t)] 49))
        have KB := Lib.hid (KA.out.alloc (.cells #[.int .i64 d'.k, .string (bs d'.c), .string (bs d'.p), .slice ao' d'.vs.length cap', .string (bs d'.s), .string (bs d'.t)] 49))
        have BB := Lib.hid (bx_new2 wr ao ao' cap cap' d d' 49)
        obtain ⟨c0, c1, c2, c3, c4, c5⟩ := HBA.out
        obtain ⟨d0, d1, d2, d3, d4, d5⟩ := HBB.out.kept KA.out (fun h => h)
        obtain ⟨⟨a0, a1, a2, a3, a4, a5⟩, ⟨b0, b1, b2, b3, b4, b5⟩⟩ := BB.out
        cases hs : sameB d d' with
        | true =>
          have HE := Lib.hid (HTA.out ((sameB_iff _ _).1 hs))
          rw [hs] at HSA
          clear hs
          go_wp2_with fail
          refine (HSA.out _ KB.out).mono ?_; rintro e w1 ⟨rfl, k1⟩
          have K1 := Lib.hid ((HW.out.trans KB.out (fun _ _ h => h)).trans k1 (fun _ _ h => h)); clear k1
          go_wp2
          go_roundg (a.length - (j + 1))
          case measure => have := HK.out; omega
          case rel => exact ⟨j + 1, rfl, by omega, by go_num, HE.out, K1.out⟩
        | false =>
          have HE := Lib.hid (HNE.out (fun h => by rw [h, sameB_refl] at hs; cases hs))
          rw [hs] at HSA
          clear hs
          go_wp2_with fail
          refine (HSA.out _ KB.out).mono ?_; rintro e w1 ⟨rfl, k1⟩
          have K1 := Lib.hid ((HW.out.trans KB.out (fun _ _ h => h)).trans k1 (fun _ _ h => h)); clear k1
          go_wp2
          go_ret
          exact ⟨by rw [HE.out]; rfl, K1.out⟩
      · obtain rfl : j = a.length := by omega
        have HE := Lib.hid (show sameA a b = true from by
          have h := HTK.out
          rw [← dds_len a, List.take_length, dds_len a, HL.out, ← dds_len b, List.take_length] at h
          exact decide_eq_true h)
        clear hlt
        go_wp2
        go_ret
        exact ⟨by rw [HE.out]; rfl, HW.out⟩
  · have HE := Lib.hid (show sameA a b = false from decide_eq_false (fun h => hl (by rw [← dds_len a, ← dds_len b, h])))
    have h1 : ¬ (a.length : Int) = (b.length : Int) := by omega
    clear hl
    go_enter Tryz.func76, Tryz.ntmps76
    go_wp2
    go_ret
    exact ⟨by rw [HE.out]; rfl, Kept.refl _ _⟩

set_option maxHeartbeats 400000 in
theorem dsame9_any (la : Option Addr) (lc : Nat) (a : List Ent) (lb : Option Addr) (ld : Nat) (b : List Ent) (B : Nat) (w : World) (hA : Ds w B la a) (hB : Ds w B lb b) (ha : ∀ e ∈ a, e.1.vs.length ≤ 1000000) (hb : ∀ e ∈ b, e.1.vs.length ≤ 1000000) (hn : a.length ≤ 1000000) :
    Calls Tryz.prog 42 #[.slice la a.length lc, .slice lb b.length ld] w fun e w' => e = .returned (.bool (sameA a b)) ∧ Kept (fun _ => False) w w' := by
  have H := Lib.hid (dequal_any la lc a lb ld b B w hA hB ha hb hn)
  clear hA hB ha hb hn
  generalize sameA a b = r at *
  go_enter Tryz.func42, Tryz.ntmps42
  go_wp2_with fail
  refine H.out.mono ?_; rintro e w1 ⟨rfl, k1⟩
  go_wp2
  go_ret
  exact ⟨rfl, k1⟩

set_option maxHeartbeats 1000000 in
set_option maxRecDepth 100000 in
theorem dside_any (la : Option Addr) (lc : Nat) (es : List Ent) (key : List UInt8) (B : Nat) (w : World) (hD : Ds w B la es) (hl : ∀ e ∈ es, Len8 e.1) :
    Calls Tryz.prog 78 #[.slice la es.length lc, .string (bs key)] w fun e w' => e = .returned (.bool (sideB (dds es) key)) ∧ Kept (fun _ => False) w w' := by
  have HD := Lib.hid hD; have HL := Lib.hid hl
  clear hD hl
  have z2 := bs_list key
  match es, HD, HL with
  | [], _, _ =>
    clear HD HL
    go_enter Tryz.func78, Tryz.ntmps78
    go_wp2
    go_ret
    exact ⟨rfl, Kept.refl _ _⟩
  | [x], HD, HL =>
    obtain ⟨xb, xo, rfl, hxb, hc⟩ := HD.out.row (by simp)
    have HLE := Lib.hid (HL.out x (by simp))
    have HLI := Lib.hid (HD.out.lies x (by simp))
    obtain ⟨d, ao, cap⟩ := x
    have hc0 := hc 0 (by simp)
    obtain ⟨c0, c1, c2, c3, c4, c5⟩ := hc0
    dsimp only [List.getElem_cons_zero] at c0 c1 c2 c3 c4 c5
    simp only [Nat.zero_mul, Nat.add_zero] at c0 c1 c2 c3 c4 c5
    dsimp only at HLE HLI
    have HS := Lib.hid (show sideB (dds [(d, ao, cap)]) key = (keyD d == key) by simp [sideB, dds])
    rw [HS.out]
    have HKEY := Lib.hid (dkey_any d ao cap B w HLI.out.1 HLI.out.2 HLE.out.s HLE.out.c)
    clear hc HS HD HL
    generalize keyD d = kd at *
    have z1 := bs_list kd
    go_enter Tryz.func78, Tryz.ntmps78
    go_wp2_with fail
    refine HKEY.out.mono ?_
    rintro e w1 ⟨rfl, k1⟩
    have K1 := Lib.hid k1; clear k1
    go_wp2
    go_ret
    exact ⟨rfl, K1.out⟩
  | x :: y :: r, _, _ =>
    have h1 : ¬ ((r.length : Int) + 1 + 1 = 0) := by omega
    have h2 : ¬ ((r.length : Int) + 1 + 1 = 1) := by omega
    have HS := Lib.hid (show sideB (dds (x :: y :: r)) key = false by simp [sideB, dds])
    rw [HS.out]
    clear HS HD HL
    go_enter Tryz.func78, Tryz.ntmps78
    go_wp2
    go_ret
    exact ⟨rfl, Kept.refl _ _⟩

end Go.Proofs.YtecjecdgjmipcaaGreat

/-
  snap.Get: the definition in new memory; diff.under.
-/
namespace Go.Proofs.YtecjecdgjmipcaaGreat
open Go.RowKit Go.Mk Go.Maps

/-- What Get answers: in new memory. -/
def GtN (w : World) (d : DD) (b : Bool) (e : Ending) (w' : World) : Prop :=
  ∃ ao cap, e = .returned (.tuple #[valE (d, ao, cap), .bool b]) ∧ w'.ownsRow w.heap.size 9 1 (.slice ao d.vs.length cap) d.vs.length (strs d.vs) ∧ Kept (fun _ => False) w w'

set_option maxHeartbeats 1000000 in
set_option maxRecDepth 100000 in
theorem sgetN_at {w : World} {v : Value} {p : Option Nat} (hp : SnP w v p) (key : List UInt8) (d : DD) (ao : Option Addr) (cap : Nat) (b : Bool) (B : Nat) (hA : Lies w B ao (strs d.vs)) (hl : Len8 d)
    (hlook : ∀ wx, Kept (fun _ => False) w wx → (Instr.lookup 63 (.map p) (.string (bs key)) true).run Tryz.prog wx = .ok (.tuple #[valE (d, ao, cap), .bool b]) wx) :
    Calls Tryz.prog 27 #[v, .string (bs key)] w (GtN w d b) := by
  have ka : Kept (fun _ => False) w (w.alloc (.cells #[.int .i64 0, .string ⟨#[]⟩, .string ⟨#[]⟩, .slice none 0 0, .string ⟨#[]⟩, .string ⟨#[]⟩] 49)) := (Kept.refl _ w).alloc _
  have HT := Lib.hid (table_any (hp.keep ka))
  have hlk := hlook _ ka
  have hB1 : Bz (w.alloc (.cells #[.int .i64 0, .string ⟨#[]⟩, .string ⟨#[]⟩, .slice none 0 0, .string ⟨#[]⟩, .string ⟨#[]⟩] 49)) w.heap.size none 0 zeroD := bz_new w none 0 zeroD 49
  have HB := Lib.hid hB1
  have KA := Lib.hid ka
  have HC := Lib.hid (fun (wx : World) (h : Kept (fun _ => False) w wx) => copy_any d ao cap B wx (hA.kept h (fun _ _ _ h => h)) hl)
  clear hp hA hl hlook ka hB1
  unfold valE at hlk
  dsimp only at hlk
  go_enter Tryz.func27, Tryz.ntmps27
  go_wp2_with fail
  refine HT.out.mono ?_
  rintro e w1 ⟨rfl, rfl⟩
  go_wp2_with fail
  refine (HC.out _ (KA.out.alloc _)).mono ?_
  rintro e w2 ⟨ao2, cap2, rfl, ho2, k2⟩
  have B2 := Lib.hid ((HB.out.kept (S := fun _ => False) ((Kept.refl _ _).alloc _) (fun h => h)).kept k2 (fun h => h))
  have K2 := Lib.hid ((KA.out.alloc _).trans k2 (fun _ _ h => h))
  have HO := Lib.hid ho2
  clear ho2 k2 hlk
  obtain ⟨⟨x0, x1, x2, x3, x4, x5⟩, f0, f1, f2, f3, f4, f5⟩ := B2.out
  unfold valE
  go_wp2
  have hb := B2.out.set ao2 cap2 d
  refine bodyPost_ret (results_box2 rfl rfl (load_def hb.bx)) rfl ?_
  have hk := kept_setD w2 w.heap.size ao2 cap2 d
  exact ⟨ao2, cap2, rfl, owns_base (owns_kept HO.out hk (fun k hk e => by have := (owns_lt HO.out k hk).1; simp at this; omega)) (fun k hk => by have := (owns_lt HO.out k hk).1; simp at this; omega), kept_setD' K2.out (Nat.le_refl _)⟩

theorem sgetN_has {w : World} {v : Value} {l : List DD} (h : Sn w v l) {d : DD} (hd : d ∈ l) (hk : (keyD d).length ≤ maxLen) :
    Calls Tryz.prog 27 #[v, .string (bs (keyD d))] w (GtN w d true) := by
  obtain ⟨p, m, hp, ht, rfl⟩ := h
  obtain ⟨⟨d', ao, cap⟩, hm, rfl⟩ := List.mem_map.1 hd
  have hs := right_small (ht.right _ hm)
  exact sgetN_at hp _ _ ao cap true _ (ht.lies _ hm).1 ⟨Nat.le_trans hs.c (by omega), Nat.le_trans hs.p (by omega), Nat.le_trans hs.s (by omega), Nat.le_trans hs.t (by omega), Nat.le_trans hs.n (by omega), fun x hx => Nat.le_trans (hs.v x hx) (by omega)⟩ (fun wx hkx => ((ht.keep hkx).look hm hk).1)

theorem sgetN_no {w : World} {v : Value} {l : List DD} (h : Sn w v l) {key : List UInt8} (hn : ∀ d ∈ l, keyD d ≠ key) (hk : key.length ≤ maxLen) :
    Calls Tryz.prog 27 #[v, .string (bs key)] w (GtN w zeroD false) := by
  obtain ⟨p, m, hp, ht, rfl⟩ := h
  exact sgetN_at hp key zeroD none 0 false 0 (fun h => (h rfl).elim) ⟨Nat.zero_le _, Nat.zero_le _, Nat.zero_le _, Nat.zero_le _, Nat.zero_le _, fun x hx => absurd hx List.not_mem_nil⟩ (fun wx hkx => (ht.keep hkx).look_no (hasK_no.2 fun x hx e => hn x.1 (List.mem_map_of_mem hx) e) hk)

set_option maxHeartbeats 1000000 in
set_option maxRecDepth 100000 in
theorem dunder_any {w : World} {v : Value} {l : List DD} (h : Sn w v l) (key : List UInt8) (hk : key.length ≤ maxLen) :
    Calls Tryz.prog 41 #[v, .string (bs key)] w (DfPost w (getK keyD key l)) := by
  rcases getK_cases h.rise key with ⟨e0, hn⟩ | ⟨d, hd, rfl, e0⟩
  · rw [e0]
    have HG := Lib.hid (sgetN_no h hn hk)
    clear h hn e0
    go_enter Tryz.func41, Tryz.ntmps41
    go_wp2_with fail
    refine HG.out.mono ?_
    rintro e w1 ⟨ao, cap, rfl, ho, k1⟩
    have K1 := Lib.hid k1
    clear ho k1
    unfold valE
    go_wp2
    go_ret
    exact ⟨⟨none, 0, []⟩, rfl, rfl, SDf.nil _ _, K1.out.alloc _⟩
  · rw [e0]
    have HG := Lib.hid (sgetN_has h hd hk)
    clear h hd e0
    generalize keyD d = key at *
    go_enter Tryz.func41, Tryz.ntmps41
    go_wp2_with fail
    refine HG.out.mono ?_
    rintro e w1 ⟨ao, cap, rfl, ho, k1⟩
    have K1 := Lib.hid k1
    have HO := Lib.hid ho
    clear ho k1
    unfold valE
    go_wp2
    go_ret
    have kA := (Kept.refl (fun _ => False) w1).alloc (.cells #[.int .i64 d.k, .string (bs d.c), .string (bs d.p), .slice ao d.vs.length cap, .string (bs d.s), .string (bs d.t)] 49)
    have hs := sd_one (w1.alloc (.cells #[.int .i64 d.k, .string (bs d.c), .string (bs d.p), .slice ao d.vs.length cap, .string (bs d.s), .string (bs d.t)] 49)) (d, ao, cap) 49 ⟨((owns_lies HO.out).kept kA (fun _ _ _ h => h)).mono kA.size, owns_cap HO.out⟩
    refine ⟨⟨some ⟨w1.heap.size + 1, 0, none⟩, 1, [(d, ao, cap)]⟩, rfl, rfl, ⟨?_, fun _ a ha => ?_, fun e he hne a ha => ?_⟩, (K1.out.alloc _).alloc _⟩
    · have hs2 := hs
      simp only [World.size_alloc] at hs2 ⊢
      exact hs2
    · cases ha
      have := K1.out.size
      dsimp only
      omega
    · rw [List.mem_singleton] at he
      subst he
      obtain ⟨g, e1, hg⟩ := owns_lies_block HO.out hne
      dsimp only at ha
      rw [e1] at ha
      cases ha
      exact hg

end Go.Proofs.YtecjecdgjmipcaaGreat
