/-
  CONTRACTS of package diff: applies, Fits.
-/
import Derived.Test.YtecjecdgjmipcaaGreatOr
import Derived.Test.YtecjecdgjmipcaaGreatGOs
namespace Go.Proofs.YtecjecdgjmipcaaGreat
open Go.RowKit Go.Mk Go.Maps

/-- Does an edit fit? -/
def fitD (l : List DD) (e : EE) : Bool := decide (getK keyD e.key l = dds e.old.es)

theorem fits_all (l : List DD) (p : List EE) : fitsP l (eds p) = (p.all (fitD l) && rightP (eds p)) := by
  unfold fitsP eds
  rw [List.all_map]
  rfl

/-- What the closure reads. -/
abbrev ceC (b : Nat) (k : List UInt8) (u v : Value) (c : Nat) (s : Value) (w : World) : Prop := ceB b k u v w ∧ w.cell? ⟨c, 0, none⟩ = some s

theorem ceC_kept {b : Nat} {k : List UInt8} {u v : Value} {c : Nat} {s : Value} {w w' : World} (h : ceC b k u v c s w) (hk : Kept (fun _ => False) w w') : ceC b k u v c s w' :=
  ⟨ceB_kept h.1 hk (fun h => h), (hk.cell (p := ⟨c, 0, none⟩) (World.block_lt_of_cell? _ _ h.2) (fun h => h)).trans h.2⟩

set_option maxHeartbeats 1000000 in
set_option maxRecDepth 100000 in
theorem dapp1_any (v : Value) (l : List DD) (c : Nat) (x : EE) (B : Nat) (w : World) (hc : w.cell? ⟨c, 0, none⟩ = some v) (hs : Sn w v l) (hO : SDs w B x.old) (hL : Len9 x) :
    Calls Tryz.prog 80 #[.agg #[.string (bs x.key), .slice x.old.ao x.old.es.length x.old.cap, .slice x.new.ao x.new.es.length x.new.cap], .pointer (some ⟨c, 0, none⟩)] w fun e w' => e = .returned (.bool (!fitD l x)) ∧ Kept (fun _ => False) w w' := by
  obtain ⟨key, ⟨oao, ocap, oes⟩, ⟨nao, ncap, nes⟩⟩ := x
  have HU := Lib.hid (fun (wx : World) (h : Kept (fun _ => False) w wx) => dunder_any (hs.keep h) key (show key.length ≤ maxLen by have := hL.key; dsimp only at this; unfold maxLen; omega))
  have HSA := Lib.hid (fun (t : SD) (wx : World) (h : Kept (fun _ => False) w wx) (ht : SDs wx wx.heap.size t) (he : dds t.es = getK keyD key l) => dsame9_any t.ao t.cap t.es oao ocap oes (max wx.heap.size B) wx (ht.mono (Nat.le_max_left _ _)).ds ((hO.keep h).mono (Nat.le_max_right _ _)).ds (fun e hm => by
      have hd : e.1 ∈ getK keyD key l := by rw [← he]; exact List.mem_map_of_mem hm
      have h1 := right_small (hs.right _ (mem_getK.1 hd).1)
      exact Nat.le_trans h1.n (by omega)) (fun e hm => (hL.old e hm).n) (by have h1 := getK_len hs.rise key; rw [← he, dds_len] at h1; omega))
  have HF := Lib.hid (fun (t : SD) (he : dds t.es = getK keyD key l) => show sameA t.es oes = fitD l ⟨key, ⟨oao, ocap, oes⟩, ⟨nao, ncap, nes⟩⟩ by unfold sameA fitD; rw [he])
  have HCV := Lib.hid hc
  clear hs hO hL hc
  generalize fitD l ⟨key, ⟨oao, ocap, oes⟩, ⟨nao, ncap, nes⟩⟩ = ft at *
  dsimp only
  have KA := Lib.hid (Kept.drew ((Kept.refl (fun _ => False) w).alloc (.cells #[.string (bs key), .slice oao oes.length ocap, .slice nao nes.length ncap] 42)))
  have hS : ceC w.heap.size key (.slice oao oes.length ocap) (.slice nao nes.length ncap) c v (w.alloc (.cells #[.string (bs key), .slice oao oes.length ocap, .slice nao nes.length ncap] 42)).drew :=
    ⟨ceB_new w key _ _ _, (KA.out.cell (p := ⟨c, 0, none⟩) (World.block_lt_of_cell? _ _ HCV.out) (fun h => h)).trans HCV.out⟩
  go_enter Tryz.func80, Tryz.ntmps80
  go_upto_region 1 with fail
  go_region_held (ceC w.heap.size key (.slice oao oes.length ocap) (.slice nao nes.length ncap) c v) (with_reducible assumption) (first
    | (go_at_call 41; refine (HU.out _ KA.out).mono ?_; rintro e w1 ⟨t, rfl, et, ft1, k1⟩; have K1 := Lib.hid (KA.out.trans k1 (fun _ _ h => h)); have hS1 := ceC_kept hS k1; have ET := Lib.hid et; have FT := Lib.hid ft1; clear k1 et ft1)
    | (go_at_call 42; refine (HSA.out t _ K1.out FT.out.sd ET.out).mono ?_; rintro e w2 ⟨rfl, k2⟩; have K2 := Lib.hid (K1.out.trans k2 (fun _ _ h => h)); have hS2 := ceC_kept hS1 k2; clear k2))
  rw [HF.out t ET.out]
  go_wp2
  go_ret
  exact ⟨rfl, K2.out⟩

set_option maxHeartbeats 1000000 in
set_option maxRecDepth 100000 in
theorem dindex_any (v : Value) (l : List DD) (c : Nat) (pa : Option Addr) (pc : Nat) (p : List EE) (B : Nat) (w : World) (hc : w.cell? ⟨c, 0, none⟩ = some v) (hs : Sn w v l) (hE : Es w B pa p) (hL : ∀ e ∈ p, Len9 e) (hn : p.length ≤ 10000) :
    Calls Tryz.prog 113 #[.slice pa p.length pc, .func (.func 80) #[] #[.pointer (some ⟨c, 0, none⟩)]] w fun e w' => ∃ i : Int, e = .returned (.int .i64 i) ∧ decide (0 ≤ i) = !p.all (fitD l) ∧ Kept (fun _ => False) w w' := by
  have HE := Lib.hid hE; have HL := Lib.hid hL; have HC := Lib.hid hc; have HS := Lib.hid hs
  clear hE hL hc hs
  go_enter Tryz.func113, Tryz.ntmps113
  go_wp2
  go_loopg [8] p.length (fun k c wr => ∃ j, k = p.length - j ∧ j ≤ p.length ∧ c = .int .i64 (j : Int) ∧ (p.take j).all (fitD l) = true ∧ Kept (fun _ => False) w wr)
  case atStart => exact ⟨0, rfl, Nat.zero_le _, rfl, rfl, Kept.refl _ _⟩
  case round =>
    obtain ⟨j, hk, hj, rfl, hall, hw⟩ := hrel
    have HK := Lib.hid hk; have HA := Lib.hid hall; have HW := Lib.hid hw
    clear hk hall hw
    by_cases hlt : j < p.length
    · obtain ⟨b, off, rfl, hb, hcc⟩ := HE.out.row (by intro h; rw [h] at hlt; simp at hlt)
      obtain ⟨c0, c1, c2⟩ := (hcc j hlt).kept HW.out (fun h => h)
      have HTK := Lib.hid (take_all (fitD l) p j hlt)
      have HNO := Lib.hid (show fitD l p[j] = false → p.all (fitD l) = false from fun h => by
        rw [List.all_eq_false]
        exact ⟨p[j], List.getElem_mem hlt, by simp [h]⟩)
      have HAP := Lib.hid (fun (wx : World) (h : Kept (fun _ => False) w wx) => dapp1_any v l c p[j] B wx ((h.cell (p := ⟨c, 0, none⟩) (World.block_lt_of_cell? _ _ HC.out) (fun h => h)).trans HC.out) (HS.out.keep h) ((HE.out.lies p[j] (List.getElem_mem hlt)).1.keep h) (HL.out p[j] (List.getElem_mem hlt)))
      have i1 : (j : Int) < (p.length : Int) := by omega
      clear hcc
      generalize p[j] = x at *
      generalize fitD l x = ft at *
      obtain ⟨key, ⟨oao, ocap, oes⟩, ⟨nao, ncap, nes⟩⟩ := x
      dsimp only at c0 c1 c2 HAP
      cases ft with
      | false =>
        have HX := Lib.hid (HNO.out rfl)
        go_wp2_with fail
        refine (HAP.out _ HW.out).mono ?_
        rintro e w1 ⟨rfl, k1⟩
        have K1 := Lib.hid (HW.out.trans k1 (fun _ _ h => h)); clear k1
        go_wp2
        go_ret
        exact ⟨(j : Int), rfl, by rw [HX.out, decide_eq_true (show (0 : Int) ≤ (j : Int) by omega)]; rfl, K1.out⟩
      | true =>
        have HX := Lib.hid (show (p.take (j + 1)).all (fitD l) = true by rw [HTK.out, HA.out]; rfl)
        go_wp2_with fail
        refine (HAP.out _ HW.out).mono ?_
        rintro e w1 ⟨rfl, k1⟩
        have K1 := Lib.hid (HW.out.trans k1 (fun _ _ h => h)); clear k1
        go_wp2
        go_roundg (p.length - (j + 1))
        case measure => have := HK.out; omega
        case rel => exact ⟨j + 1, rfl, by omega, by go_num, HX.out, K1.out⟩
    · obtain rfl : j = p.length := by omega
      have hs := HA.out
      rw [List.take_length] at hs
      have HX := Lib.hid hs
      clear hs hlt
      go_wp2
      go_ret
      exact ⟨-1, rfl, by rw [HX.out]; rfl, HW.out⟩

set_option maxHeartbeats 1000000 in
theorem dapplies_any (v : Value) (l : List DD) (pa : Option Addr) (pc : Nat) (p : List EE) (B : Nat) (w : World) (hs : Sn w v l) (hE : Es w B pa p) (hL : ∀ e ∈ p, Len9 e) (hn : p.length ≤ 10000) :
    Calls Tryz.prog 46 #[v, .slice pa p.length pc] w fun e w' => e = .returned (.bool (p.all (fitD l))) ∧ Kept (fun _ => False) w w' := by
  obtain ⟨q, rfl⟩ := hs.pointer
  have KA := Lib.hid ((Kept.refl (fun _ => False) w).alloc (.cells #[.pointer q] 25))
  have HI := Lib.hid (dindex_any (.pointer q) l w.heap.size pa pc p B (w.alloc (.cells #[.pointer q] 25)) (World.cell?_alloc_new w #[.pointer q] 25 0) (hs.keep KA.out) (hE.keep KA.out) hL hn)
  clear hs hE hL hn
  generalize p.all (fitD l) = r at *
  have HC := Lib.hid (show Calls Tryz.prog 79 #[.slice pa p.length pc, .func (.func 80) #[] #[.pointer (some ⟨w.heap.size, 0, none⟩)]] (w.alloc (.cells #[.pointer q] 25)) fun e w' => e = .returned (.bool (!r)) ∧ Kept (fun _ => False) (w.alloc (.cells #[.pointer q] 25)) w' by
    generalize w.alloc (.cells #[.pointer q] 25) = wA at *
    go_enter Tryz.func79, Tryz.ntmps79
    go_wp2_with fail
    refine HI.out.mono ?_
    rintro e w1 ⟨i, rfl, hi, k1⟩
    go_wp2
    go_ret
    exact ⟨by rw [← hi]; rfl, k1⟩)
  go_enter Tryz.func46, Tryz.ntmps46
  go_wp2_with fail
  refine HC.out.mono ?_
  rintro e w1 ⟨rfl, k1⟩
  have K1 := Lib.hid (KA.out.trans k1 (fun _ _ h => h)); clear k1
  go_wp2
  go_ret
  exact ⟨by simp, K1.out⟩

set_option maxHeartbeats 1000000 in
theorem dfits9_any (v : Value) (l : List DD) (pa : Option Addr) (pc : Nat) (p : List EE) (B : Nat) (w : World) (hm : MaxAt w) (hs : Sn w v l) (_hl : l.length ≤ 1000) (hE : Es w B pa p) (hL : ∀ e ∈ p, Len9 e) (hn : p.length ≤ 10000) :
    Calls Tryz.prog 15 #[v, .slice pa p.length pc] w fun e w' => e = .returned (.bool (fitsP l (eds p))) ∧ Kept (fun _ => False) w w' := by
  have HR := Lib.hid (dright9_any pa pc p B w hm hE hL hn)
  have HA := Lib.hid (fun (wx : World) (h : Kept (fun _ => False) w wx) => dapplies_any v l pa pc p B wx (hs.keep h) (hE.keep h) hL hn)
  rw [fits_all]
  clear hm hs hE hL hn
  generalize p.all (fitD l) = fa at *
  generalize rightP (eds p) = rp at *
  go_enter Tryz.func15, Tryz.ntmps15
  go_wp2_with fail
  refine HR.out.mono ?_
  rintro e w1 ⟨rfl, k1⟩
  have K1 := Lib.hid k1; clear k1
  cases rp with
  | false =>
    go_wp2
    go_ret
    exact ⟨by rw [Bool.and_false]; rfl, K1.out⟩
  | true =>
    go_wp2_with fail
    refine (HA.out _ K1.out).mono ?_
    rintro e w2 ⟨rfl, k2⟩
    have K2 := Lib.hid (K1.out.trans k2 (fun _ _ h => h)); clear k2
    go_wp2
    go_ret
    exact ⟨by rw [Bool.and_true]; rfl, K2.out⟩

end Go.Proofs.YtecjecdgjmipcaaGreat
