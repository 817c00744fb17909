/-
  The reference of layer 9: Fits, Apply.
-/
import Derived.Test.YtecjecdgjmipcaaGreatR9b
namespace Go.Proofs.YtecjecdgjmipcaaGreat
open Go.RowKit Go.Mk Go.Maps

def fitE (es : List Ent) (e : EE) : Bool := decide (getK keyD e.key (dds es) = dds e.old.es)

theorem fits_eds (es : List Ent) (p : List EE) : fitsP (dds es) (eds p) = (p.all (fitE es) && rightP (eds p)) := by
  unfold fitsP eds
  rw [List.all_map]
  rfl

set_option maxHeartbeats 2000000 in
set_option maxRecDepth 100000 in
theorem rfits9_any (la : Option Addr) (lc : Nat) (es : List Ent) (pa : Option Addr) (pc : Nat) (p : List EE) (B : Nat) (w : World) (hB : B ≤ w.heap.size) (hD : Ds w B la es) (hl : ∀ e ∈ es, Len8 e.1) (hn : es.length ≤ 1000000) (hr : Rise keyE es)
    (hE : Es w B pa p) (hLp : ∀ e ∈ p, Len9 e) (hpn : p.length ≤ 1000000) :
    Calls Tryz.prog 24 #[.slice la es.length lc, .slice pa p.length pc] w fun e w' => e = .returned (.bool (fitsP (dds es) (eds p))) ∧ Kept (fun _ => False) w w' := by
  have HE := Lib.hid hE; have HLP := Lib.hid hLp
  have HG := Lib.hid (fun (key : List UInt8) (wx : World) (h : Kept (fun _ => False) w wx) => rget_any la lc es key B wx (Nat.le_trans hB h.size) (hD.keep h) hl hn hr)
  have HRI := Lib.hid (fun (wx : World) (h : Kept (fun _ => False) w wx) => rright9_any pa pc p B wx (HE.out.keep h) hLp hpn)
  have HFE := Lib.hid (fits_eds es p)
  have HGN := Lib.hid (show ∀ key, ∀ x ∈ getK keyE key es, x.1.vs.length ≤ 1000000 from fun key x hx => (hl x (mem_getK.1 hx).1).n)
  have HGL := Lib.hid (show ∀ key, (getK keyE key es).length ≤ 1000000 from fun key => Nat.le_trans (getK_len hr key) (by omega))
  have HBB := Lib.hid hB
  clear hB hD hl hr hE hLp
  go_enter Tryz.func24, Tryz.ntmps24
  go_wp2
  go_loopg [5] p.length (fun k c wr => ∃ j, k = p.length - j ∧ j ≤ p.length ∧ c = .int .i64 (j : Int) ∧ (p.take j).all (fitE es) = true ∧ Kept (fun _ => False) w wr)
  case atStart => exact ⟨0, rfl, Nat.zero_le _, rfl, rfl, Kept.refl _ _⟩
  case round =>
    obtain ⟨j, hk, hj, rfl, hall, hw⟩ := hrel
    have HK := Lib.hid hk; have HA := Lib.hid hall; have HW := Lib.hid hw
    clear hk hall hw
    by_cases hlt : j < p.length
    · obtain ⟨b, off, rfl, hb, hc⟩ := HE.out.row (by intro h; rw [h] at hlt; simp at hlt)
      have HLI := Lib.hid (HE.out.lies p[j] (List.getElem_mem hlt))
      have HLN := Lib.hid (HLP.out p[j] (List.getElem_mem hlt))
      have HEO := Lib.hid (hc j hlt)
      have HTK := Lib.hid (take_all (fitE es) p j hlt)
      have HNO := Lib.hid (show fitE es p[j] = false → p.all (fitE es) = false from fun h => by
        rw [List.all_eq_false]
        exact ⟨p[j], List.getElem_mem hlt, by simp [h]⟩)
      have i1 : (j : Int) < (p.length : Int) := by omega
      clear hc
      generalize p[j] = x at *
      obtain ⟨key, ⟨oao, ocap, oes⟩, ⟨nao, ncap, nes⟩⟩ := x
      have hfe : fitE es ⟨key, ⟨oao, ocap, oes⟩, ⟨nao, ncap, nes⟩⟩ = sameA (getK keyE key es) oes := by
        unfold fitE sameA
        rw [dds_getK]
      rw [hfe] at HTK HNO
      clear hfe
      have HGK := Lib.hid (HG.out key)
      have HGN1 := Lib.hid (HGN.out key)
      have HGL1 := Lib.hid (HGL.out key)
      generalize getK keyE key es = gs at *
      have HSA := Lib.hid (fun (ao : Option Addr) (cap : Nat) (wx : World) (h : Kept (fun _ => False) w wx) (hs : SDs wx wx.heap.size ⟨ao, cap, gs⟩) => rsameall_any ao cap gs oao ocap oes wx.heap.size wx hs.ds ((HLI.out.1.keep h).mono (Nat.le_trans HBB.out h.size)).ds HGN1.out (fun x hx => (HLN.out.old x hx).n) HGL1.out)
      have HS := Lib.hid (fun (wx : World) (h : Kept (fun _ => False) w wx) => show ceR b (off + j * 3) ⟨key, ⟨oao, ocap, oes⟩, ⟨nao, ncap, nes⟩⟩ none wx from
          have hh := HEO.out.kept h (fun h => h)
          ⟨hh.c0, hh.c1, hh.c2, trivial⟩)
      generalize sameA gs oes = sa at *
      have K1 := Lib.hid (HW.out.trans (Kept.drew (Kept.refl (fun _ => False) wr)) (fun _ _ h => h))
      go_upto_region 4 with fail
      have hS := HS.out _ K1.out
      go_region_held (ceR b (off + j * 3) ⟨key, ⟨oao, ocap, oes⟩, ⟨nao, ncap, nes⟩⟩ none) (with_reducible assumption) (first
        | (go_at_call 44; refine (HGK.out _ K1.out).mono ?_; rintro e w2 ⟨ao2, cap2, rfl, s2, -, k2⟩; have S2 := Lib.hid s2; have K2 := Lib.hid (K1.out.trans k2 (fun _ _ h => h)); have hS2 := HS.out _ K2.out; clear k2 s2)
        | (go_at_call 43; refine (HSA.out _ _ _ K2.out S2.out).mono ?_; rintro e w3 ⟨rfl, k3⟩; have K3 := Lib.hid (K2.out.trans k3 (fun _ _ h => h)); have hS3 := HS.out _ K3.out; clear k3))
      all_goals cases sa with
        | false =>
          have HX := Lib.hid (HNO.out rfl)
          go_wp2
          go_ret
          exact ⟨by rw [HFE.out, HX.out]; rfl, K3.out⟩
        | true =>
          have HX := Lib.hid (show (p.take (j + 1)).all (fitE es) = true by rw [HTK.out, HA.out]; rfl)
          go_wp2
          go_roundg (p.length - (j + 1))
          case measure => have := HK.out; omega
          case rel => exact ⟨j + 1, rfl, by omega, by go_num, HX.out, K3.out⟩
    · obtain rfl : j = p.length := by omega
      have hs := HA.out
      rw [List.take_length] at hs
      have HX := Lib.hid (show fitsP (dds es) (eds p) = rightP (eds p) by rw [HFE.out, hs, Bool.true_and])
      clear hs hlt
      go_wp2_with fail
      refine (HRI.out _ HW.out).mono ?_
      rintro e w1 ⟨rfl, k1⟩
      have K1 := Lib.hid (HW.out.trans k1 (fun _ _ h => h)); clear k1
      go_wp2
      go_ret
      exact ⟨by rw [HX.out]; rfl, K1.out⟩

/-! ### Apply -/

def appE (out : List Ent) (e : EE) : List Ent := e.new.es.foldl (fun o d => putK keyE d o) (dropK keyE e.key out)

theorem app_take {p : List EE} {j : Nat} (h : j < p.length) (l : List DD) : appP l ((eds p).take (j + 1)) = (edE p[j]).new.foldl (fun o d => putK keyD d o) (dropK keyD p[j].key (appP l ((eds p).take j))) := by
  rw [eds_take p j h]
  unfold appP
  rw [List.foldl_append]
  rfl

/-- What Apply answers. -/
def RaPost (w : World) (r : Int × List DD) (e : Ending) (w' : World) : Prop :=
  ∃ oa oc out, e = .returned (.tuple #[.slice oa out.length oc, .int .i64 r.1]) ∧ dds out = r.2 ∧ Rl w' oa out ∧ Kept (fun _ => False) w w'

set_option maxHeartbeats 2000000 in
set_option maxRecDepth 100000 in
theorem rapply9_any (la : Option Addr) (lc : Nat) (es : List Ent) (pa : Option Addr) (pc : Nat) (p : List EE) (B : Nat) (w : World) (hB : B ≤ w.heap.size) (hR : Rl w la es) (hn : es.length ≤ 10000)
    (hE : Es w B pa p) (hLp : ∀ e ∈ p, Len9 e) (hpn : p.length ≤ 10000) :
    Calls Tryz.prog 22 #[.slice la es.length lc, .slice pa p.length pc] w (RaPost w (applyP (dds es) (eds p))) := by
  have HE := Lib.hid hE; have HLP := Lib.hid hLp; have HR := Lib.hid hR; have HBB := Lib.hid hB
  have HRI := Lib.hid (fun (wx : World) (h : Kept (fun _ => False) w wx) => rright9_any pa pc p B wx (HE.out.keep h) hLp (by omega))
  have HFI := Lib.hid (fun (wx : World) (h : Kept (fun _ => False) w wx) => rfits9_any la lc es pa pc p w.heap.size wx h.size (hR.ds.keep h) hR.len (by omega) hR.rise ((hE.mono hB).keep h) hLp (by omega))
  have HAP := Lib.hid (show applyP (dds es) (eds p) = if rightP (eds p) = false then (32, []) else if fitsP (dds es) (eds p) = false then (75, []) else if 500 < (appP (dds es) (eds p)).length then (21, []) else (0, appP (dds es) (eds p)) from rfl)
  have HNW := Lib.hid (show rightP (eds p) = true → ∀ e ∈ p, e.new.es.length ≤ 1 from fun h e he => by
    have h1 := (rightE_iff.1 ((rightP_iff.1 h).1 (edE e) (List.mem_map_of_mem he))).2.2.1
    have h2 := (sideB_iff.1 h1).1
    unfold edE at h2
    rwa [dds_len] at h2)
  clear hE hLp hR hB
  generalize applyP (dds es) (eds p) = R at *
  generalize rightP (eds p) = ri at *
  generalize fitsP (dds es) (eds p) = fi at *
  go_enter Tryz.func22, Tryz.ntmps22
  go_wp2_with fail
  refine (HRI.out _ (Kept.refl _ _)).mono ?_
  rintro e w1 ⟨rfl, k1⟩
  have K1 := Lib.hid k1; clear k1
  cases ri with
  | false =>
    obtain rfl : R = (32, []) := by rw [HAP.out, if_pos rfl]
    clear HAP
    go_wp2
    go_ret2
    exact ⟨none, 0, [], rfl, rfl, Rl.nil _ _, K1.out⟩
  | true =>
    go_wp2_with fail
    refine (HFI.out _ K1.out).mono ?_
    rintro e w2 ⟨rfl, k2⟩
    have K2 := Lib.hid (K1.out.trans k2 (fun _ _ h => h)); clear k2
    cases fi with
    | false =>
      obtain rfl : R = (75, []) := by rw [HAP.out, if_neg (by simp), if_pos rfl]
      clear HAP
      go_wp2
      go_ret2
      exact ⟨none, 0, [], rfl, rfl, Rl.nil _ _, K2.out⟩
    | true =>
      have HAQ := Lib.hid (show R = if 500 < (appP (dds es) (eds p)).length then (21, []) else (0, appP (dds es) (eds p)) by rw [HAP.out, if_neg (by simp), if_neg (by simp)])
      clear HAP
      go_wp2
      go_loopg [6, 7] p.length (fun k v c wr => ∃ j oa oc out, k = p.length - j ∧ j ≤ p.length ∧ c = .int .i64 (j : Int) ∧ v = .slice oa out.length oc ∧ dds out = appP (dds es) ((eds p).take j) ∧ out.length ≤ es.length + j ∧ Rl wr oa out ∧ Kept (fun _ => False) w wr)
      case atStart => exact ⟨0, la, lc, es, rfl, Nat.zero_le _, rfl, rfl, rfl, Nat.le_refl _, HR.out.keep K2.out, K2.out⟩
      case round =>
        obtain ⟨j, oa, oc, out, hk, hj, rfl, rfl, hout, hol, hrl, hw⟩ := hrel
        have HK := Lib.hid hk; have HOUT := Lib.hid hout; have HOL := Lib.hid hol; have HRL := Lib.hid hrl; have HW := Lib.hid hw
        clear hk hout hol hrl hw
        by_cases hlt : j < p.length
        · obtain ⟨b, off, rfl, hb, hc⟩ := HE.out.row (by intro h; rw [h] at hlt; simp at hlt)
          have HLI := Lib.hid (HE.out.lies p[j] (List.getElem_mem hlt))
          have HLN := Lib.hid (HLP.out p[j] (List.getElem_mem hlt))
          have HN1 := Lib.hid (HNW.out (by trivial) p[j] (List.getElem_mem hlt))
          have HEO := Lib.hid (hc j hlt)
          have HTK := Lib.hid (app_take hlt (dds es))
          have i1 : (j : Int) < (p.length : Int) := by omega
          clear hc
          generalize p[j] = x at *
          obtain ⟨key, ⟨oao, ocap, oes⟩, ⟨nao, ncap, nes⟩⟩ := x
          have HT2 := Lib.hid (show appP (dds es) ((eds p).take (j + 1)) = dds (nes.foldl (fun o d => putK keyE d o) (dropK keyE key out)) by
            rw [HTK.out, dds_puts, dds_drop, HOUT.out]
            rfl)
          clear HTK
          dsimp only at HN1
          obtain ⟨c0, c1, c2⟩ := HEO.out.kept HW.out (fun h => h)
          dsimp only at c0 c1 c2
          have HDR := Lib.hid (rdrop_rl oa oc out key wr HRL.out (by have := HOL.out; omega))
          have HDL := Lib.hid (show (dropK keyE key out).length ≤ es.length + j from Nat.le_trans (List.length_filter_le _ _) HOL.out)
          generalize dropK keyE key out = m at *
          go_wp2_with fail
          refine HDR.out.mono ?_
          rintro e w3 ⟨oa3, oc3, rfl, r3, k3⟩
          have R3 := Lib.hid r3; have K3 := Lib.hid (HW.out.trans k3 (fun _ _ h => h))
          clear r3 k3 c0 c1 c2 HDR HRL
          go_wp2
          go_loopg [6, 8] nes.length (fun k v c wr => ∃ i oa oc out, k = nes.length - i ∧ i ≤ nes.length ∧ c = .int .i64 (i : Int) ∧ v = .slice oa out.length oc ∧ out = (nes.take i).foldl (fun o d => putK keyE d o) m ∧ out.length ≤ es.length + j + i ∧ Rl wr oa out ∧ Kept (fun _ => False) w wr)
          case atStart => exact ⟨0, oa3, oc3, m, rfl, Nat.zero_le _, rfl, rfl, rfl, HDL.out, R3.out, K3.out⟩
          case round =>
            obtain ⟨i, oa4, oc4, out4, hk4, hi4, rfl, rfl, hout4, hol4, hrl4, hw4⟩ := hrel
            have HK4 := Lib.hid hk4; have HOUT4 := Lib.hid hout4; have HOL4 := Lib.hid hol4; have HRL4 := Lib.hid hrl4; have HW4 := Lib.hid hw4
            clear hk4 hout4 hol4 hrl4 hw4
            obtain ⟨c0, c1, c2⟩ := HEO.out.kept HW4.out (fun h => h)
            dsimp only at c0 c1 c2
            by_cases hlt4 : i < nes.length
            · obtain ⟨xb, xo, rfl, hxb, hcx⟩ := HLI.out.2.ds.row (by intro h; dsimp only at h; rw [h] at hlt4; simp at hlt4)
              have hmem := List.getElem_mem hlt4
              obtain ⟨d0, d1, d2, d3, d4, d5⟩ := (hcx i hlt4).kept HW4.out (fun h => h)
              have HLX := Lib.hid (HLI.out.2.ds.lies nes[i] hmem)
              have HLE := Lib.hid (HLN.out.new nes[i] hmem)
              have HT4 := Lib.hid (show (nes.take (i + 1)).foldl (fun o d => putK keyE d o) m = putK keyE nes[i] out4 by
                rw [List.take_add_one, List.getElem?_eq_getElem hlt4, Option.toList_some, List.foldl_append, ← HOUT4.out]
                rfl)
              have i2 : (i : Int) < (nes.length : Int) := by omega
              have hn1 := HN1.out
              clear hcx hmem
              dsimp only at d0 d1 d2 d3 d4 d5
              generalize nes[i] = y at *
              obtain ⟨d, ao, cap⟩ := y
              dsimp only at d0 d1 d2 d3 d4 d5 HLX HLE
              have HPU := Lib.hid (rput_rl oa4 oc4 out4 d ao cap B _ (Nat.le_trans HBB.out HW4.out.size) HRL4.out (by have := HOL4.out; have := HN1.out; omega) (HLX.out.1.kept HW4.out (fun _ _ _ h => h)) HLX.out.2 HLE.out)
              have HPL := Lib.hid (putK_le (a := (d, ao, cap)) HRL4.out.rise)
              generalize putK keyE (d, ao, cap) out4 = m' at *
              go_wp2_with fail
              refine HPU.out.mono ?_
              rintro e w5 ⟨oa5, oc5, rfl, r5, k5⟩
              have R5 := Lib.hid r5; have K5 := Lib.hid (HW4.out.trans k5 (fun _ _ h => h))
              clear r5 k5
              go_wp2
              go_roundg (nes.length - (i + 1))
              case measure => have := HK4.out; omega
              case rel => exact ⟨i + 1, oa5, oc5, m', rfl, by omega, by go_num, rfl, HT4.out.symm, by have := HOL4.out; have := HPL.out; omega, R5.out, K5.out⟩
            · obtain rfl : i = nes.length := by omega
              have hs := HOUT4.out
              rw [List.take_length] at hs
              have HX := Lib.hid (show dds out4 = appP (dds es) ((eds p).take (j + 1)) by rw [HT2.out, hs])
              clear hs hlt4
              go_wp2
              go_roundg (p.length - (j + 1))
              case measure => have := HK.out; omega
              case rel => exact ⟨j + 1, oa4, oc4, out4, rfl, by omega, by go_num, rfl, HX.out, by have := HOL4.out; have := HN1.out; omega, HRL4.out, HW4.out⟩
        · obtain rfl : j = p.length := by omega
          have hs := HOUT.out
          rw [← eds_len p, List.take_length] at hs
          have hq := HAQ.out
          rw [← hs, dds_len] at hq
          have HX := Lib.hid hs
          have HQ := Lib.hid hq
          clear hs hlt hq HAQ
          by_cases h5 : 500 < out.length
          · have i2 : (500 : Int) < (out.length : Int) := by omega
            obtain rfl : R = (21, []) := by rw [HQ.out, if_pos h5]
            clear h5 HQ
            go_wp2
            go_ret2
            exact ⟨none, 0, [], rfl, rfl, Rl.nil _ _, HW.out⟩
          · have i2 : ¬ (500 : Int) < (out.length : Int) := by omega
            obtain rfl : R = (0, dds out) := by rw [HQ.out, if_neg h5]
            clear h5 HQ
            go_wp2
            go_ret2
            exact ⟨oa, oc, out, rfl, rfl, HRL.out, HW.out⟩

end Go.Proofs.YtecjecdgjmipcaaGreat
