/-
  SnapParses: the walk.
-/
import Derived.Test.YtecjecdgjmipcaaGreatGL7
import Derived.Test.YtecjecdgjmipcaaGreatL8x
import Derived.Test.YtecjecdgjmipcaaGreatTp
import Derived.Test.YtecjecdgjmipcaaGreatGRv
import Derived.Test.YtecjecdgjmipcaaGreatPq9
import Derived.Deep.RegionHeld
import Derived.Deep.CutBlock
import Derived.Deep.DeepCutAuto
namespace Go.Proofs.YtecjecdgjmipcaaGreat
open Go.RowKit Go.Mk Go.Maps

set_option maxHeartbeats 400000 in
theorem parses8_big (ba : Option Addr) (bc : Nat) (l : List UInt8) (w : World) (h : 1500 < l.length) :
    Calls Tryz.prog 6 #[.slice ba l.length bc] w fun e w' => e = .returned (.bool true) ∧ Below w.heap.size w w' := by
  have h1 : (1500 : Int) < (l.length : Int) := by omega
  clear h
  go_enter Tryz.func6, Tryz.ntmps6
  go_wp2_with fail
  refine (awake8_any w).mono ?_
  rintro e w1 ⟨rfl, b1⟩
  have B1 := Lib.hid b1; clear b1
  go_wp2_with fail
  refine (awake8_any w1).mono ?_
  rintro e w2 ⟨rfl, b2⟩
  have B2 := Lib.hid b2; clear b2
  go_wp2
  go_ret
  exact ⟨rfl, keeps_below7 (B1.out.trans B2.out (fun _ _ h => h))⟩

/-- The octets that came in, the snapshot, the reference's list. -/
structure P8 (w : World) (ba : Option Addr) (l : List UInt8) (v : Value) (oa : Option Addr) (es : List Ent) (wx : World) : Prop where
  in_ : Lies wx w.heap.size ba (l.map bv)
  sn : Sn wx v (dds es)
  rl : Rl wx oa es
  k : Kept (fun _ => False) w wx

theorem P8.keep {w : World} {ba : Option Addr} {l : List UInt8} {v : Value} {oa : Option Addr} {es : List Ent} {wx wy : World} (h : P8 w ba l v oa es wx) (hk : Kept (fun _ => False) wx wy) : P8 w ba l v oa es wy :=
  ⟨h.in_.kept hk (fun _ _ _ h => h), h.sn.keep hk, h.rl.keep hk, h.k.trans hk (fun _ _ h => h)⟩

set_option maxHeartbeats 4000000 in
set_option maxRecDepth 100000 in
theorem parses8_small (ba : Option Addr) (bc : Nat) (l : List UInt8) (w : World) (hL : Lies w w.heap.size ba (l.map bv)) (hl : l.length ≤ 1500) :
    Calls Tryz.prog 6 #[.slice ba l.length bc] w fun e w' => e = .returned (.bool true) ∧ Below w.heap.size w w' := by
  have g1 : ¬ (1500 : Int) < (l.length : Int) := by omega
  have HL := Lib.hid hL
  have HPI := Lib.hid (fun (m : List DD) (h : parseL l = (0, m)) => parse_inv h)
  have HSP := Lib.hid (fun (wx : World) (h : Lies wx w.heap.size ba (l.map bv)) => sparse_any ba bc l w.heap.size wx h (by omega))
  have HRP := Lib.hid (fun (wx : World) => rparse_any l wx (by omega))
  have HCV := Lib.hid (fun (wx : World) (h : Lies wx w.heap.size ba (l.map bv)) => run_string_of (P := Tryz.prog) wx 55 9 5 Tryz.underlying55 Tryz.underlying5 Tryz.underlying9 bc _ rfl h)
  have HCO := Lib.hid (fun (wx : World) (z : Nat) (ao8 : Option Addr) (cap8 : Nat) (ho : wx.ownsRow z 5 1 (.slice ao8 l.length cap8) l.length (l.map bv)) => run_string_of (P := Tryz.prog) wx 55 9 5 Tryz.underlying55 Tryz.underlying5 Tryz.underlying9 cap8 _ rfl (owns_lies ho))
  clear hL hl
  generalize parseL l = r at *
  obtain ⟨er, m⟩ := r
  have HW := Lib.hid (fun (h : er = 0) => HPI.out m (by rw [h]))
  clear HPI
  go_enter Tryz.func6, Tryz.ntmps6
  go_wp2_with fail
  refine (awake8_any w).mono ?_
  rintro e w1 ⟨rfl, k1⟩
  have HL1 := Lib.hid (HL.out.kept k1 (fun _ _ _ h => h)); have K1 := Lib.hid k1; clear k1
  have hcv1 := HCV.out _ HL1.out
  go_wp2_with fail
  refine (HSP.out _ HL1.out).mono ?_
  rintro e w2 ⟨v2, rfl, hv2, hn2, s2, k2⟩
  dsimp only at s2
  have HL2 := Lib.hid (HL1.out.kept k2 (fun _ _ _ h => h)); have K2 := Lib.hid (K1.out.trans k2 (fun _ _ h => h)); have S2 := Lib.hid s2; have HV2 := Lib.hid hv2; have HN2 := Lib.hid hn2
  clear hv2 hn2 s2 k2 hcv1
  go_wp2_with fail
  refine (HRP.out _).mono ?_
  rintro e w3 ⟨oa, oc, es, rfl, he, hel, rl3, k3⟩
  dsimp only at he
  have O3 := Lib.hid (show P8 w ba l v2 oa es w3 from ⟨HL2.out.kept k3 (fun _ _ _ h => h), by rw [he]; exact S2.out.keep k3, rl3, K2.out.trans k3 (fun _ _ h => h)⟩)
  have HE := Lib.hid he; have HEL := Lib.hid hel
  clear he hel rl3 k3 S2
  have hcv3 := HCV.out _ O3.out.in_
  have zl := bs_list l
  by_cases h0 : er = 0
  · obtain ⟨p2, rfl⟩ := HV2.out h0
    obtain ⟨ho, hm5⟩ := HW.out h0
    have HSW := Lib.hid (fun (wx : World) (h : Sn wx (.pointer (some ⟨p2, 0, none⟩)) (dds es)) => swrite_any (.pointer (some ⟨p2, 0, none⟩)) (dds es) wx h (by rw [dds_len]; have := HEL.out; omega))
    rw [HE.out, ho] at HSW
    rw [← HE.out] at HSW
    clear ho hm5 HW HV2 HN2
    subst h0
    go_wp2_with fail
    refine (is_rl O3.out.sn O3.out.rl (by have := HEL.out; omega)).mono ?_
    rintro e w4 ⟨rfl, k4⟩
    have O4 := Lib.hid (O3.out.keep k4); clear k4
    go_wp2_with fail
    refine (HSW.out _ O4.out.sn).mono ?_
    rintro e w5 ⟨ao5, cap5, rfl, ho5, k5⟩
    have hcv5 := HCO.out _ _ _ _ ho5
    have O5 := Lib.hid (O4.out.keep k5); clear ho5 k5
    go_wp2
    go_ret
    exact ⟨rfl, keeps_below7 O5.out.k⟩
  · obtain rfl := HN2.out h0
    have h1 : (er != 0) = true := by simp [h0]
    go_wp2
    go_ret
    exact ⟨rfl, keeps_below7 O3.out.k⟩

theorem parses8_any (ba : Option Addr) (bc : Nat) (l : List UInt8) (w : World) (hL : Lies w w.heap.size ba (l.map bv)) :
    Calls Tryz.prog 6 #[.slice ba l.length bc] w fun e w' => e = .returned (.bool true) ∧ Below w.heap.size w w' := by
  by_cases h : 1500 < l.length
  · exact parses8_big ba bc l w h
  · exact parses8_small ba bc l w hL (by omega)

end Go.Proofs.YtecjecdgjmipcaaGreat
