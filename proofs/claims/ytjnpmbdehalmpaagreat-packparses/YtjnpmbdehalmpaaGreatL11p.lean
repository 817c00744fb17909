/-
  PackParses: the walk.
-/
import Derived.Test.YtjnpmbdehalmpaaGreatGKi
namespace Go.Proofs.YtjnpmbdehalmpaaGreat
open Go.RowKit Go.Mk Go.Maps

set_option maxHeartbeats 4000000 in
set_option maxRecDepth 100000 in
theorem parses11_any (la : Option Addr) (lc : Nat) (l : List UInt8) (w : World) (hL : Lies w w.heap.size la (l.map bv)) (hc : l.length ≤ lc) :
    Calls Tryz.prog 4 #[.slice la l.length lc] w fun e w' => e = .returned (.bool true) ∧ Below w.heap.size w w' := by
  have HAW := Lib.hid (fun (wx : World) (h : Kept (fun _ => False) w wx) => awake11_any wx)
  have HL := Lib.hid (fun (wx : World) (h : Kept (fun _ => False) w wx) => hL.kept h (fun _ _ _ h => h))
  have HCV := Lib.hid (fun (wx : World) (h : Kept (fun _ => False) w wx) => run_string_of (P := Tryz.prog) wx 28 9 5 Tryz.underlying28 Tryz.underlying5 Tryz.underlying9 lc l.length rfl (hL.kept h (fun _ _ _ h => h)))
  clear hL
  go_enter Tryz.func4, Tryz.ntmps4
  go_wp2_with fail
  refine (HAW.out _ (Kept.refl _ _)).mono ?_
  rintro e w1 ⟨rfl, k1⟩
  have K1 := Lib.hid k1; clear k1
  by_cases hbig : l.length ≤ 1500
  · have hb1 : ¬ (1500 : Int) < (l.length : Int) := by omega
    have HB := Lib.hid hbig
    have hcv := HCV.out _ K1.out
    have HPP := Lib.hid (dpparse_any la lc l w.heap.size w1 (HL.out _ K1.out) hc (by omega))
    have HRP := Lib.hid (fun wx => rparse11_any l wx (by have := HB.out; omega))
    clear hbig
    obtain ⟨r, hr⟩ : ∃ r, parsePk l = r := ⟨_, rfl⟩
    have HLE := Lib.hid (fun (p : PE) (h : pkE p = r.2) => rp_len (l := l) (by rw [hr]; exact h))
    have HER := Lib.hid (parsePk_err hr)
    rw [hr] at HPP HRP
    clear hr
    obtain ⟨er, pd⟩ := r
    dsimp only at HLE HER
    go_wp2_with fail
    refine HPP.out.mono ?_
    rintro e w2 ⟨p, rfl, hp, pk, k2⟩
    have HP := Lib.hid hp; have P2 := Lib.hid pk
    have K2 := Lib.hid (K1.out.trans k2 (fun _ _ h => h))
    have KB := Lib.hid ((Kept.refl (fun _ => False) w2).alloc (.cells #[.string (bs p.n), .int .i64 p.v, .slice p.na p.ns.length p.nc, .slice p.ds.ao p.ds.es.length p.ds.cap] 25))
    have C2 := Lib.hid (bp_new w2 p 25)
    dsimp only at HP
    clear hp pk k2 hcv
    go_wp2_with fail
    refine (HRP.out _).mono ?_
    rintro e w3 ⟨q, rfl, hq, qk, k3⟩
    have HQ := Lib.hid hq; have Q3 := Lib.hid qk
    have K3 := Lib.hid ((K2.out.trans KB.out (fun _ _ h => h)).trans k3 (fun _ _ h => h))
    have C3 := Lib.hid (C2.out.kept k3 (fun h => h))
    have P3 := Lib.hid (((P2.out.keep KB.out).keep k3).mono (B' := w3.heap.size) (by have h1 := KB.out.size; have h2 := k3.size; omega))
    have KC := Lib.hid ((Kept.refl (fun _ => False) w3).alloc (.cells #[.string (bs q.n), .int .i64 q.v, .slice q.na q.ns.length q.nc, .slice q.ds.ao q.ds.es.length q.ds.cap] 25))
    have HS := Lib.hid (rsame11_any p q w3.heap.size _ (P3.out.keep KC.out) (Q3.out.keep KC.out) (HLE.out p HP.out) (HLE.out q hq))
    rw [sameK_true (by rw [HP.out]; exact hq.symm)] at HS
    have C4 := Lib.hid (C3.out.kept KC.out (fun h => h))
    have D4 := Lib.hid (bp_new w3 q 25)
    obtain ⟨⟨x0, x1, x2, x3⟩, _, _, _, _⟩ := C4.out
    obtain ⟨⟨y0, y1, y2, y3⟩, _, _, _, _⟩ := D4.out
    have hee : (er != er) = false := by simp
    clear hq qk k3
    go_wp2_with fail
    refine HS.out.mono ?_
    rintro e w4 ⟨rfl, k4⟩
    have K4 := Lib.hid ((K3.out.trans KC.out (fun _ _ h => h)).trans k4 (fun _ _ h => h))
    have P4 := Lib.hid (((P3.out.keep KC.out).keep k4).mono (B' := w4.heap.size) (by have h1 := KC.out.size; have h2 := k4.size; omega))
    have C5 := Lib.hid (C4.out.kept k4 (fun h => h))
    have hcv := HCV.out _ K4.out
    have hss : ((bs l).toList != (bs l).toList) = false := by simp
    clear k4 x0 x1 x2 x3 y0 y1 y2 y3
    rcases HER.out with ⟨h0, hr, hs⟩ | ⟨h0, hz⟩
    · subst h0
      have HW := Lib.hid (dpwrite_any p w4.heap.size w4 (Nat.le_refl _) P4.out (HLE.out p HP.out))
      rw [HP.out, show writeK pd = (0, l) by unfold writeK; rw [if_pos (rightPk_iff.2 hr), hs]] at HW
      dsimp only at HW
      obtain ⟨⟨x0, x1, x2, x3⟩, _, _, _, _⟩ := C5.out
      clear hr hs
      go_wp2_with fail
      refine HW.out.mono ?_
      rintro e w5 ⟨ao, cap, rfl, ho, k5⟩
      have K5 := Lib.hid (K4.out.trans k5 (fun _ _ h => h))
      have hcv5 := run_string_of (P := Tryz.prog) w5 28 9 5 Tryz.underlying28 Tryz.underlying5 Tryz.underlying9 cap l.length rfl (owns_lies ho)
      have hse : ((bs l).toList == (bs l).toList) = true := by simp
      clear ho k5 hcv x0 x1 x2 x3
      go_wp2
      go_ret
      exact ⟨rfl, keeps_below7 K5.out⟩
    · have he1 : (er != 0) = true := by simpa using h0
      clear h0 hz
      go_wp2
      go_ret
      exact ⟨rfl, keeps_below7 K4.out⟩
  · have hb1 : (1500 : Int) < (l.length : Int) := by omega
    clear hbig
    go_wp2_with fail
    refine (HAW.out _ K1.out).mono ?_
    rintro e w2 ⟨rfl, k2⟩
    have K2 := Lib.hid (K1.out.trans k2 (fun _ _ h => h)); clear k2
    go_wp2
    go_ret
    exact ⟨rfl, keeps_below7 K2.out⟩

end Go.Proofs.YtjnpmbdehalmpaaGreat
