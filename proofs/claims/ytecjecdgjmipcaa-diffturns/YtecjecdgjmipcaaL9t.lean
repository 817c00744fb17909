/-
  DiffTurns: the walk.
-/
import Derived.Test.YtecjecdgjmipcaaL9
namespace Go.Proofs.Ytecjecdgjmipcaa
open Go.RowKit Go.Mk Go.Maps

structure LenD (d : ED) : Prop where
  key : d.key.length ≤ 1000000
  old : ∀ x ∈ d.old, Len8 x
  new : ∀ x ∈ d.new, Len8 x
  no : d.old.length ≤ 1000000
  nn : d.new.length ≤ 1000000

theorem len9_iff (e : EE) : Len9 e ↔ LenD (edE e) := by
  constructor
  · intro h
    exact ⟨h.key, fun x hx => by obtain ⟨y, hy, rfl⟩ := List.mem_map.1 hx; exact h.old y hy, fun x hx => by obtain ⟨y, hy, rfl⟩ := List.mem_map.1 hx; exact h.new y hy, by simp only [edE, dds_len]; exact h.no, by simp only [edE, dds_len]; exact h.nn⟩
  · intro h
    have h4 := h.no; have h5 := h.nn
    simp only [edE, dds_len] at h4 h5
    exact ⟨h.key, fun x hx => h.old _ (List.mem_map_of_mem hx), fun x hx => h.new _ (List.mem_map_of_mem hx), h4, h5⟩

theorem len9_of {q : List EE} {l : List ED} (hq : eds q = l) (h : ∀ d ∈ l, LenD d) : ∀ e ∈ q, Len9 e := fun e he => (len9_iff e).2 (h _ (hq ▸ List.mem_map_of_mem (f := edE) he))

theorem turn_lenD {l : List ED} (h : ∀ d ∈ l, LenD d) : ∀ d ∈ turnP l, LenD d := by
  intro d hd
  obtain ⟨x, hx, rfl⟩ := List.mem_map.1 hd
  have := h x hx
  exact ⟨this.key, this.new, this.old, this.nn, this.no⟩

/-- Patches that came in or were made. -/
structure T9 (w : World) (pa : Option Addr) (p : List EE) (qa : Option Addr) (q : List EE) (wx : World) : Prop where
  p : Es wx wx.heap.size pa p
  q : Es wx wx.heap.size qa q
  k : Kept (fun _ => False) w wx

theorem T9.keep {w : World} {pa : Option Addr} {p : List EE} {qa : Option Addr} {q : List EE} {wx wy : World} (h : T9 w pa p qa q wx) (hk : Kept (fun _ => False) wx wy) : T9 w pa p qa q wy :=
  ⟨(h.p.keep hk).mono hk.size, (h.q.keep hk).mono hk.size, h.k.trans hk (fun _ _ h => h)⟩

set_option maxHeartbeats 2000000 in
set_option maxRecDepth 100000 in
theorem turns9_any (pa : Option Addr) (pc : Nat) (p : List EE) (w : World) (hm : MaxAt w) (hE : Es w w.heap.size pa p) :
    Calls Try.prog 3 #[.slice pa p.length pc] w fun e w' => e = .returned (.bool true) ∧ Below w.heap.size w w' := by
  have HAW := Lib.hid (fun w => awake9_any w)
  have HSM := Lib.hid (fun (wx : World) (h : Kept (fun _ => False) w wx) => rsmall9_any pa pc p w.heap.size wx (hE.keep h))
  have HE := Lib.hid hE; have HM := Lib.hid hm
  clear hE hm
  go_enter Try.func3, Try.ntmps3
  go_wp2_with fail
  refine (HAW.out _).mono ?_
  rintro e w1 ⟨rfl, k1⟩
  have K1 := Lib.hid k1; clear k1
  go_wp2_with fail
  refine (HSM.out _ K1.out).mono ?_
  rintro e w2 ⟨rfl, k2⟩
  have K2 := Lib.hid (K1.out.trans k2 (fun _ _ h => h)); clear k2
  cases hs : smallP p with
  | false =>
    clear hs
    go_wp2_with fail
    refine (HAW.out _).mono ?_
    rintro e w3 ⟨rfl, k3⟩
    have K3 := Lib.hid (K2.out.trans k3 (fun _ _ h => h)); clear k3
    go_wp2
    go_ret
    exact ⟨rfl, keeps_below7 K3.out⟩
  | true =>
    have HF := Lib.hid (small_len9 hs)
    clear hs
    have HLD := Lib.hid (show ∀ d ∈ eds p, LenD d from fun d hd => by
      obtain ⟨e, he, rfl⟩ := List.mem_map.1 hd
      exact (len9_iff e).1 (HF.out.2 e he).1)
    have HT1 := Lib.hid (dturn9_any pa pc p w.heap.size w2 (HE.out.keep K2.out) (fun e he => (HF.out.2 e he).1) (by have := HF.out.1; omega))
    go_wp2_with fail
    refine HT1.out.mono ?_
    rintro e w3 ⟨qa, qc, q, rfl, hq, he3, k3⟩
    have O3 := Lib.hid (show T9 w pa p qa q w3 from ⟨((HE.out.keep K2.out).keep k3).mono (Nat.le_trans K2.out.size k3.size), he3, K2.out.trans k3 (fun _ _ h => h)⟩)
    have hql : q.length = p.length := by have := congrArg List.length hq; rwa [eds_len, turn_len, eds_len] at this
    have HQL := Lib.hid hql
    have HQ := Lib.hid hq
    have HLQ := Lib.hid (len9_of hq (turn_lenD HLD.out))
    clear hql
    have hpn := HF.out.1
    have HT2 := Lib.hid (dturn9_any qa qc q w3.heap.size w3 O3.out.q HLQ.out (by rw [HQL.out]; omega))
    have HRQ := Lib.hid (show rightP (eds q) = rightP (eds p) by rw [hq]; exact turn_right _)
    clear hq he3 k3 HT1
    go_wp2_with fail
    refine HT2.out.mono ?_
    rintro e w4 ⟨ra, rc, r, rfl, hr, he4, k4⟩
    have O4 := Lib.hid (O3.out.keep k4)
    have hre : eds r = eds p := by rw [hr, HQ.out, turn_turn]
    have HRL := Lib.hid (show r.length = p.length by have := congrArg List.length hre; rwa [eds_len, eds_len] at this)
    have HLR := Lib.hid (len9_of hre HLD.out)
    have HSA := Lib.hid (rsame9_any ra rc r pa pc p w4.heap.size w4 he4 O4.out.p HLR.out (fun e he => (HF.out.2 e he).1) (by rw [HRL.out]; omega))
    have hsp : sameP r p = true := decide_eq_true hre
    rw [hsp] at HSA
    clear hr he4 k4 HT2 hsp hre
    go_wp2_with fail
    refine HSA.out.mono ?_
    rintro e w5 ⟨rfl, k5⟩
    have O5 := Lib.hid (O4.out.keep k5); clear k5
    have HR1 := Lib.hid (dright9_any pa pc p w5.heap.size w5 (HM.out.kept O5.out.k) O5.out.p (fun e he => (HF.out.2 e he).1) (by omega))
    have HR2 := Lib.hid (fun (wx : World) (h : T9 w pa p qa q wx) => dright9_any qa qc q wx.heap.size wx (HM.out.kept h.k) h.q HLQ.out (by rw [HQL.out]; omega))
    rw [HRQ.out] at HR2
    generalize rightP (eds p) = rp at *
    go_wp2_with fail
    refine HR1.out.mono ?_
    rintro e w6 ⟨rfl, k6⟩
    have O6 := Lib.hid (O5.out.keep k6); clear k6
    go_wp2_with fail
    refine (HR2.out _ O6.out).mono ?_
    rintro e w7 ⟨rfl, k7⟩
    have O7 := Lib.hid (O6.out.keep k7); clear k7
    have i1 : (q.length : Int) = (p.length : Int) := by rw [HQL.out]
    have i2 : (rp == rp) = true := by simp
    go_wp2
    go_ret
    exact ⟨rfl, keeps_below7 O7.out.k⟩

end Go.Proofs.Ytecjecdgjmipcaa
