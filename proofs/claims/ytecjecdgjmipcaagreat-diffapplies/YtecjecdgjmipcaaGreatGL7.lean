/-
  Lemmas towards the claim of this folder: contracts of the functions that the law reaches; joined texts.
-/
import Derived.Test.YtecjecdgjmipcaaGreatGDg
import Derived.Test.YtecjecdgjmipcaaGreatGSr
import Derived.Test.YtecjecdgjmipcaaGreatGSv
import Derived.Test.YtecjecdgjmipcaaGreatGR7
/-
  The laws of layer 7: awake.
-/
namespace Go.Proofs.YtecjecdgjmipcaaGreat
open Go.RowKit Go.Mk

theorem keeps_below7 {w w' : World} (h : Kept (fun _ => False) w w') : Below w.heap.size w w' := h.below (Nat.le_refl _) (fun _ h => h.elim)

end Go.Proofs.YtecjecdgjmipcaaGreat

/-
  The laws of layer 8: awake; a few small definitions; a change and what becomes of a snapshot by it.
-/
namespace Go.Proofs.YtecjecdgjmipcaaGreat
open Go.RowKit Go.Mk Go.Maps

def exA : DD := ⟨1, [65], [79, 98, 106, 101, 99, 116], [], [], []⟩
def exB : DD := ⟨2, [65], [], [], [98], []⟩

theorem ex_new : newL (dds [(exA, none, 0), (exB, none, 0)]) = (0, [exA, exB]) := by decide +kernel
theorem ex_drop : dropsD [[65]] [exA, exB] = [exB] := by decide +kernel

theorem ex_ds (w : World) : Ds (w.alloc (.cells #[.int .i64 1, .string (bs [65]), .string (bs [79, 98, 106, 101, 99, 116]), .slice none 0 0, .string (bs []), .string (bs []), .int .i64 2, .string (bs [65]), .string (bs []), .slice none 0 0, .string (bs [98]), .string (bs [])] 49)) (w.heap.size + 1) (some ⟨w.heap.size, 0, none⟩) [(exA, none, 0), (exB, none, 0)] := by
  refine ⟨fun _ => ⟨w.heap.size, 0, rfl, by omega, fun j hj => ?_⟩, fun e he => ?_⟩
  · have hj2 : j = 0 ∨ j = 1 := by simp at hj; omega
    rcases hj2 with rfl | rfl
    · constructor <;> exact World.cell?_alloc_new w _ _ _
    · constructor <;> exact World.cell?_alloc_new w _ _ _
  · rcases List.mem_cons.1 he with rfl | he
    · exact ⟨Lies.nil _ _ _, by decide⟩
    · rw [List.mem_singleton] at he
      subst he
      exact ⟨Lies.nil _ _ _, by decide⟩

theorem ex_len : ∀ e ∈ [(exA, (none : Option Addr), 0), (exB, none, 0)], Len8 e.1 := by
  intro e he
  rcases List.mem_cons.1 he with rfl | he
  · exact ⟨by decide, by decide, by decide, by decide, by decide, by simp [exA]⟩
  · rw [List.mem_singleton] at he
    subst he
    exact ⟨by decide, by decide, by decide, by decide, by decide, by simp [exB]⟩

set_option maxHeartbeats 1000000 in
set_option maxRecDepth 100000 in
theorem awake8_any (w : World) : Calls Tryz.prog 25 #[] w fun e w' => e = .returned (.bool true) ∧ Kept (fun _ => False) w w' := by
  have HN := Lib.hid (snew_any (some ⟨w.heap.size, 0, none⟩) 2 [(exA, none, 0), (exB, none, 0)] _ _ (by rw [World.size_alloc]; omega) (ex_ds w) ex_len (by decide))
  have KA := Lib.hid ((Kept.refl (fun _ => False) w).alloc (.cells #[.int .i64 1, .string (bs [65]), .string (bs [79, 98, 106, 101, 99, 116]), .slice none 0 0, .string (bs []), .string (bs []), .int .i64 2, .string (bs [65]), .string (bs []), .slice none 0 0, .string (bs [98]), .string (bs [])] 49))
  rw [ex_new] at HN
  go_enter Tryz.func25, Tryz.ntmps25
  go_wp2_with fail
  refine HN.out.mono ?_
  rintro e w1 ⟨v, rfl, hv, _, hs, k1⟩
  obtain ⟨s, rfl⟩ := hv rfl
  have HS := Lib.hid hs; have K1 := Lib.hid (KA.out.trans k1 (fun _ _ h => h))
  clear hs k1 hv
  go_wp2_with fail
  refine (slen_any HS.out).mono ?_
  rintro e w2 ⟨rfl, rfl⟩
  have KB := Lib.hid ((Kept.refl (fun _ => False) w1).alloc (.cells #[.string (bs [65])] 9))
  have HLK : Lies (w1.alloc (.cells #[.string (bs [65])] 9)) (w1.heap.size + 1) (some ⟨w1.heap.size, 0, none⟩) (strs [[65]]) := lies_new w1 (strs [[65]]) 9
  have HD := Lib.hid (sdrop_any _ _ (some ⟨w1.heap.size, 0, none⟩) 1 [[65]] 1 rfl _ _ (HS.out.keep KB.out) HLK (by decide) (by simp) (by simp))
  rw [ex_drop] at HD
  clear HLK
  go_wp2_with fail
  refine HD.out.mono ?_
  rintro e w3 ⟨s3, rfl, n3, k3⟩
  have HL := Lib.hid (slen_any n3); have K3 := Lib.hid ((K1.out.trans KB.out (fun _ _ h => h)).trans k3 (fun _ _ h => h))
  clear n3 k3
  go_wp2_with fail
  refine HL.out.mono ?_
  rintro e w4 ⟨rfl, rfl⟩
  go_wp2
  go_ret
  exact ⟨rfl, K3.out⟩

/-! ### Few -/

def fewB (es : List Ent) (n : Int) : Bool := decide ((es.length : Int) ≤ n) && (dds es).all smallD

set_option maxHeartbeats 1000000 in
set_option maxRecDepth 100000 in
theorem few_any (la : Option Addr) (lc : Nat) (es : List Ent) (n : Int) (B : Nat) (w : World) (hD : Ds w B la es) (hn : n ≤ 1000000) :
    Calls Tryz.prog 8 #[.slice la es.length lc, .int .i64 n] w fun e w' => e = .returned (.bool (fewB es n)) ∧ Kept (fun _ => False) w w' := by
  have HD := Lib.hid hD; clear hD
  by_cases h : (es.length : Int) ≤ n
  · have hB : fewB es n = (dds es).all smallD := by simp [fewB, h]
    rw [hB]; clear hB
    have h1 : ¬ n < (es.length : Int) := by omega
    clear h
    go_enter Tryz.func8, Tryz.ntmps8
    go_wp2
    go_loopg [5] es.length (fun k c wr => ∃ j, k = es.length - j ∧ j ≤ es.length ∧ c = .int .i64 (j : Int) ∧ ((dds es).take j).all smallD = true ∧ Kept (fun _ => False) w wr)
    case atStart => exact ⟨0, rfl, Nat.zero_le _, rfl, rfl, Kept.refl _ _⟩
    case round =>
      obtain ⟨j, hk, hj, rfl, hall, hw⟩ := hrel
      have HK := Lib.hid hk; have HA := Lib.hid hall; have HW := Lib.hid hw
      clear hk hall hw
      by_cases hlt : j < es.length
      · obtain ⟨xb, xo, rfl, hxb, hc⟩ := HD.out.row (by intro h; rw [h] at hlt; simp at hlt)
        obtain ⟨c0, c1, c2, c3, c4, c5⟩ := (hc j hlt).kept HW.out (fun h => h)
        have HLI := Lib.hid (HD.out.lies es[j] (List.getElem_mem hlt)).1
        have htk := dds_take es j hlt
        have HNO := Lib.hid (show smallD es[j].1 = false → (dds es).all smallD = false from fun h => by
          rw [List.all_eq_false]
          exact ⟨es[j].1, List.mem_map.2 ⟨es[j], List.getElem_mem hlt, rfl⟩, by simp [h]⟩)
        have i1 : (j : Int) < (es.length : Int) := by omega
        clear hc
        generalize es[j] = x at *
        obtain ⟨d, ao, cap⟩ := x
        dsimp only at c0 c1 c2 c3 c4 c5 HLI htk HNO
        have HTK := Lib.hid htk; clear htk
        have HSM := Lib.hid (rsmall_any d ao cap B wr (HLI.out.kept HW.out (fun _ _ _ h => h)))
        cases hs : smallD d with
        | false =>
          rw [hs] at HSM
          have HE := Lib.hid (HNO.out hs); clear hs
          go_wp2_with fail
          refine HSM.out.mono ?_
          rintro e w1 ⟨rfl, k1⟩
          go_wp2
          go_ret
          exact ⟨by rw [HE.out]; rfl, HW.out.trans k1 (fun _ _ h => h)⟩
        | true =>
          rw [hs] at HSM
          have HE := Lib.hid (show ((dds es).take (j + 1)).all smallD = true by rw [HTK.out, List.all_append, HA.out]; simp [hs])
          clear hs
          go_wp2_with fail
          refine HSM.out.mono ?_
          rintro e w1 ⟨rfl, k1⟩
          have K1 := Lib.hid (HW.out.trans k1 (fun _ _ h => h)); clear k1
          go_wp2
          go_roundg (es.length - (j + 1))
          case measure => have := HK.out; omega
          case rel => exact ⟨j + 1, rfl, by omega, by go_num, HE.out, K1.out⟩
      · obtain rfl : j = es.length := by omega
        have hs := HA.out
        rw [← dds_len, List.take_length] at hs
        have HE := Lib.hid hs
        clear hs hlt
        go_wp2
        go_ret
        exact ⟨by rw [HE.out]; rfl, HW.out⟩
  · have hB : fewB es n = false := by simp [fewB, h]
    rw [hB]; clear hB
    have h1 : n < (es.length : Int) := by omega
    clear h
    go_enter Tryz.func8, Tryz.ntmps8
    go_wp2
    go_ret
    exact ⟨rfl, Kept.refl _ _⟩

theorem small_len8 {d : DD} (h : SmallD d) : Len8 d :=
  ⟨Nat.le_trans h.c (by omega), Nat.le_trans h.p (by omega), Nat.le_trans h.s (by omega), Nat.le_trans h.t (by omega), Nat.le_trans h.n (by omega), fun x hx => Nat.le_trans (h.v x hx) (by omega)⟩

structure FewD (es : List Ent) (n : Nat) : Prop where
  len : es.length ≤ n
  small : ∀ e ∈ es, SmallD e.1

theorem few_of {es : List Ent} {n : Nat} (h : fewB es (n : Int) = true) : FewD es n := by
  simp only [fewB, Bool.and_eq_true, decide_eq_true_eq, List.all_eq_true] at h
  exact ⟨by omega, fun e he => smallD_of (h.2 e.1 (List.mem_map.2 ⟨e, he, rfl⟩))⟩

end Go.Proofs.YtecjecdgjmipcaaGreat
