/-
  The reference of layer 12: Token, the other ones: :=, marks, binary selectors, none.
-/
import Derived.Test.YtofpnlmlenffnaaDoorR12y
namespace Go.Proofs.YtofpnlmlenffnaaDoor
open Go.RowKit Go.Mk

def onesS : List (List UInt8) := [[40], [41], [91], [93], [123], [125], [46], [94], [124], [58]]

theorem onesS_contains (b : UInt8) : onesS.contains [b] = ones.contains b := by
  simp [onesS, ones]

set_option maxHeartbeats 4000000 in
set_option maxRecDepth 100000 in
theorem r12tok_asg (l : List UInt8) (a : Nat) (w : World) (ha : a < l.length) (hc : lett (l[a]'ha) = false) (hd0 : digB (l[a]'ha) = false) (h39 : (l[a]'ha) ≠ 39) (h35 : (l[a]'ha) ≠ 35) (h58 : (l[a]'ha) = 58) (ha1 : a + 1 < l.length) (h61 : (l[a + 1]'ha1) = 61) (hl : l.length ≤ 1000000) :
    Calls Tryd.prog 15 #[.string (bs l), .int .i64 (a : Int)] w (TkP w a (tokL (l.drop a))) := by
  have hs : (bs l).size = l.length := bs_size l
  have j0 : (a : Int) < ((bs l).size : Int) := by omega
  have j1 : (a : Int) + 1 ≤ ((bs l).size : Int) := by omega
  have hgj : ∀ h : a < (bs l).size, (((bs l)[a]'h).toNat : Int) = ((l[a]'ha).toNat : Int) := fun h => by rw [bs_get l a ha]
  have HL := Lib.hid (r12let_any ((l[a]'ha).toNat : Int))
  rw [show ltrI ((l[a]'ha).toNat : Int) = false from hc] at HL
  have HD := Lib.hid (r12dig_any ((l[a]'ha).toNat : Int))
  rw [show digI ((l[a]'ha).toNat : Int) = false from hd0] at HD
  have n39 : ¬ ((l[a]'ha).toNat : Int) = 39 := fun h => h39 (UInt8.toNat_inj.1 (by have : (39 : UInt8).toNat = 39 := rfl; omega))
  have n35 : ¬ ((l[a]'ha).toNat : Int) = 35 := fun h => h35 (UInt8.toNat_inj.1 (by have : (35 : UInt8).toNat = 35 := rfl; omega))
  obtain ⟨wA, hwA⟩ : ∃ wA, (w.alloc (.cells #[.int .i64 0, .string ⟨#[]⟩, .int .i64 0, .int .i64 0] 35)).alloc (.cells #[.int .i64 0, .string ⟨#[]⟩, .int .i64 0, .int .i64 (a : Int)] 35) = wA := ⟨_, rfl⟩
  have Q0 := Lib.hid (tq_new w a)
  rw [hwA] at Q0
  have hne : ¬ w.heap.size = w.heap.size + 1 := by omega
  have hx1 : (bs l).extract a (a + 1) = bs [l[a]'ha] := by rw [bs_extract, ← take_cut, drop_cons l a ha]; rfl
  have hgk : ∀ h : a + 1 < (bs l).size, (((bs l)[a + 1]'h).toNat : Int) = 61 := fun h => by rw [bs_get l (a + 1) ha1, h61]; rfl
  have j2 : (a : Int) + 1 < ((bs l).size : Int) := by omega
  rw [tok_asg ha h58 (by rw [List.getElem?_eq_getElem ha1, h61])]
  have hx58 : ((l[a]'ha).toNat : Int) = 58 := by rw [h58]; rfl
  rw [hx58] at hgj HL HD
  obtain ⟨⟨r0, r1, r2, r3, g0, g1, g2, g3⟩, ⟨c0, c1, c2, c3, f0, f1, f2, f3⟩, _, _⟩ := Q0.out
  dsimp only at c0 c1 c2 c3
  clear hc hd0 h39 h35 h58 h61 n39 n35 hx58 hx1
  go_enter Tryd.func15, Tryd.ntmps15
  go_wp2_with fail
  refine (HL.out _).mono ?_
  rintro e w1 ⟨rfl, rfl⟩
  go_wp2_with fail
  refine (HD.out _).mono ?_
  rintro e w1 ⟨rfl, rfl⟩
  go_wp2
  have hd := Q0.out.fin 7 [58, 61]
  refine bodyPost_ret (results_box2 rfl rfl (load_tk hd.1)) rfl ?_
  exact tkp_some (E := a + 2) hd.2 rfl

set_option maxHeartbeats 4000000 in
set_option maxRecDepth 100000 in
theorem r12tok_one (l : List UInt8) (a : Nat) (w : World) (ha : a < l.length) (hc : lett (l[a]'ha) = false) (hd0 : digB (l[a]'ha) = false) (h39 : (l[a]'ha) ≠ 39) (h35 : (l[a]'ha) ≠ 35) (ho : ones.contains (l[a]'ha) = true) (hna : ¬ ((l[a]'ha) = 58 ∧ l[a + 1]? = some 61)) (hl : l.length ≤ 1000000) :
    Calls Tryd.prog 15 #[.string (bs l), .int .i64 (a : Int)] w (TkP w a (tokL (l.drop a))) := by
  have hs : (bs l).size = l.length := bs_size l
  have j0 : (a : Int) < ((bs l).size : Int) := by omega
  have j1 : (a : Int) + 1 ≤ ((bs l).size : Int) := by omega
  have hgj : ∀ h : a < (bs l).size, (((bs l)[a]'h).toNat : Int) = ((l[a]'ha).toNat : Int) := fun h => by rw [bs_get l a ha]
  have HL := Lib.hid (r12let_any ((l[a]'ha).toNat : Int))
  rw [show ltrI ((l[a]'ha).toNat : Int) = false from hc] at HL
  have HD := Lib.hid (r12dig_any ((l[a]'ha).toNat : Int))
  rw [show digI ((l[a]'ha).toNat : Int) = false from hd0] at HD
  have n39 : ¬ ((l[a]'ha).toNat : Int) = 39 := fun h => h39 (UInt8.toNat_inj.1 (by have : (39 : UInt8).toNat = 39 := rfl; omega))
  have n35 : ¬ ((l[a]'ha).toNat : Int) = 35 := fun h => h35 (UInt8.toNat_inj.1 (by have : (35 : UInt8).toNat = 35 := rfl; omega))
  obtain ⟨wA, hwA⟩ : ∃ wA, (w.alloc (.cells #[.int .i64 0, .string ⟨#[]⟩, .int .i64 0, .int .i64 0] 35)).alloc (.cells #[.int .i64 0, .string ⟨#[]⟩, .int .i64 0, .int .i64 (a : Int)] 35) = wA := ⟨_, rfl⟩
  have Q0 := Lib.hid (tq_new w a)
  rw [hwA] at Q0
  have hne : ¬ w.heap.size = w.heap.size + 1 := by omega
  have hx1 : (bs l).extract a (a + 1) = bs [l[a]'ha] := by rw [bs_extract, ← take_cut, drop_cons l a ha]; rfl
  obtain ⟨wB, hwB⟩ : ∃ wB, wA.alloc (.cells #[.string ⟨#[40]⟩, .string ⟨#[41]⟩, .string ⟨#[91]⟩, .string ⟨#[93]⟩, .string ⟨#[123]⟩, .string ⟨#[125]⟩, .string ⟨#[46]⟩, .string ⟨#[94]⟩, .string ⟨#[124]⟩, .string ⟨#[58]⟩] 9) = wB := ⟨_, rfl⟩
  have QB := Lib.hid (show Tq w ⟨0, [], 0, (a : Int)⟩ wB by rw [← hwB]; exact Q0.out.keep ((Kept.refl (fun _ => False) wA).alloc _))
  have HI := Lib.hid (show Calls Tryd.prog 26 #[.slice (some ⟨wA.heap.size, 0, none⟩) 10 10, .string (bs [l[a]'ha])] wB fun e w' => e = .returned (.bool (ones.contains (l[a]'ha))) ∧ wB = w' by
    rw [← onesS_contains, ← hwB]
    exact rin_any _ 10 onesS _ _ _ (lies_new wA (strs onesS) 9) (by decide))
  rw [ho] at HI
  rw [tok_one ha ho hna]
  obtain ⟨⟨r0, r1, r2, r3, g0, g1, g2, g3⟩, ⟨c0, c1, c2, c3, f0, f1, f2, f3⟩, _, _⟩ := QB.out
  dsimp only at c0 c1 c2 c3
  by_cases h58 : (l[a]'ha) = 58
  · have hx58 : ((l[a]'ha).toNat : Int) = 58 := by rw [h58]; rfl
    rw [hx58] at hgj HL HD
    generalize l[a]'ha = c at *
    by_cases ha1 : a + 1 < l.length
    · have j2 : (a : Int) + 1 < ((bs l).size : Int) := by omega
      have hgk : ∀ h : a + 1 < (bs l).size, (((bs l)[a + 1]'h).toNat : Int) = ((l[a + 1]'ha1).toNat : Int) := fun h => by rw [bs_get l (a + 1) ha1]
      have n61 : ¬ ((l[a + 1]'ha1).toNat : Int) = 61 := fun h => hna ⟨h58, by rw [List.getElem?_eq_getElem ha1]; exact congrArg some (UInt8.toNat_inj.1 (by have : (61 : UInt8).toNat = 61 := rfl; omega))⟩
      generalize ((l[a + 1]'ha1).toNat : Int) = z at *
      clear hc hd0 h39 h35 h58 n39 n35 hx58 hna ho ha1
      go_enter Tryd.func15, Tryd.ntmps15
      go_wp2_with fail
      refine (HL.out _).mono ?_
      rintro e w1 ⟨rfl, rfl⟩
      go_wp2_with fail
      refine (HD.out _).mono ?_
      rintro e w1 ⟨rfl, rfl⟩
      go_wp2_with fail
      refine (HI.out).mono ?_
      rintro e w1 ⟨rfl, rfl⟩
      go_wp2
      have hd := QB.out.fin 7 [c]
      refine bodyPost_ret (results_box2 rfl rfl (load_tk hd.1)) rfl ?_
      exact tkp_some (E := a + 1) hd.2 rfl
    · have j2 : ¬ (a : Int) + 1 < ((bs l).size : Int) := by omega
      obtain ⟨L, hL⟩ : ∃ L, (bs l).size = L := ⟨_, rfl⟩
      clear hc hd0 h39 h35 h58 n39 n35 hx58 hna ho ha1 hL
      go_enter Tryd.func15, Tryd.ntmps15
      go_wp2_with fail
      refine (HL.out _).mono ?_
      rintro e w1 ⟨rfl, rfl⟩
      go_wp2_with fail
      refine (HD.out _).mono ?_
      rintro e w1 ⟨rfl, rfl⟩
      go_wp2_with fail
      refine (HI.out).mono ?_
      rintro e w1 ⟨rfl, rfl⟩
      go_wp2
      have hd := QB.out.fin 7 [c]
      refine bodyPost_ret (results_box2 rfl rfl (load_tk hd.1)) rfl ?_
      exact tkp_some (E := a + 1) hd.2 rfl
  · have n58 : ¬ ((l[a]'ha).toNat : Int) = 58 := fun h => h58 (UInt8.toNat_inj.1 (by have : (58 : UInt8).toNat = 58 := rfl; omega))
    generalize hci : ((l[a]'ha).toNat : Int) = x at *
    generalize l[a]'ha = c at *
    clear hc hd0 h39 h35 h58 hna ho hci
    go_enter Tryd.func15, Tryd.ntmps15
    go_wp2_with fail
    refine (HL.out _).mono ?_
    rintro e w1 ⟨rfl, rfl⟩
    go_wp2_with fail
    refine (HD.out _).mono ?_
    rintro e w1 ⟨rfl, rfl⟩
    go_wp2_with fail
    refine (HI.out).mono ?_
    rintro e w1 ⟨rfl, rfl⟩
    go_wp2
    have hd := QB.out.fin 7 [c]
    refine bodyPost_ret (results_box2 rfl rfl (load_tk hd.1)) rfl ?_
    exact tkp_some (E := a + 1) hd.2 rfl

end Go.Proofs.YtofpnlmlenffnaaDoor
