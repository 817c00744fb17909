/-
  The acts that a law of layer 5 is given: 'small'.
-/
import Derived.Test.YtgefbolnfenfcaaL5
import Derived.Test.YtgefbolnfenfcaaL4f
namespace Go.Proofs.Ytgefbolnfenfcaa
open Go.ChangeShapes Go.WideShapes Go.ChangeAt Go.RowKit Go.Mk

def AC.small5 (f : AC) : Bool := decide (f.bl.length ≤ 600) && decide (f.kl.length ≤ 60)
def smallA5 (mo : Nat) (fs : List AC) : Bool := decide (fs.length ≤ mo) && fs.all AC.small5

theorem smallA5_no {mo : Nat} {fs : List AC} {j : Nat} (hj : j < fs.length) (h : fs[j].small5 = false) : smallA5 mo fs = false := by
  have : fs.all AC.small5 = false := by
    rw [List.all_eq_false]
    exact ⟨fs[j], List.getElem_mem hj, by simp [h]⟩
  simp [smallA5, this]

theorem smallA5_yes {mo : Nat} {fs : List AC} (h : smallA5 mo fs = true) : fs.length ≤ mo ∧ ∀ f ∈ fs, f.bl.length ≤ 600 ∧ f.kl.length ≤ 60 := by
  simp [smallA5, AC.small5] at h
  exact h

set_option maxHeartbeats 400000 in
theorem small5_any (mo : Nat) (moI : Int) (hmI : moI = mo) (fa : Option Addr) (fc : Nat) (fs : List AC) (B : Nat) (w : World) (h : Acts w B fa fs) :
    Calls Try.prog 5 #[.slice fa fs.length fc, .int .i64 moI] w fun e w' => e = .returned (.bool (smallA5 mo fs)) ∧ w = w' := by
  subst hmI
  have hlen := h.len
  unfold maxLen at hlen
  have H := Lib.hid h; clear h
  by_cases h40 : fs.length ≤ mo
  · have hmb : decide (mo < fs.length) = false := by simp; omega
    have H40 := Lib.hid h40; clear h40
    go_enter Try.func5, Try.ntmps5
    go_wp2
    clear hmb
    go_loopg [5] fs.length (fun k c wr => ∃ j, k = fs.length - j ∧ j ≤ fs.length ∧ c = .int .i64 (j : Int) ∧ (∀ i (hi : i < fs.length), i < j → fs[i].small5 = true) ∧ w = wr)
    case atStart => exact ⟨0, rfl, Nat.zero_le _, rfl, fun i _ hi => absurd hi (Nat.not_lt_zero _), rfl⟩
    case round =>
      obtain ⟨j, hk, hj, rfl, hsm, rfl⟩ := hrel
      have HSM := Lib.hid hsm; clear hsm
      by_cases hlt : j < fs.length
      · obtain ⟨b, off, rfl, hbB, hc⟩ := H.out.at_ (by intro e; rw [e] at hlt; simp at hlt)
        obtain ⟨-, -, -, c3, c4⟩ := hc j hlt
        clear hc
        have hlns := H.out.lens fs[j] (List.getElem_mem hlt)
        have hno := smallA5_no (mo := mo) hlt
        generalize hf : fs[j] = f at *
        have HF := Lib.hid hf; clear hf
        have HK := Lib.hid hk; clear hk
        obtain ⟨l1, l2⟩ := hlns
        unfold maxLen at l1 l2
        have HNO := Lib.hid hno; clear hno
        by_cases hs : f.bl.length ≤ 600
        · by_cases hl : f.kl.length ≤ 60
          · go_wp2
            go_roundg (fs.length - (j + 1))
            case measure => have := HK.out; omega
            case rel =>
              refine ⟨j + 1, rfl, by omega, by go_num, fun t ht htj => ?_, rfl⟩
              by_cases e : t = j
              · subst e
                rw [HF.out]
                simp [AC.small5, hs, hl]
              · exact HSM.out t ht (by omega)
          · go_wp2
            go_ret
            exact ⟨by rw [HNO.out (by simp [AC.small5, hl])]; rfl, rfl⟩
        · go_wp2
          go_ret
          exact ⟨by rw [HNO.out (by simp [AC.small5, hs])]; rfl, rfl⟩
      · obtain rfl : j = fs.length := by omega
        go_wp2
        go_ret
        refine ⟨?_, rfl⟩
        have : fs.all AC.small5 = true := by
          rw [List.all_eq_true]
          intro x hx
          obtain ⟨i, hi, rfl⟩ := List.mem_iff_getElem.1 hx
          exact HSM.out i hi hi
        simp [smallA5, H40.out, this]
  · have hsb : smallA5 mo fs = false := by simp [smallA5, h40]
    have HSB := Lib.hid hsb; clear hsb
    go_enter Try.func5, Try.ntmps5
    go_wp2
    go_ret
    exact ⟨by rw [HSB.out]; rfl, rfl⟩

end Go.Proofs.Ytgefbolnfenfcaa
