/-
  CONTRACT of the Reader's Texts.
-/
import Derived.Test.YtgefbolnfenfcaaGreatRd
import Derived.Test.YtgefbolnfenfcaaGreatRs
namespace Go.Proofs.YtgefbolnfenfcaaGreat
open Go.RowKit Go.Mk

set_option maxHeartbeats 400000 in
theorem open_any (ao : Option Addr) (cap : Nat) (l : List UInt8) (B : Nat) (w : World) (hL : Lies w B ao (l.map bv)) (hl : l.length ≤ 1099511627776) :
    Calls Tryz.prog 80 #[.slice ao l.length cap] w fun e w' => ∃ b ao' cap', e = .returned (.pointer (some ⟨b, 0, none⟩)) ∧ w.heap.size ≤ b ∧ b < w'.heap.size ∧ Rd w' (fun k => w.heap.size ≤ k ∧ k < b) b ao' cap' ⟨l, 0⟩ ∧ Below w.heap.size w w' := by
  have HL := Lib.hid hL; clear hL
  go_enter Tryz.func80, Tryz.ntmps80
  go_wp2_with fail
  refine (clone_any ao cap l B w HL.out hl).mono ?_
  rintro e w1 ⟨ao', cap', rfl, ho, hb⟩
  have hz := hb.size
  have hlt := owns_lt ho
  have hls := owns_lies ho
  have hmx : l.length ≤ cap' ∧ cap' ≤ maxLen := by
    rcases ho.2 with ⟨h1, h2⟩ | ⟨g, c, cur, h1, _, _, h2, h3, _⟩
    · injection h1 with _ e2 e3; rw [e2, e3]; exact ⟨Nat.le_refl _, Nat.zero_le _⟩
    · injection h1 with _ e2 e3; rw [e3]; exact ⟨h2, h3⟩
  have HO := Lib.hid ho; have HB := Lib.hid hb; have HLT := Lib.hid hlt; have HLS := Lib.hid hls; have HMX := Lib.hid hmx
  clear ho hb hlt hls hmx
  go_wp2
  go_ret
  refine ⟨w1.heap.size, ao', cap', rfl, hz, by simp, ⟨by simp, by simp, by simp, by simp, HMX.out.1, HMX.out.2, ?_, ?_, by simp⟩, HB.out.alloc hz _⟩
  · exact (HLS.out.kept (S := fun _ => False) ((Kept.refl _ w1).alloc _) (fun _ _ _ h => h)).mono (by simp)
  · intro hn a ha
    exact HLT.out a.block (by rw [ha]; rfl)

end Go.Proofs.YtgefbolnfenfcaaGreat
