/-
  CONTRACT of slices.Clone on bytes.
-/
import Derived.Test.YtecjecdgjmipcaaGreatRows
import Derived.Test.YtecjecdgjmipcaaGreatMk
namespace Go.Proofs.YtecjecdgjmipcaaGreat
open Go.RowKit Go.Mk

theorem Tryz.infoByte : (Tryz.prog.info? 5).map (fun i => (i.zero, i.size, i.bytes)) = some (some (.int .u8 0), 1, 1) := by kernel_rfl

set_option maxHeartbeats 400000 in
/-- slices.Clone of bytes: nil, or a row of the call's own. -/
theorem clone_any (ao : Option Addr) (cap : Nat) (l : List UInt8) (B : Nat) (w : World) (hL : Lies w B ao (l.map bv)) (hl : l.length ≤ 1099511627776) :
    Calls Tryz.prog 90 #[.slice ao l.length cap] w fun e w' => ∃ ao' cap', e = .returned (.slice ao' l.length cap') ∧ w'.ownsRow w.heap.size 5 1 (.slice ao' l.length cap') l.length (l.map bv) ∧ Below w.heap.size w w' := by
  obtain ⟨i0, hi, hz0, hz1, hz2⟩ := info_parts Tryz.infoByte
  have hnil := fun (w : World) (a : Option Addr) (n c : Nat) => run_eql_nil_any (P := Tryz.prog) w 55 5 a n c 0 0 Tryz.underlying55
  have HL := Lib.hid hL; clear hL
  cases ao with
  | none =>
    have h0 : l = [] := by
      by_cases h : l = []
      · exact h
      · obtain ⟨_, _, h', _⟩ := HL.out (by simpa using h)
        cases h'
    subst h0
    go_enter Tryz.func90, Tryz.ntmps90
    go_wp2
    go_ret
    exact ⟨none, 0, rfl, World.ownsRow_nil _ _ _ _, Below.refl _ _⟩
  | some a =>
    go_enter Tryz.func90, Tryz.ntmps90
    go_wp2_with (at_builtin; refine wpList_app _ rfl (.tmp 5) (.tmp 6) 55 55 rfl 5 i0 (.int .u8 0) 1 1 Tryz.underlying55 hi hz0 hz1 hz2 rfl (.slice (some ⟨w.heap.size, 0, none⟩) 0 0) 0 [] rfl ?own (.slice (some a) l.length cap) l.length (l.map bv) rfl ?src ?b1 ?b2 ?next)
    case own => exact World.ownsRow_made w _ 0 (Nat.zero_le _) (by unfold maxLen; omega) rfl
    case src => exact src_lies Tryz.underlying55 (HL.out.kept (S := fun _ => False) ((Kept.refl _ w).alloc _) (fun _ _ _ h => h)) cap (bv_one l) l.length (by simp)
    case b1 => unfold maxLen; omega
    case b2 => omega
    case next =>
      intro v' w' ho hg hb _
      obtain ⟨ao', cap', rfl⟩ := owns_slice ho
      try simp only [Nat.zero_add, List.nil_append] at ho hb
      try simp only [Nat.zero_add]
      have hbl : Below w.heap.size w w' := ((Below.refl _ _).alloc (Nat.le_refl _) _).grown hg (by simp) (fun k h => by cases h; exact Nat.le_refl _)
      have ho2 := owns_base (base' := w.heap.size) ho (fun k hk => by
        rcases hb with hb | hb
        · rw [hb] at hk; cases hk; exact Nat.le_refl _
        · rw [hb] at hk; cases hk; simp)
      have HO := Lib.hid ho2; clear ho2 ho hg hb
      go_wp2
      go_ret
      exact ⟨ao', cap', rfl, HO.out, hbl⟩

end Go.Proofs.YtecjecdgjmipcaaGreat
