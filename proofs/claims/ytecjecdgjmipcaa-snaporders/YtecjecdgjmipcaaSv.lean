/-
  maps.Copy of definitions into an empty map; Drop.
-/
import Derived.Test.YtecjecdgjmipcaaSr
import Derived.Laws.IdiomRangeMap
namespace Go.Proofs.Ytecjecdgjmipcaa
open Go.RowKit Go.Mk Go.Maps

theorem agree_all {Dout D0 : DataW Value} {left : Lit → Bool} (hA : Agree Dout D0 left) (hl : ∀ k, left k = false) (c1 : Canon Dout) (c2 : Canon D0) : Dout = D0 := agree_end hA hl c1 c2

set_option maxHeartbeats 4000000 in
set_option maxRecDepth 100000 in
theorem mcopy_some (bd bs' : Nat) (m : List Ent) (w : World) (hd : Tb w bd []) (hs : Tb w bs' m) (hne : bs' ≠ bd) (hl : m.length ≤ 1000000) :
    Calls Try.prog 50 #[.map (some bd), .map (some bs')] w fun e w' => e = .returned (.tuple #[]) ∧ w'.ownsMap Try.prog 9 RV bd m.length (datM m) ∧ w.grownBy w' (some bd) := by
  have hbd := hd.lt
  have hbs := hs.lt
  have ho := hd.own
  have hso := hs.own
  have hsz := dat_size m
  generalize datM m = Ds at *
  have HC0 := Lib.hid hsz; clear hsz hd hs
  go_enter Try.func50, Try.ntmps50
  go_wp2_with (first
    | (at_range; refine wpList_range_own _ rfl _ 65 rfl 9 43 lawS Try.underlying65 RV bs' m.length _ rfl hso ?_; intro w0 hrg0 hg0 hs0)
    | go_in)
  go_frame
  go_loopw [8] (fun _ wr => ∃ (left : Lit → Bool) (cnt : Nat) (Dout : DataW Value), wr.ranges Try.prog 9 RV bs' w.heap.size m.length Ds left cnt ∧ cnt ≤ m.length ∧
      wr.ownsMap Try.prog 9 RV bd (m.length - cnt) Dout ∧ Agree Dout Ds left ∧ w.grownBy wr (some bd))
    (fun _ wr => wr.rangeLeft bs' w.heap.size)
  case atStart =>
    exact ⟨_, _, datM [], hrg0, by rw [HC0.out]; exact Nat.le_refl _, (ho.kept hg0 (by simp)).mono (by simp), agree_start _, hg0.but _⟩
  case round =>
    obtain ⟨left, cnt, Dout, hrg, hcs, hout, hM, hgw⟩ := hrel
    go_wp2_with (first
      | (at_next; refine wpList_next_ranges _ rfl _ rfl 9 lawS RV (fun k : List UInt8 => Value.string (bs k)) (fun c : Raw => Value.agg #[.int .i64 c.1, .string (bs c.2.1), .string (bs c.2.2.1), .slice c.2.2.2.1 c.2.2.2.2.1 c.2.2.2.2.2.1, .string (bs c.2.2.2.2.2.2.1), .string (bs c.2.2.2.2.2.2.2)]) (fun key kl h => by obtain ⟨k, h1, _⟩ := keyS_inv h; exact ⟨k, h1⟩) (fun v y h => (RV_inv h).1) bs' w.heap.size m.length _ _ _ rfl hrg ?_ ?_)
      | go_in)
    · intro hc0 hl0
      go_wp2
      go_end0
      subst hc0
      have e := agree_all hM hl0 (hout.canon lawS) (hso.canon lawS)
      subst e
      exact ⟨rfl, by simpa using hout, hgw⟩
    · intro x q0 q1 q2 q3 q4 q5 q6 q7 kl yd yp w1 cnt1 hkey hlx hv hat hrg1 hlt hg1 hs1 hen
      have hw1 : w.heap.size < w1.heap.size := hrg1.lt
      have hout1 := (hout.kept hg1 (fun e => by have := Option.some.inj e; omega)).alloc (.cells #[.int .i64 q0, .string (bs q1), .string (bs q2), .slice q3 q4 q5, .string (bs q6), .string (bs q7)] 43)
      have hrg1' := hrg1.alloc (.cells #[.int .i64 q0, .string (bs q1), .string (bs q2), .slice q3 q4 q5, .string (bs q6), .string (bs q7)] 43)
      have hga := World.grownBy_alloc w1 (.cells #[.int .i64 q0, .string (bs q1), .string (bs q2), .slice q3 q4 q5, .string (bs q6), .string (bs q7)] 43) none
      go_wp2_with (first
        | (at_mapUpdate; refine wpList_mapUpdate_own _ rfl _ _ _ 65 rfl 9 43 lawS Try.underlying65 RV bd _ _ rfl hout1 (by unfold maxLen; omega) _ _ _ rfl rfl hkey yd yp hv ?_; intro w2 hout2 hg2; go_frame)
        | go_in)
      have hrg2 := hrg1'.kept hg2 (fun e => hne (Option.some.inj e)) (fun e => by have := Option.some.inj e; omega)
      go_roundw
      case rel =>
        exact ⟨_, cnt1, _, hrg2, by omega, hout2.mono (by omega), agree_step hM hout.isMap (lawS.key hkey) hat, ((hgw.andThen hg1 (fun j hj => .inl (by cases hj; exact Nat.le_refl _))).andThen hga (fun j hj => by cases hj)).andThen hg2 (fun j hj => .inr hj)⟩
      case measure => rw [hrg2.left_eq, hrg.left_eq]; exact hlt

set_option maxHeartbeats 2000000 in
theorem mcopy_nil (bd : Nat) (w : World) : Calls Try.prog 50 #[.map (some bd), .map none] w fun e w' => e = .returned (.tuple #[]) ∧ w' = w.alloc (.mapIter none 0 #[] 0) := by
  have hrg := run_range_nilMap (P := Try.prog) w 65 _ _ Try.underlying65
  have hnx : ∀ ty, (Instr.next (.pointer (some ⟨w.heap.size, 0, none⟩)) false ty).run Try.prog (w.alloc (.mapIter none 0 #[] 0)) = _ := fun ty => run_next_nilMap _ ty 0 0 #[]
  go_enter Try.func50, Try.ntmps50
  go_wp2
  refine wp_loop_rounds 1 ?_
  rw [rounds_succ]
  go_wp2
  go_end0
  exact ⟨rfl, rfl⟩

/-- The table of a new map behind a copy of another. -/
theorem mcopy_any (bd : Nat) (p : Option Nat) (m : List Ent) (w : World) (hd : Tb w bd []) (hs : TbO w p m) (hne : p ≠ some bd) (hl : m.length ≤ 1000000) :
    Calls Try.prog 50 #[.map (some bd), .map p] w fun e w' => e = .returned (.tuple #[]) ∧ Tb w' bd m ∧ Kept (fun k => k = bd) w w' := by
  rcases hs with ⟨rfl, rfl⟩ | ⟨b, rfl, hs⟩
  · refine (mcopy_nil bd w).mono fun e w' ⟨he, hw⟩ => ?_
    subst hw
    exact ⟨he, hd.keep ((Kept.refl _ w).alloc _), (Kept.refl _ w).alloc _⟩
  · refine (mcopy_some bd b m w hd hs (fun e => hne (by rw [e])) hl).mono fun e w' ⟨he, h1, h2⟩ => ?_
    have kk : Kept (fun k => k = bd) w w' := (kept_of_grown h2).mono (fun k _ e => by cases e; rfl)
    refine ⟨he, ⟨h1, hs.rise, hs.right, fun x hx => ⟨((hs.lies x hx).1.kept kk (fun hn a ha => lies_row hd (hs.lies x hx).1 hn a ha)).mono kk.size, (hs.lies x hx).2⟩⟩, kk⟩

end Go.Proofs.Ytecjecdgjmipcaa
