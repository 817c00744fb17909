/-
  Lemmas towards the claim of this folder: contracts of the functions that the law reaches; joined texts.
-/
import Derived.Test.YtecjecdgjmipcaaGreatGSr
import Derived.Laws.IdiomRangeMap
import Derived.Deep.CutBlock
import Derived.Deep.DeepCutAuto
/-
  maps.Copy of definitions into an empty map; Drop.
-/
namespace Go.Proofs.YtecjecdgjmipcaaGreat
open Go.RowKit Go.Mk Go.Maps

theorem agree_all {Dout D0 : DataW Value} {left : Lit → Bool} (hA : Agree Dout D0 left) (hl : ∀ k, left k = false) (c1 : Canon Dout) (c2 : Canon D0) : Dout = D0 := agree_end hA hl c1 c2

set_option maxHeartbeats 4000000 in
set_option maxRecDepth 100000 in
theorem mcopy_some (bd bs' : Nat) (m : List Ent) (w : World) (hd : Tb w bd []) (hs : Tb w bs' m) (hne : bs' ≠ bd) (hl : m.length ≤ 1000000) :
    Calls Tryz.prog 82 #[.map (some bd), .map (some bs')] w fun e w' => e = .returned (.tuple #[]) ∧ w'.ownsMap Tryz.prog 9 RV bd m.length (datM m) ∧ w.grownBy w' (some bd) := by
  have hbd := hd.lt
  have hbs := hs.lt
  have ho := hd.own
  have hso := hs.own
  have hsz := dat_size m
  generalize datM m = Ds at *
  have HC0 := Lib.hid hsz; clear hsz hd hs
  go_enter Tryz.func82, Tryz.ntmps82
  go_wp2_with (first
    | (at_range; refine wpList_range_own _ rfl _ 63 rfl 9 49 lawS Tryz.underlying63 RV bs' m.length _ rfl hso ?_; intro w0 hrg0 hg0 hs0)
    | go_in)
  go_frame
  go_loopw [8] (fun _ wr => ∃ (left : Lit → Bool) (cnt : Nat) (Dout : DataW Value), wr.ranges Tryz.prog 9 RV bs' w.heap.size m.length Ds left cnt ∧ cnt ≤ m.length ∧
      wr.ownsMap Tryz.prog 9 RV bd (m.length - cnt) Dout ∧ Agree Dout Ds left ∧ w.grownBy wr (some bd))
    (fun _ wr => wr.rangeLeft bs' w.heap.size)
  case atStart =>
    exact ⟨_, _, datM [], hrg0, by rw [HC0.out]; exact Nat.le_refl _, (ho.kept hg0 (by simp)).mono (by simp), agree_start _, hg0.but _⟩
  case round =>
    obtain ⟨left, cnt, Dout, hrg, hcs, hout, hM, hgw⟩ := hrel
    go_wp2_with (first
      | (at_next; refine wpList_next_ranges _ rfl _ rfl 9 lawS RV (fun k : List UInt8 => Value.string (bs k)) (fun c : Raw => Value.agg #[.int .i64 c.1, .string (bs c.2.1), .string (bs c.2.2.1), .slice c.2.2.2.1 c.2.2.2.2.1 c.2.2.2.2.2.1, .string (bs c.2.2.2.2.2.2.1), .string (bs c.2.2.2.2.2.2.2)]) (fun key kl h => by obtain ⟨k, h1, _⟩ := keyS_inv h; exact ⟨k, h1⟩) (fun v y h => (RV_inv h).1) bs' w.heap.size m.length _ _ _ rfl hrg ?_ ?_)
      | go_in)
    · intro hc0 hl0
      go_wp2
      go_end0
      subst hc0
      have e := agree_all hM hl0 (hout.canon lawS) (hso.canon lawS)
      subst e
      exact ⟨rfl, by simpa using hout, hgw⟩
    · intro x q0 q1 q2 q3 q4 q5 q6 q7 kl yd yp w1 cnt1 hkey hlx hv hat hrg1 hlt hg1 hs1 hen
      have hw1 : w.heap.size < w1.heap.size := hrg1.lt
      have hout1 := (hout.kept hg1 (fun e => by have := Option.some.inj e; omega)).alloc (.cells #[.int .i64 q0, .string (bs q1), .string (bs q2), .slice q3 q4 q5, .string (bs q6), .string (bs q7)] 49)
      have hrg1' := hrg1.alloc (.cells #[.int .i64 q0, .string (bs q1), .string (bs q2), .slice q3 q4 q5, .string (bs q6), .string (bs q7)] 49)
      have hga := World.grownBy_alloc w1 (.cells #[.int .i64 q0, .string (bs q1), .string (bs q2), .slice q3 q4 q5, .string (bs q6), .string (bs q7)] 49) none
      go_wp2_with (first
        | (at_mapUpdate; refine wpList_mapUpdate_own _ rfl _ _ _ 63 rfl 9 49 lawS Tryz.underlying63 RV bd _ _ rfl hout1 (by unfold maxLen; omega) _ _ _ rfl rfl hkey yd yp hv ?_; intro w2 hout2 hg2; go_frame)
        | go_in)
      have hrg2 := hrg1'.kept hg2 (fun e => hne (Option.some.inj e)) (fun e => by have := Option.some.inj e; omega)
      go_roundw
      case rel =>
        exact ⟨_, cnt1, _, hrg2, by omega, hout2.mono (by omega), agree_step hM hout.isMap (lawS.key hkey) hat, ((hgw.andThen hg1 (fun j hj => .inl (by cases hj; exact Nat.le_refl _))).andThen hga (fun j hj => by cases hj)).andThen hg2 (fun j hj => .inr hj)⟩
      case measure => rw [hrg2.left_eq, hrg.left_eq]; exact hlt

set_option maxHeartbeats 2000000 in
theorem mcopy_nil (bd : Nat) (w : World) : Calls Tryz.prog 82 #[.map (some bd), .map none] w fun e w' => e = .returned (.tuple #[]) ∧ w' = w.alloc (.mapIter none 0 #[] 0) := by
  have hrg := run_range_nilMap (P := Tryz.prog) w 63 _ _ Tryz.underlying63
  have hnx : ∀ ty, (Instr.next (.pointer (some ⟨w.heap.size, 0, none⟩)) false ty).run Tryz.prog (w.alloc (.mapIter none 0 #[] 0)) = _ := fun ty => run_next_nilMap _ ty 0 0 #[]
  go_enter Tryz.func82, Tryz.ntmps82
  go_wp2
  refine wp_loop_rounds 1 ?_
  rw [rounds_succ]
  go_wp2
  go_end0
  exact ⟨rfl, rfl⟩

/-- The table of a new map behind a copy of another. -/
theorem mcopy_any (bd : Nat) (p : Option Nat) (m : List Ent) (w : World) (hd : Tb w bd []) (hs : TbO w p m) (hne : p ≠ some bd) (hl : m.length ≤ 1000000) :
    Calls Tryz.prog 82 #[.map (some bd), .map p] w fun e w' => e = .returned (.tuple #[]) ∧ Tb w' bd m ∧ Kept (fun k => k = bd) w w' := by
  rcases hs with ⟨rfl, rfl⟩ | ⟨b, rfl, hs⟩
  · refine (mcopy_nil bd w).mono fun e w' ⟨he, hw⟩ => ?_
    subst hw
    exact ⟨he, hd.keep ((Kept.refl _ w).alloc _), (Kept.refl _ w).alloc _⟩
  · refine (mcopy_some bd b m w hd hs (fun e => hne (by rw [e])) hl).mono fun e w' ⟨he, h1, h2⟩ => ?_
    have kk : Kept (fun k => k = bd) w w' := (kept_of_grown h2).mono (fun k _ e => by cases e; rfl)
    refine ⟨he, ⟨h1, hs.rise, hs.right, fun x hx => ⟨((hs.lies x hx).1.kept kk (fun hn a ha => lies_row hd (hs.lies x hx).1 hn a ha)).mono kk.size, (hs.lies x hx).2⟩⟩, kk⟩

end Go.Proofs.YtecjecdgjmipcaaGreat

/-
  CONTRACTS of package snap: Drop, Put.
-/
namespace Go.Proofs.YtecjecdgjmipcaaGreat
open Go.RowKit Go.Mk Go.Maps

/-- One entry less. -/
theorem Nw.drop {w : World} {m : List Ent} {wx : World} (h : Nw w m wx) (k : List UInt8) (hk : k.length ≤ maxLen) (ty : TypeId) :
    ∃ wy, (Builtin.delete_ #[63, 9] ty #[.map (some w.heap.size), .string (bs k)]).run Tryz.prog wx = .ok (.tuple #[]) wy ∧ Nw w (dropK keyE k m) wy ∧ Kept (fun k => k = w.heap.size) wx wy := by
  obtain ⟨wy, h1, h2, h3⟩ := h.tb.drop k hk h.tb.rows ty
  exact ⟨wy, h1, ⟨h2, (h3.cell (p := ⟨w.heap.size + 1, 0, none⟩) (World.block_lt_of_cell? _ _ h.cell) (by simp)).trans h.cell, h.k.trans h3 (fun i hi e => by omega), Nat.le_trans h.sz h3.size⟩, h3⟩

/-- Without some keys. -/
def dropsE (ks : List (List UInt8)) (m : List Ent) : List Ent := ks.foldl (fun m k => dropK keyE k m) m
def dropsD (ks : List (List UInt8)) (l : List DD) : List DD := ks.foldl (fun l k => dropK keyD k l) l

theorem dropsE_dds : ∀ (ks : List (List UInt8)) (m : List Ent), dds (dropsE ks m) = dropsD ks (dds m)
  | [], _ => rfl
  | k :: ks, m => by
    have := dropsE_dds ks (dropK keyE k m)
    unfold dropsE dropsD at *
    rw [List.foldl_cons, List.foldl_cons, this]
    congr 1
    exact map_dropK (f := fun e : Ent => e.1) (ka := keyE) (kb := keyD) (fun _ => rfl) k m

theorem dropsE_take (ks : List (List UInt8)) (m : List Ent) (j : Nat) (h : j < ks.length) : dropsE (ks.take (j + 1)) m = dropK keyE ks[j] (dropsE (ks.take j) m) := by
  unfold dropsE
  rw [List.take_add_one, List.getElem?_eq_getElem h, Option.toList_some, List.foldl_append]
  rfl

/-- A list of texts, and what a call on them keeps. -/
def DpPost (w : World) (m : List Ent) (e : Ending) (w' : World) : Prop := e = .returned (.pointer (some ⟨w.heap.size + 1, 0, none⟩)) ∧ Nw w m w'

set_option maxHeartbeats 2000000 in
set_option maxRecDepth 100000 in
theorem drop_any (v : Value) (p : Option Nat) (m : List Ent) (ka : Option Addr) (kc : Nat) (ks : List (List UInt8)) (B : Nat) (w : World) (hp : SnP w v p) (ht : TbO w p m) (hK : Lies w B ka (strs ks)) (hm : m.length ≤ 1000000) (hn : ks.length ≤ 1000000) (hl : ∀ k ∈ ks, k.length ≤ 3000000) :
    Calls Tryz.prog 48 #[v, .slice ka ks.length kc] w (DpPost w (dropsE ks m)) := by
  have hmm := @run_makeMap Tryz.prog
  have N0 := Lib.hid (nw_new w)
  have HP := Lib.hid hp; have HT := Lib.hid ht; have HK := Lib.hid hK; have HM := Lib.hid hm; have HL := Lib.hid hl
  have hpl : p ≠ some w.heap.size := fun e => by
    rcases ht with ⟨h, _⟩ | ⟨b, h, hb⟩
    · rw [h] at e; cases e
    · rw [h] at e; cases e; exact Nat.lt_irrefl _ hb.lt
  have HPL := Lib.hid hpl
  clear hp ht hK hm hl hpl
  have ND := Lib.hid (N0.out.keep (Kept.drew (Kept.refl _ _)))
  have hS := ND.out.cell
  go_enter Tryz.func48, Tryz.ntmps48
  go_upto_region 2 with fail
  go_region_held (fun w' => w'.cell? ⟨w.heap.size + 1, 0, none⟩ = some (.map (some w.heap.size))) (with_reducible assumption) (first
    | (go_at_call 53; refine (table_any (HP.out.keep ND.out.k)).mono ?_; rintro e w1 ⟨rfl, hw1⟩; have hS1 := hS; rw [hw1] at hS1; have N1 := Lib.hid ND.out; rw [hw1] at N1)
    | (go_at_call 82; refine (mcopy_any w.heap.size p m _ N1.out.tb (HT.out.keep N1.out.k) HPL.out HM.out).mono ?_; rintro e w2 ⟨rfl, t2, k2⟩; have N2 := Lib.hid (show Nw w m w2 from ⟨t2, (k2.cell (p := ⟨w.heap.size + 1, 0, none⟩) (World.block_lt_of_cell? _ _ N1.out.cell) (by simp)).trans N1.out.cell, N1.out.k.trans k2 (fun i hi e => by omega), Nat.le_trans N1.out.sz k2.size⟩); have hS2 := N2.out.cell))
  all_goals go_wp2
  go_loopg [20] ks.length (fun k c wr => ∃ j, k = ks.length - j ∧ j ≤ ks.length ∧ c = .int .i64 (j : Int) ∧ Nw w (dropsE (ks.take j) m) wr)
  case atStart => exact ⟨0, rfl, Nat.zero_le _, rfl, N2.out⟩
  case round =>
    obtain ⟨j, hk, hj, rfl, hw⟩ := hrel
    have HKK := Lib.hid hk; have HW := Lib.hid hw
    clear hk hw
    by_cases hlt : j < ks.length
    · obtain ⟨xb, xo, rfl, hxb, hc⟩ := HK.out (by intro h; simp [strs] at h; rw [h] at hlt; simp at hlt)
      have hx : wr.cell? ⟨xb, xo + j, none⟩ = some (.string (bs ks[j])) := by
        have h1 := hc j (.string (bs ks[j])) (by simp [strs, hlt])
        exact (HW.out.k.cell (p := ⟨xb, xo + j, none⟩) (World.block_lt_of_cell? _ _ h1) (fun h => h)).trans h1
      have hkl := HL.out ks[j] (List.getElem_mem hlt)
      have htk := dropsE_take ks m j hlt
      have i1 : (j : Int) < (ks.length : Int) := by omega
      have hcm := HW.out.cell
      clear hc
      generalize ks[j] = k at *
      have hdel := fun ty => HW.out.drop k (by unfold maxLen; omega) ty
      have HTK := Lib.hid htk; clear htk
      obtain ⟨w4, hrun, hw4, _⟩ := hdel 0
      have hrun' : ∀ ty, (Builtin.delete_ #[63, 9] ty #[.map (some w.heap.size), .string (bs k)]).run Tryz.prog wr = .ok (.tuple #[]) w4 := fun ty => hrun
      have W4 := Lib.hid hw4
      clear hdel hrun hw4
      go_wp2
      go_roundg (ks.length - (j + 1))
      case measure => have := HKK.out; omega
      case rel => exact ⟨j + 1, rfl, by omega, by go_num, by rw [HTK.out]; exact W4.out⟩
    · obtain rfl : j = ks.length := by omega
      have hw := HW.out
      rw [List.take_length] at hw
      have W5 := Lib.hid hw
      clear hw hlt
      go_wp2
      go_ret
      exact ⟨rfl, W5.out⟩

/-- A new snapshot. -/
def PtPost (w : World) (l : List DD) (e : Ending) (w' : World) : Prop := ∃ s, e = .returned (.pointer (some ⟨s, 0, none⟩)) ∧ Sn w' (.pointer (some ⟨s, 0, none⟩)) l ∧ Kept (fun _ => False) w w'

theorem sdrop_any (v : Value) (l : List DD) (ka : Option Addr) (kc : Nat) (ks : List (List UInt8)) (n : Nat) (hn0 : n = ks.length) (B : Nat) (w : World) (hs : Sn w v l) (hK : Lies w B ka (strs ks)) (hm : l.length ≤ 1000000) (hn : ks.length ≤ 1000000) (hl : ∀ k ∈ ks, k.length ≤ 3000000) :
    Calls Tryz.prog 48 #[v, .slice ka n kc] w (PtPost w (dropsD ks l)) := by
  subst hn0
  obtain ⟨p, m, h1, h2, rfl⟩ := hs
  refine (drop_any v p m ka kc ks B w h1 h2 hK (by simpa using hm) hn hl).mono fun e w' ⟨he, hw⟩ => ?_
  refine ⟨_, he, ?_, hw.k⟩
  have := hw.sn
  rwa [dropsE_dds] at this

end Go.Proofs.YtecjecdgjmipcaaGreat
