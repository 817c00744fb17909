/-
  Lemmas towards the claim of this folder: contracts of the functions that the law reaches; joined texts.
-/
import Derived.Test.YtlnincdmdegaoaaGreatGSq
import Derived.Test.YtlnincdmdegaoaaGreatGNc
import Derived.Deep.CutBlock
import Derived.Deep.DeepCutAuto
/-
  CONTRACTS of package def: Right, Key.
-/
namespace Go.Proofs.YtlnincdmdegaoaaGreat
open Go.RowKit Go.Mk

theorem emp_yes {l : List UInt8} (h : l.isEmpty = true) : l = [] := by simpa using h

set_option maxHeartbeats 1000000 in
set_option maxRecDepth 100000 in
theorem dright_class (d : DD) (ao : Option Addr) (cap : Nat) (B : Nat) (w : World) (hk : d.k = 1) (hA : Lies w B ao (strs d.vs)) (hc : d.vs.length ≤ cap) :
    Calls Tryz.prog 57 #[.agg #[.int .i64 d.k, .string (bs d.c), .string (bs d.p), .slice ao d.vs.length cap, .string (bs d.s), .string (bs d.t)]] w fun e w' => e = .returned (.bool (rightC d)) ∧ Kept (fun _ => False) w w' := by
  have hbx := bx_new w ao cap d 43
  have hk0 := (Kept.refl (fun _ => False) w).alloc (.cells #[.int .i64 d.k, .string (bs d.c), .string (bs d.p), .slice ao d.vs.length cap, .string (bs d.s), .string (bs d.t)] 43)
  obtain ⟨k, c, p, vs, s, t⟩ := d
  dsimp only at *
  subst hk
  have h1 := fun w => down_any c w
  have h2 := fun w => ncl_any p w
  have h3 := fun (wx : World) (h : Kept (fun _ => False) w wx) => dvars_any ao cap vs B wx (hA.kept h (fun _ _ _ h => h)) hc
  unfold rightC
  dsimp only
  generalize ownCl c = r1 at *
  generalize isCl p = r2 at *
  generalize areVars vs = r3 at *
  have H1 := Lib.hid h1; have H2 := Lib.hid h2; have H3 := Lib.hid h3; have HB := Lib.hid hbx; have HK0 := Lib.hid hk0
  clear h1 h2 h3 hbx hk0 hA
  cases r1 with
  | false =>
    go_enter Tryz.func57, Tryz.ntmps57
    go_wp2_with fail
    refine (H1.out _).mono ?_; rintro e w1 ⟨rfl, k1⟩
    go_wp2
    go_ret
    exact ⟨rfl, HK0.out.trans k1 (fun _ _ h => h)⟩
  | true =>
    cases r2 with
    | false =>
      go_enter Tryz.func57, Tryz.ntmps57
      go_wp2_with fail
      refine (H1.out _).mono ?_; rintro e w1 ⟨rfl, k1⟩
      obtain ⟨_, _, c2, c3, c4, c5⟩ := HB.out.kept k1 (fun h => h)
      have k1 := HK0.out.trans k1 (fun _ _ h => h)
      go_wp2_with fail
      refine (H2.out _).mono ?_; rintro e w2 ⟨rfl, k2⟩
      go_wp2
      go_ret
      exact ⟨rfl, k1.trans k2 (fun _ _ h => h)⟩
    | true =>
      go_enter Tryz.func57, Tryz.ntmps57
      go_wp2_with fail
      refine (H1.out _).mono ?_; rintro e w1 ⟨rfl, k1⟩
      have HB := Lib.hid (HB.out.kept k1 (fun h => h))
      obtain ⟨_, _, c2, c3, c4, c5⟩ := HB.out
      have k1 := HK0.out.trans k1 (fun _ _ h => h)
      go_wp2_with fail
      refine (H2.out _).mono ?_; rintro e w2 ⟨rfl, k2⟩
      have HB := Lib.hid (HB.out.kept k2 (fun h => h))
      have k2 := k1.trans k2 (fun _ _ h => h)
      clear c2 c3 c4 c5
      obtain ⟨_, _, c2, c3, c4, c5⟩ := HB.out
      go_wp2_with fail
      refine (H3.out _ k2).mono ?_; rintro e w3 ⟨rfl, k3⟩
      have HB := Lib.hid (HB.out.kept k3 (fun h => h))
      have k3 := k2.trans k3 (fun _ _ h => h)
      clear c2 c3 c4 c5
      obtain ⟨_, _, c2, c3, c4, c5⟩ := HB.out
      cases r3 with
      | false =>
        go_wp2
        go_ret
        exact ⟨rfl, k3⟩
      | true =>
        have z1 := bs_list s
        have z2 := bs_list t
        cases s with
        | cons b s =>
          go_wp2
          go_ret
          exact ⟨rfl, k3⟩
        | nil =>
          go_wp2
          go_ret
          exact ⟨by simp, k3⟩

set_option maxHeartbeats 1000000 in
set_option maxRecDepth 100000 in
theorem dright_method (d : DD) (ao : Option Addr) (cap : Nat) (w : World) (hk : d.k = 2) (hl : d.s.length ≤ 1099511627776) :
    Calls Tryz.prog 57 #[.agg #[.int .i64 d.k, .string (bs d.c), .string (bs d.p), .slice ao d.vs.length cap, .string (bs d.s), .string (bs d.t)]] w fun e w' => e = .returned (.bool (rightM d)) ∧ Kept (fun _ => False) w w' := by
  have hbx := bx_new w ao cap d 43
  have hk0 := (Kept.refl (fun _ => False) w).alloc (.cells #[.int .i64 d.k, .string (bs d.c), .string (bs d.p), .slice ao d.vs.length cap, .string (bs d.s), .string (bs d.t)] 43)
  obtain ⟨k, c, p, vs, s, t⟩ := d
  dsimp only at *
  subst hk
  have h1 := fun w => ncl_any c w
  have h2 := fun w => dsel_any s w hl
  unfold rightM
  dsimp only
  generalize isCl c = r1 at *
  generalize isSel s = r2 at *
  have H1 := Lib.hid h1; have H2 := Lib.hid h2; have HB := Lib.hid hbx; have HK0 := Lib.hid hk0
  clear h1 h2 hbx hk0
  cases r1 with
  | false =>
    go_enter Tryz.func57, Tryz.ntmps57
    go_wp2_with fail
    refine (H1.out _).mono ?_; rintro e w1 ⟨rfl, k1⟩
    go_wp2
    go_ret
    exact ⟨rfl, HK0.out.trans k1 (fun _ _ h => h)⟩
  | true =>
    have z0 : (bs t).size = t.length := rfl
    have z1 := bs_list p
    go_enter Tryz.func57, Tryz.ntmps57
    go_wp2_with fail
    refine (H1.out _).mono ?_; rintro e w1 ⟨rfl, k1⟩
    have HB := Lib.hid (HB.out.kept k1 (fun h => h))
    obtain ⟨_, _, c2, c3, c4, c5⟩ := HB.out
    have k1 := HK0.out.trans k1 (fun _ _ h => h)
    go_wp2_with fail
    refine (H2.out _).mono ?_; rintro e w2 ⟨rfl, k2⟩
    have HB := Lib.hid (HB.out.kept k2 (fun h => h))
    have k2 := k1.trans k2 (fun _ _ h => h)
    clear c2 c3 c4 c5
    obtain ⟨_, _, c2, c3, c4, c5⟩ := HB.out
    cases r2 with
    | false =>
      go_wp2
      go_ret
      exact ⟨rfl, k2⟩
    | true =>
      by_cases ht : t.length ≤ 4000
      · have ht1 : (t.length : Int) ≤ 4000 := by omega
        have e1 : decide (t.length ≤ 4000) = true := decide_eq_true ht
        have E1 := Lib.hid e1; clear e1 ht
        cases p with
        | cons b p =>
          go_wp2
          go_ret
          exact ⟨by rw [E1.out]; rfl, k2⟩
        | nil =>
          cases vs with
          | nil =>
            go_wp2
            go_ret
            exact ⟨by rw [E1.out]; rfl, k2⟩
          | cons v vs =>
            have hn : ((((v :: vs).length : Nat) : Int) == 0) = false := by rw [beq_eq_false_iff_ne]; simp only [List.length_cons]; omega
            go_wp2
            go_ret
            exact ⟨by rw [E1.out]; rfl, k2⟩
      · have ht1 : ¬ (t.length : Int) ≤ 4000 := by omega
        have e1 : decide (t.length ≤ 4000) = false := decide_eq_false ht
        have E1 := Lib.hid e1; clear e1 ht
        go_wp2
        go_ret
        exact ⟨by rw [E1.out]; rfl, k2⟩

set_option maxHeartbeats 400000 in
theorem dright_any (d : DD) (ao : Option Addr) (cap : Nat) (B : Nat) (w : World) (hA : Lies w B ao (strs d.vs)) (hc : d.vs.length ≤ cap) (hl : d.s.length ≤ 1099511627776) :
    Calls Tryz.prog 57 #[.agg #[.int .i64 d.k, .string (bs d.c), .string (bs d.p), .slice ao d.vs.length cap, .string (bs d.s), .string (bs d.t)]] w fun e w' => e = .returned (.bool (rightD d)) ∧ Kept (fun _ => False) w w' := by
  by_cases h1 : d.k = 1
  · rw [rightD_one h1]; exact dright_class d ao cap B w h1 hA hc
  · by_cases h2 : d.k = 2
    · rw [rightD_two h2]; exact dright_method d ao cap w h2 hl
    · rw [rightD_no h1 h2]
      have b1 : (d.k == 1) = false := by simpa using h1
      have b2 : (d.k == 2) = false := by simpa using h2
      have hk0 := (Kept.refl (fun _ => False) w).alloc (.cells #[.int .i64 d.k, .string (bs d.c), .string (bs d.p), .slice ao d.vs.length cap, .string (bs d.s), .string (bs d.t)] 43)
      have HK0 := Lib.hid hk0
      clear h1 h2 hA hk0
      go_enter Tryz.func57, Tryz.ntmps57
      go_wp2
      go_ret
      exact ⟨rfl, HK0.out⟩

end Go.Proofs.YtlnincdmdegaoaaGreat

/-
  CONTRACTS of package def: Key.
-/
namespace Go.Proofs.YtlnincdmdegaoaaGreat
open Go.RowKit Go.Mk

theorem key_no {d : DD} (h : rightD d = false) : keyD d = [] := by simp [keyD, h]
theorem key_m {d : DD} (h : rightD d = true) (hk : d.k = 2) : keyD d = d.c ++ [62, 62] ++ d.s := by simp [keyD, h, hk]
theorem key_c {d : DD} (h : rightD d = true) (hk : d.k ≠ 2) : keyD d = d.c := by simp [keyD, h, hk]

set_option maxHeartbeats 1000000 in
theorem dkey_any (d : DD) (ao : Option Addr) (cap : Nat) (B : Nat) (w : World) (hA : Lies w B ao (strs d.vs)) (hc : d.vs.length ≤ cap) (hl : d.s.length ≤ 1000000) (hl2 : d.c.length ≤ 1000000) :
    Calls Tryz.prog 41 #[.agg #[.int .i64 d.k, .string (bs d.c), .string (bs d.p), .slice ao d.vs.length cap, .string (bs d.s), .string (bs d.t)]] w fun e w' => e = .returned (.string (bs (keyD d))) ∧ Kept (fun _ => False) w w' := by
  have hbx := bx_new w ao cap d 43
  have hk0 := (Kept.refl (fun _ => False) w).alloc (.cells #[.int .i64 d.k, .string (bs d.c), .string (bs d.p), .slice ao d.vs.length cap, .string (bs d.s), .string (bs d.t)] 43)
  have h1 := fun (wx : World) (h : Kept (fun _ => False) w wx) => dright_any d ao cap B wx (hA.kept h (fun _ _ _ h => h)) hc (by omega)
  have HK0 := Lib.hid hk0; have HB := Lib.hid hbx; clear hk0 hbx hA
  cases hr : rightD d with
  | false =>
    rw [hr] at h1
    rw [key_no hr]
    have H1 := Lib.hid h1; clear h1 hr
    go_enter Tryz.func41, Tryz.ntmps41
    go_wp2_with fail
    refine (H1.out _ HK0.out).mono ?_; rintro e w1 ⟨rfl, k1⟩
    go_wp2
    go_ret
    exact ⟨rfl, HK0.out.trans k1 (fun _ _ h => h)⟩
  | true =>
    rw [hr] at h1
    by_cases hk : d.k = 2
    · rw [key_m hr hk]
      have hk1 : (d.k == 2) = true := by simp [hk]
      have H1 := Lib.hid h1; clear h1 hr hk
      have z1 : (bs d.c).size ≤ 1000000 := hl2
      have z2 : (bs d.s).size ≤ 1000000 := hl
      have z3 : (bs d.c ++ ⟨#[62, 62]⟩ : ByteArray).size ≤ 1000002 := by rw [ByteArray.size_append]; show d.c.length + 2 ≤ _; omega
      have z4 : (⟨#[62, 62]⟩ : ByteArray).size = 2 := rfl
      go_enter Tryz.func41, Tryz.ntmps41
      go_wp2_with fail
      refine (H1.out _ HK0.out).mono ?_; rintro e w1 ⟨rfl, k1⟩
      obtain ⟨c0, c1, c2, c3, c4, c5⟩ := HB.out.kept k1 (fun h => h)
      go_wp2
      go_ret
      exact ⟨by rw [← bs_append, ← bs_append]; rfl, HK0.out.trans k1 (fun _ _ h => h)⟩
    · rw [key_c hr hk]
      have hk1 : (d.k == 2) = false := by simp [hk]
      have H1 := Lib.hid h1; clear h1 hr hk
      have H2 := Lib.hid (fun w => sclone_any d.c w (by omega))
      go_enter Tryz.func41, Tryz.ntmps41
      go_wp2_with fail
      refine (H1.out _ HK0.out).mono ?_; rintro e w1 ⟨rfl, k1⟩
      obtain ⟨c0, c1, c2, c3, c4, c5⟩ := HB.out.kept k1 (fun h => h)
      go_wp2_with fail
      refine (H2.out _).mono ?_; rintro e w2 ⟨rfl, k2⟩
      go_wp2
      go_ret
      exact ⟨rfl, (HK0.out.trans k1 (fun _ _ h => h)).trans k2 (fun _ _ h => h)⟩

end Go.Proofs.YtlnincdmdegaoaaGreat

/-
  CONTRACTS of package snap: New.
-/
namespace Go.Proofs.YtlnincdmdegaoaaGreat
open Go.RowKit Go.Mk Go.Maps

/-- A definition's cells somewhere in a block. -/
structure Bo (w : World) (b o : Nat) (ao : Option Addr) (cap : Nat) (d : DD) : Prop where
  c0 : w.cell? ⟨b, o, none⟩ = some (.int .i64 d.k)
  c1 : w.cell? ⟨b, o + 1, none⟩ = some (.string (bs d.c))
  c2 : w.cell? ⟨b, o + 2, none⟩ = some (.string (bs d.p))
  c3 : w.cell? ⟨b, o + 3, none⟩ = some (.slice ao d.vs.length cap)
  c4 : w.cell? ⟨b, o + 4, none⟩ = some (.string (bs d.s))
  c5 : w.cell? ⟨b, o + 5, none⟩ = some (.string (bs d.t))

theorem Bo.kept {S : Nat → Prop} {w w' : World} {b o : Nat} {ao : Option Addr} {cap : Nat} {d : DD} (h : Bo w b o ao cap d) (hk : Kept S w w') (hb : ¬ S b) : Bo w' b o ao cap d := by
  have hlt : b < w.heap.size := World.block_lt_of_cell? _ _ h.c0
  exact ⟨(hk.cell (p := ⟨b, o, none⟩) hlt hb).trans h.c0, (hk.cell (p := ⟨b, o + 1, none⟩) hlt hb).trans h.c1, (hk.cell (p := ⟨b, o + 2, none⟩) hlt hb).trans h.c2, (hk.cell (p := ⟨b, o + 3, none⟩) hlt hb).trans h.c3, (hk.cell (p := ⟨b, o + 4, none⟩) hlt hb).trans h.c4, (hk.cell (p := ⟨b, o + 5, none⟩) hlt hb).trans h.c5⟩

/-- Definitions in a row behind an address. -/
structure Ds (w : World) (B : Nat) (la : Option Addr) (es : List Ent) : Prop where
  row : es ≠ [] → ∃ b off, la = some ⟨b, off, none⟩ ∧ b < B ∧ ∀ j (h : j < es.length), Bo w b (off + j * 6) es[j].2.1 es[j].2.2 es[j].1
  lies : ∀ e ∈ es, Lies w B e.2.1 (strs e.1.vs) ∧ e.1.vs.length ≤ e.2.2

theorem Ds.kept {S : Nat → Prop} {w w' : World} {B : Nat} {la : Option Addr} {es : List Ent} (h : Ds w B la es) (hk : Kept S w w') (hS : ∀ k, k < B → ¬ S k) : Ds w' B la es := by
  refine ⟨fun hn => ?_, fun e he => ⟨(h.lies e he).1.kept hk (fun hn a ha => ?_), (h.lies e he).2⟩⟩
  · obtain ⟨b, off, e, hb, hc⟩ := h.row hn
    exact ⟨b, off, e, hb, fun j hj => (hc j hj).kept hk (hS b hb)⟩
  · obtain ⟨b, off, e1, hb, _⟩ := (h.lies e he).1 hn
    rw [e1] at ha
    cases ha
    exact hS b hb

theorem Ds.keep {w w' : World} {B : Nat} {la : Option Addr} {es : List Ent} (h : Ds w B la es) (hk : Kept (fun _ => False) w w') : Ds w' B la es := h.kept hk (fun _ _ h => h)

theorem Ds.mono {w : World} {B B' : Nat} {la : Option Addr} {es : List Ent} (h : Ds w B la es) (hB : B ≤ B') : Ds w B' la es := by
  refine ⟨fun hn => ?_, fun e he => ⟨(h.lies e he).1.mono hB, (h.lies e he).2⟩⟩
  obtain ⟨b, off, e, hb, hc⟩ := h.row hn
  exact ⟨b, off, e, Nat.lt_of_lt_of_le hb hB, hc⟩

def dds (es : List Ent) : List DD := es.map (·.1)
theorem dds_len (es : List Ent) : (dds es).length = es.length := by simp [dds]
theorem dds_get (es : List Ent) (j : Nat) (h : j < es.length) : (dds es)[j]'(by rw [dds_len]; exact h) = es[j].1 := by simp [dds]
theorem dds_take (es : List Ent) (j : Nat) (h : j < es.length) : (dds es).take (j + 1) = (dds es).take j ++ [es[j].1] := by
  rw [List.take_add_one, List.getElem?_eq_getElem (by rw [dds_len]; exact h), dds_get es j h]; rfl

/-- What New answers. -/
def NwPost (w : World) (r : Int × List DD) (e : Ending) (w' : World) : Prop :=
  ∃ v, e = .returned (.tuple #[v, .int .i64 r.1]) ∧ (r.1 = 0 → ∃ s, v = .pointer (some ⟨s, 0, none⟩)) ∧ (r.1 ≠ 0 → v = .pointer none) ∧ Sn w' v r.2 ∧ Kept (fun _ => False) w w'

theorem nw_err {w w' : World} {r : Int} (hr : r ≠ 0) (hk : Kept (fun _ => False) w w') : NwPost w (r, []) (.returned (.tuple #[.pointer none, .int .i64 r])) w' :=
  ⟨.pointer none, rfl, fun h => (hr h).elim, fun _ => rfl, sn_nil _, hk⟩

/-- New under way. -/
structure Nw (w : World) (m : List Ent) (wx : World) : Prop where
  tb : Tb wx w.heap.size m
  cell : wx.cell? ⟨w.heap.size + 1, 0, none⟩ = some (.map (some w.heap.size))
  k : Kept (fun _ => False) w wx
  sz : w.heap.size + 2 ≤ wx.heap.size

theorem Nw.keep {w : World} {m : List Ent} {wx wy : World} (h : Nw w m wx) (hk : Kept (fun _ => False) wx wy) : Nw w m wy :=
  ⟨h.tb.keep hk, (hk.cell (p := ⟨w.heap.size + 1, 0, none⟩) (World.block_lt_of_cell? _ _ h.cell) (fun h => h)).trans h.cell, h.k.trans hk (fun _ _ h => h), Nat.le_trans h.sz hk.size⟩

theorem Nw.sn {w : World} {m : List Ent} {wx : World} (h : Nw w m wx) : Sn wx (.pointer (some ⟨w.heap.size + 1, 0, none⟩)) (dds m) :=
  ⟨_, m, .inr ⟨_, rfl, h.cell⟩, .inr ⟨_, rfl, h.tb⟩, rfl⟩

theorem nw_new (w : World) : Nw w [] ((w.alloc (.map #[] 0)).alloc (.cells #[.map (some w.heap.size)] 78)) := by
  have h1 := (tb_new w).keep ((Kept.refl (fun _ => False) _).alloc (.cells #[.map (some w.heap.size)] 78))
  have h2 := World.cell?_alloc_new (w.alloc (.map #[] 0)) #[.map (some w.heap.size)] 78 0
  rw [World.size_alloc] at h2
  exact ⟨h1, h2, ((Kept.refl _ w).alloc _).alloc _, by simp⟩

theorem key_len {d : DD} (h : Len8 d) : (keyD d).length ≤ maxLen := by
  have := h.c; have := h.s
  unfold keyD maxLen
  split
  · split
    · simp; omega
    · omega
  · simp

/-- One more entry. -/
theorem Nw.put {w : World} {m : List Ent} {wx : World} (h : Nw w m wx) (e : Ent) (hr : rightD e.1 = true) (hL : Lies wx wx.heap.size e.2.1 (strs e.1.vs) ∧ e.1.vs.length ≤ e.2.2) (hl : Len8 e.1) (hm : m.length ≤ 1000000) :
    ∃ wy, (Instr.mapUpdate 57 (.map (some w.heap.size)) (.string (bs (keyE e))) (valE e)).run Tryz.prog wx = .ok () wy ∧ Nw w (putK keyE e m) wy ∧ Kept (fun k => k = w.heap.size) wx wy := by
  obtain ⟨wy, h1, h2, h3⟩ := h.tb.put e hr hL (key_len hl) hm (fun x hx hn => by
    rcases (mem_putK h.tb.rise x).1 hx with rfl | ⟨hx, _⟩
    · exact lies_row h.tb hL.1 (by unfold strs; simpa using hn)
    · exact h.tb.rows x hx hn)
  exact ⟨wy, h1, ⟨h2, (h3.cell (p := ⟨w.heap.size + 1, 0, none⟩) (World.block_lt_of_cell? _ _ h.cell) (by simp)).trans h.cell, h.k.trans h3 (fun i hi e => by omega), Nat.le_trans h.sz h3.size⟩, h3⟩

theorem newL_step (l : List DD) (d : DD) : newL (l ++ [d]) = newS (newL l) d := by simp [newL, List.foldl_append]
theorem newL_stop {l : List DD} {j : Nat} (h : (newL (l.take j)).1 ≠ 0) : newL l = newL (l.take j) := by
  have : newL l = (l.drop j).foldl newS (newL (l.take j)) := by
    unfold newL
    rw [← List.foldl_append, List.take_append_drop]
  rw [this, newS_err h]

end Go.Proofs.YtlnincdmdegaoaaGreat
