/-
  Lemmas towards the claim of this folder: contracts of the functions that the law reaches; joined texts.
-/
import Derived.Test.YtlnincdmdegaoaaGreatGMa
import Derived.Test.YtlnincdmdegaoaaGreatGRd
import Derived.Test.YtlnincdmdegaoaaGreatGNc
import Derived.Deep.RegionHeld
import Derived.Test.YtlnincdmdegaoaaGreatGNe
/-
  CONTRACTS of package own: Texts, Def; of package snap: how a Snap lies in memory; table, Len, isFull.
-/
namespace Go.Proofs.YtlnincdmdegaoaaGreat
open Go.RowKit Go.Mk Go.Maps

/-- A table, nil or not. -/
def TbO (w : World) (p : Option Nat) (m : List Ent) : Prop := (p = none ∧ m = []) ∨ ∃ b, p = some b ∧ Tb w b m
/-- A *Snap, nil or not, and its table. -/
def SnP (w : World) (v : Value) (p : Option Nat) : Prop := (v = .pointer none ∧ p = none) ∨ ∃ s, v = .pointer (some ⟨s, 0, none⟩) ∧ w.cell? ⟨s, 0, none⟩ = some (.map p)
/-- A *Snap and its definitions by rising keys. -/
def Sn (w : World) (v : Value) (l : List DD) : Prop := ∃ p m, SnP w v p ∧ TbO w p m ∧ l = m.map (·.1)

theorem TbO.keep {w w' : World} {p : Option Nat} {m : List Ent} (h : TbO w p m) (hk : Kept (fun _ => False) w w') : TbO w' p m := by
  rcases h with h | ⟨b, rfl, h⟩
  · exact .inl h
  · exact .inr ⟨b, rfl, h.keep hk⟩

theorem TbO.rise {w : World} {p : Option Nat} {m : List Ent} (h : TbO w p m) : Rise keyE m := by
  rcases h with ⟨_, rfl⟩ | ⟨b, rfl, h⟩
  · exact List.Pairwise.nil
  · exact h.rise

theorem TbO.right {w : World} {p : Option Nat} {m : List Ent} (h : TbO w p m) : ∀ e ∈ m, rightD e.1 = true := by
  rcases h with ⟨_, rfl⟩ | ⟨b, rfl, h⟩
  · simp
  · exact h.right

theorem TbO.lies {w : World} {p : Option Nat} {m : List Ent} (h : TbO w p m) : ∀ e ∈ m, Lies w w.heap.size e.2.1 (strs e.1.vs) ∧ e.1.vs.length ≤ e.2.2 := by
  rcases h with ⟨_, rfl⟩ | ⟨b, rfl, h⟩
  · simp
  · exact h.lies

theorem SnP.keep {w w' : World} {v : Value} {p : Option Nat} (h : SnP w v p) (hk : Kept (fun _ => False) w w') : SnP w' v p := by
  rcases h with h | ⟨s, rfl, h⟩
  · exact .inl h
  · exact .inr ⟨s, rfl, (hk.cell (p := ⟨s, 0, none⟩) (World.block_lt_of_cell? _ _ h) (fun h => h)).trans h⟩

theorem Sn.keep {w w' : World} {v : Value} {l : List DD} (h : Sn w v l) (hk : Kept (fun _ => False) w w') : Sn w' v l := by
  obtain ⟨p, m, h1, h2, h3⟩ := h
  exact ⟨p, m, h1.keep hk, h2.keep hk, h3⟩

theorem Sn.rise {w : World} {v : Value} {l : List DD} (h : Sn w v l) : Rise keyD l := by
  obtain ⟨p, m, _, h2, rfl⟩ := h
  exact (map_rise (f := fun e : Ent => e.1) (ka := keyE) (kb := keyD) (fun _ => rfl)).2 h2.rise

theorem Sn.right {w : World} {v : Value} {l : List DD} (h : Sn w v l) : ∀ d ∈ l, rightD d = true := by
  obtain ⟨p, m, _, h2, rfl⟩ := h
  intro d hd
  obtain ⟨e, he, rfl⟩ := List.mem_map.1 hd
  exact h2.right e he

theorem sn_nil (w : World) : Sn w (.pointer none) [] := ⟨none, [], .inl ⟨rfl, rfl⟩, .inl ⟨rfl, rfl⟩, rfl⟩

set_option maxHeartbeats 400000 in
theorem table_any {w : World} {v : Value} {p : Option Nat} (h : SnP w v p) : Calls Tryz.prog 35 #[v] w fun e w' => e = .returned (.map p) ∧ w = w' := by
  rcases h with ⟨rfl, rfl⟩ | ⟨s, rfl, hc⟩
  · go_enter Tryz.func35, Tryz.ntmps35
    go_wp2
    go_ret
    exact ⟨rfl, rfl⟩
  · go_enter Tryz.func35, Tryz.ntmps35
    go_wp2
    go_ret
    exact ⟨rfl, rfl⟩

theorem TbO.len {w : World} {p : Option Nat} {m : List Ent} (h : TbO w p m) (ty : TypeId) : (Builtin.len_ #[57] ty #[.map p]).run Tryz.prog w = .ok (.int .i64 (m.length : Int)) w := by
  rcases h with ⟨rfl, rfl⟩ | ⟨b, rfl, h⟩
  · exact Maps.len_nil Tryz.underlying57 ty
  · exact h.len ty

set_option maxHeartbeats 400000 in
theorem slen_any {w : World} {v : Value} {l : List DD} (h : Sn w v l) : Calls Tryz.prog 20 #[v] w fun e w' => e = .returned (.int .i64 (l.length : Int)) ∧ w = w' := by
  obtain ⟨p, m, h1, h2, rfl⟩ := h
  have H := Lib.hid (table_any h1)
  have hl := h2.len
  rw [List.length_map]
  clear h1 h2
  go_enter Tryz.func20, Tryz.ntmps20
  go_wp2_with fail
  refine H.out.mono ?_; rintro e w1 ⟨rfl, rfl⟩
  go_wp2
  go_ret
  exact ⟨rfl, rfl⟩

set_option maxHeartbeats 400000 in
theorem full_any {w : World} {v : Value} {l : List DD} (h : Sn w v l) : Calls Tryz.prog 42 #[v] w fun e w' => e = .returned (.bool (decide (500 ≤ l.length))) ∧ w = w' := by
  have H := Lib.hid (slen_any h)
  clear h
  have hd : decide ((500 : Int) ≤ (l.length : Int)) = decide (500 ≤ l.length) := by rw [decide_eq_decide]; omega
  generalize decide (500 ≤ l.length) = r at *
  go_enter Tryz.func42, Tryz.ntmps42
  go_wp2_with fail
  refine H.out.mono ?_; rintro e w1 ⟨rfl, rfl⟩
  go_wp2
  all_goals go_ret
  all_goals exact ⟨by simp_all, rfl⟩

theorem owns_cap {w : World} {base : Nat} {e : TypeId} {size n cap : Nat} {ao : Option Addr} {xs : List Value} (h : w.ownsRow base e size (.slice ao n cap) n xs) : n ≤ cap := by
  rcases h.2 with ⟨h1, h2⟩ | ⟨g, c, cur, hv, _, _, hle, _⟩
  · omega
  · cases hv; exact hle

/-- What Def answers: the definition in memory of its own. -/
def CpPost (w : World) (d : DD) (e : Ending) (w' : World) : Prop :=
  ∃ ao cap, e = .returned (valE (d, ao, cap)) ∧ w'.ownsRow w.heap.size 9 1 (.slice ao d.vs.length cap) d.vs.length (strs d.vs) ∧ Kept (fun _ => False) w w'

/-- Lengths that Def can take. -/
structure Len8 (d : DD) : Prop where
  c : d.c.length ≤ 1000000
  p : d.p.length ≤ 1000000
  s : d.s.length ≤ 1000000
  t : d.t.length ≤ 1000000
  n : d.vs.length ≤ 1000000
  v : ∀ x ∈ d.vs, x.length ≤ 1000000

/-- The boxes of Def: the argument, the result. -/
structure Cq (w : World) (ao : Option Addr) (cap : Nat) (d : DD) (wx : World) : Prop where
  bx : Bx wx w.heap.size ao cap d
  rs : Bz wx (w.heap.size + 1) none 0 zeroD
  k : Kept (fun _ => False) w wx
  sz : w.heap.size + 2 ≤ wx.heap.size

theorem Cq.kept {w : World} {ao : Option Addr} {cap : Nat} {d : DD} {wx wy : World} {S : Nat → Prop} (h : Cq w ao cap d wx) (hk : Kept S wx wy) (hs : ∀ k, S k → w.heap.size + 2 ≤ k) : Cq w ao cap d wy :=
  ⟨h.bx.kept hk (fun e => by have := hs _ e; omega), h.rs.kept hk (fun e => by have := hs _ e; omega), h.k.trans hk (fun i hi e => by have := hs i e; omega), Nat.le_trans h.sz hk.size⟩

theorem cq_new (w : World) (ao : Option Addr) (cap : Nat) (d : DD) :
    Cq w ao cap d ((w.alloc (.cells #[.int .i64 d.k, .string (bs d.c), .string (bs d.p), .slice ao d.vs.length cap, .string (bs d.s), .string (bs d.t)] 43)).alloc (.cells #[.int .i64 0, .string ⟨#[]⟩, .string ⟨#[]⟩, .slice none 0 0, .string ⟨#[]⟩, .string ⟨#[]⟩] 43)) := by
  have h1 := bx_new w ao cap d 43
  have h2 := bz_new (w.alloc (.cells #[.int .i64 d.k, .string (bs d.c), .string (bs d.p), .slice ao d.vs.length cap, .string (bs d.s), .string (bs d.t)] 43)) none 0 zeroD 43
  rw [World.size_alloc] at h2
  exact ⟨h1.kept (S := fun _ => False) ((Kept.refl _ _).alloc _) (fun h => h), h2, ((Kept.refl _ w).alloc _).alloc _, by simp⟩

/-- The six cells of a definition's box. -/
abbrev cells6 (B : Nat) (k : Int) (c p : List UInt8) (v : Value) (s t : List UInt8) (w : World) : Prop := w.cell? ⟨B, 0, none⟩ = some (.int .i64 k) ∧ w.cell? ⟨B, 1, none⟩ = some (.string (bs c)) ∧ w.cell? ⟨B, 2, none⟩ = some (.string (bs p)) ∧ w.cell? ⟨B, 3, none⟩ = some v ∧ w.cell? ⟨B, 4, none⟩ = some (.string (bs s)) ∧ w.cell? ⟨B, 5, none⟩ = some (.string (bs t))

theorem Cq.cells {w : World} {ao : Option Addr} {cap : Nat} {d : DD} {w' : World} (h : Cq w ao cap d w') : cells6 w.heap.size d.k d.c d.p (.slice ao d.vs.length cap) d.s d.t w' :=
  ⟨h.bx.c0, h.bx.c1, h.bx.c2, h.bx.c3, h.bx.c4, h.bx.c5⟩

theorem cells_set {w : World} {B r : Nat} {k : Int} {c p s t : List UInt8} {v : Value} {v0 v1 v2 v3 v4 v5 : Value} (h : cells6 B k c p v s t w) (hr : B ≠ r) :
    cells6 B k c p v s t ((((((w.setCell ⟨r, 0, none⟩ v0).setCell ⟨r, 1, none⟩ v1).setCell ⟨r, 2, none⟩ v2).setCell ⟨r, 3, none⟩ v3).setCell ⟨r, 4, none⟩ v4).setCell ⟨r, 5, none⟩ v5) := by
  have hne : ∀ (w : World) (i j : Nat) (v : Value), (w.setCell ⟨r, j, none⟩ v).cell? ⟨B, i, none⟩ = w.cell? ⟨B, i, none⟩ := fun w i j v => World.cell?_setCell_other _ _ _ _ (fun e => hr (by cases e; rfl))
  unfold cells6
  simp only [hne]
  exact h

/-- What Texts answers: the texts in memory of their own. -/
def TxPost (w : World) (vs : List (List UInt8)) (e : Ending) (w' : World) : Prop :=
  ∃ ao cap, e = .returned (.slice ao vs.length cap) ∧ w'.ownsRow w.heap.size 9 1 (.slice ao vs.length cap) vs.length (strs vs) ∧ Kept (fun _ => False) w w'

set_option maxHeartbeats 800000 in
set_option maxRecDepth 100000 in
theorem otexts_any (vs : List (List UInt8)) (ao : Option Addr) (cap : Nat) (B : Nat) (w : World) (hA : Lies w B ao (strs vs)) (hn : vs.length ≤ 1000000) (hv : ∀ x ∈ vs, x.length ≤ 1000000) :
    Calls Tryz.prog 56 #[.slice ao vs.length cap] w (TxPost w vs) := by
  obtain ⟨i0, hi, hz0, hz1, hz2⟩ := info_parts Tryz.infoStr
  have HA := Lib.hid hA; have HV := Lib.hid hv
  clear hA hv
  go_enter Tryz.func56, Tryz.ntmps56
  go_wp2
  go_loopg [3, 8] vs.length (fun k v c wr => ∃ j, k = vs.length - j ∧ j ≤ vs.length ∧ c = .int .i64 (j : Int) ∧ wr.ownsRow w.heap.size 9 1 v j (strs (vs.take j)) ∧ Kept (fun _ => False) w wr)
  case atStart => exact ⟨0, rfl, Nat.zero_le _, rfl, World.ownsRow_nil _ _ _ _, Kept.refl _ _⟩
  case round =>
    obtain ⟨j, hk, hj, rfl, hown, hq⟩ := hrel
    have HK := Lib.hid hk; have HO := Lib.hid hown; have HQ := Lib.hid hq
    clear hk hown hq
    by_cases hlt : j < vs.length
    · obtain ⟨xb, xo, rfl, hxb, hc⟩ := HA.out (by intro h; simp [strs] at h; rw [h] at hlt; simp at hlt)
      have hx : wr.cell? ⟨xb, xo + j, none⟩ = some (.string (bs vs[j])) := by
        have h1 := hc j (.string (bs vs[j])) (by simp [strs, hlt])
        exact (HQ.out.cell (p := ⟨xb, xo + j, none⟩) (World.block_lt_of_cell? _ _ h1) (fun h => h)).trans h1
      have htk : strs (vs.take j) ++ [.string (bs vs[j])] = strs (vs.take (j + 1)) := by
        unfold strs
        rw [List.take_add_one, List.getElem?_eq_getElem hlt, Option.toList_some, List.map_append]
        rfl
      have hxl := HV.out vs[j] (List.getElem_mem hlt)
      have i1 : (j : Int) < (vs.length : Int) := by omega
      clear hc
      generalize vs[j] = x at *
      have HS := Lib.hid (fun w => sclone_any x w (by omega))
      have HT := Lib.hid htk; clear htk hxl
      go_wp2_with fail
      refine (HS.out _).mono ?_
      rintro e w3 ⟨rfl, k3⟩
      have ho3 := owns_base (base' := 0) (owns_kept HO.out k3 (fun _ _ h => h)) (fun _ _ => Nat.zero_le _)
      have HLO := Lib.hid (owns_lt HO.out)
      have Q3 := Lib.hid (HQ.out.trans k3 (fun _ _ h => h))
      have hz3 := Q3.out.size
      have HO3 := Lib.hid ho3; clear ho3 k3 hx
      go_wp2_with (at_builtin; refine wpList_app _ rfl (.tmp 12) (.tmp 15) 30 30 rfl 9 i0 (.string ⟨#[]⟩) 1 16 Tryz.underlying30 hi hz0 hz1 hz2 rfl _ _ _ rfl (HO3.out.alloc _) (.slice (some ⟨w3.heap.size, 0, none⟩) 1 1) 1 [.string (bs x)] rfl (src_one Tryz.underlying30 w3 _ _ rfl) ?b1 ?b2 ?next)
      case b1 => unfold maxLen; omega
      case b2 => omega
      case next =>
        intro v' w4 ho4 hg4 hb4 _
        have hrow : ∀ k, v'.ownBlock = some k → w.heap.size ≤ k := fun k hk => by
          rcases hb4 with hb4 | hb4
          · rw [hb4] at hk; exact (HLO.out k hk).1
          · rw [hb4] at hk; cases hk; omega
        have k4 : Kept (fun k => w.heap.size ≤ k) w3 w4 := Kept.grown ((Kept.refl _ w3).alloc _) hg4 (fun k hk _ => (HLO.out k hk).1)
        have HO5 := Lib.hid (owns_base (base' := w.heap.size) ho4 hrow)
        have Q4 := Lib.hid (show Kept (fun _ => False) w w4 from Q3.out.trans k4 (fun i hi h => by omega))
        clear ho4 hg4 hb4 hrow k4
        go_wp2
        go_roundg (vs.length - (j + 1))
        case measure => have := HK.out; omega
        case rel => exact ⟨j + 1, rfl, by omega, by go_num, by rw [← HT.out]; exact HO5.out, Q4.out⟩
    · obtain rfl : j = vs.length := by omega
      have ho := HO.out
      rw [List.take_length] at ho
      obtain ⟨aoL, capL, rfl⟩ := owns_slice ho
      have HOO := Lib.hid ho; clear ho hlt
      go_wp2
      go_ret
      exact ⟨aoL, capL, rfl, HOO.out, HQ.out⟩

set_option maxHeartbeats 1600000 in
set_option maxRecDepth 100000 in
theorem copy_any (d : DD) (ao : Option Addr) (cap : Nat) (B : Nat) (w : World) (hA : Lies w B ao (strs d.vs)) (hl : Len8 d) :
    Calls Tryz.prog 38 #[.agg #[.int .i64 d.k, .string (bs d.c), .string (bs d.p), .slice ao d.vs.length cap, .string (bs d.s), .string (bs d.t)]] w (CpPost w d) := by
  have C0 := Lib.hid (cq_new w ao cap d)
  have hc := hl.c; have hp := hl.p; have hs := hl.s; have ht := hl.t
  have H1 := Lib.hid (fun w => sclone_any d.c w (by omega))
  have H2 := Lib.hid (fun w => sclone_any d.p w (by omega))
  have H3 := Lib.hid (fun w => sclone_any d.s w (by omega))
  have H4 := Lib.hid (fun w => sclone_any d.t w (by omega))
  have HT := Lib.hid (fun (wx : World) (h : Kept (fun _ => False) w wx) => otexts_any d.vs ao cap B wx (hA.kept h (fun _ _ _ h => h)) hl.n hl.v)
  clear hA hl hc hp hs ht
  go_enter Tryz.func38, Tryz.ntmps38
  go_upto_region 1 with fail
  have QD := Lib.hid (C0.out.kept (S := fun _ => False) (Kept.drew (Kept.refl _ _)) (fun _ h => h.elim))
  generalize hdc : d.c = dc at *
  generalize hdp : d.p = dp at *
  generalize hds : d.s = ds at *
  generalize hdt : d.t = dt at *
  have hS := QD.out.cells
  rw [hdc, hdp, hds, hdt] at hS
  have E1 := Lib.hid hdc; have E2 := Lib.hid hdp; have E3 := Lib.hid hds; have E4 := Lib.hid hdt
  clear hdc hdp hds hdt
  go_region_held (cells6 w.heap.size d.k dc dp (.slice ao d.vs.length cap) ds dt) (first | with_reducible assumption | exact cells_set hS5 (Nat.ne_of_lt (Nat.lt_succ_self _))) (first
    | (go_at_call_of 55 (Value.string (bs dc)); refine (H1.out _).mono ?_; rintro e w1 ⟨rfl, k1⟩; have Q1 := Lib.hid (QD.out.kept k1 (fun _ h => h.elim)); have hS1 := Q1.out.cells; rw [E1.out, E2.out, E3.out, E4.out] at hS1; clear k1)
    | (go_at_call_of 55 (Value.string (bs dp)); refine (H2.out _).mono ?_; rintro e w2 ⟨rfl, k2⟩; have Q2 := Lib.hid (Q1.out.kept k2 (fun _ h => h.elim)); have hS2 := Q2.out.cells; rw [E1.out, E2.out, E3.out, E4.out] at hS2; clear k2)
    | (go_at_call 56; refine (HT.out _ Q2.out.k).mono ?_; rintro e w3 ⟨aoL, capL, rfl, ho3, k3⟩; have Q3 := Lib.hid (Q2.out.kept k3 (fun _ h => h.elim)); have hS3 := Q3.out.cells; rw [E1.out, E2.out, E3.out, E4.out] at hS3; have O3 := Lib.hid (owns_base (base' := w.heap.size + 2) ho3 (fun k hk => Nat.le_trans Q2.out.sz (owns_lt ho3 k hk).1)); clear k3 ho3)
    | (go_at_call_of 55 (Value.string (bs ds)); refine (H3.out _).mono ?_; rintro e w4 ⟨rfl, k4⟩; have Q4 := Lib.hid (Q3.out.kept k4 (fun _ h => h.elim)); have hS4 := Q4.out.cells; rw [E1.out, E2.out, E3.out, E4.out] at hS4; have O4 := Lib.hid (owns_kept O3.out k4 (fun _ _ h => h)); clear k4)
    | (go_at_call_of 55 (Value.string (bs dt)); refine (H4.out _).mono ?_; rintro e w5 ⟨rfl, k5⟩; have Q5 := Lib.hid (Q4.out.kept k5 (fun _ h => h.elim)); have hS5 := Q5.out.cells; rw [E1.out, E2.out, E3.out, E4.out] at hS5; have O5 := Lib.hid (owns_kept O4.out k5 (fun _ _ h => h)); obtain ⟨⟨x0, x1, x2, x3, x4, x5⟩, f0, f1, f2, f3, f4, f5⟩ := Q5.out.rs; clear k5))
  all_goals go_wp2
  have e1 := E1.out; have e2 := E2.out; have e3 := E3.out; have e4 := E4.out
  subst e1 e2 e3 e4
  have hb := Q5.out.rs.set aoL capL d
  refine bodyPost_ret (results_box rfl rfl (load_def hb.bx)) rfl ?_
  exact ⟨aoL, capL, rfl, owns_base (owns_kept O5.out (kept_setD w5 (w.heap.size + 1) aoL capL d) (fun k hk e => by have := (owns_lt O5.out k hk).1; omega)) (fun k hk => by have := (owns_lt O5.out k hk).1; omega), kept_setD' Q5.out.k (Nat.le_succ _)⟩

end Go.Proofs.YtlnincdmdegaoaaGreat

/-
  CONTRACTS of package def: areVars, Right, Key.
-/
namespace Go.Proofs.YtlnincdmdegaoaaGreat
open Go.RowKit Go.Mk

theorem strs_take (l : List (List UInt8)) (j : Nat) : strs (l.take j) = (strs l).take j := by simp [strs, List.map_take]

set_option maxHeartbeats 400000 in
theorem dvars_any (aa : Option Addr) (ca : Nat) (la : List (List UInt8)) (B : Nat) (w : World) (hA : Lies w B aa (strs la)) (hc : la.length ≤ ca) :
    Calls Tryz.prog 75 #[.slice aa la.length ca] w fun e w' => e = .returned (.bool (areVars la)) ∧ Kept (fun _ => False) w w' := by
  have HA := Lib.hid hA; clear hA
  by_cases hl : 20 < la.length
  · have E : Hid (areVars la = false) := by show _ = _; unfold areVars; rw [decide_eq_false (by omega), Bool.false_and]
    have h1 : (20 : Int) < (la.length : Int) := by omega
    go_enter Tryz.func75, Tryz.ntmps75
    go_wp2
    go_ret
    exact ⟨by rw [E.out]; rfl, Kept.refl _ _⟩
  · have E : Hid (areVars la = varsL la) := by show _ = _; unfold areVars; rw [decide_eq_true (by omega), Bool.true_and]
    have h1 : ¬ (20 : Int) < (la.length : Int) := by omega
    have h2 : la.length ≤ 20 := by omega
    go_enter Tryz.func75, Tryz.ntmps75
    go_wp2
    go_loopg [10] la.length (fun k v wr => ∃ j : Nat, k = la.length - j ∧ v = .int .i64 (j : Int) ∧ j ≤ la.length ∧ varsTo la j = true ∧ Kept (fun _ => False) w wr)
    case atStart => exact ⟨0, rfl, rfl, Nat.zero_le _, rfl, Kept.refl _ _⟩
    case round =>
      obtain ⟨j, hk, rfl, hj, hev, hkp⟩ := hrel
      have HK := Lib.hid hk; have HEV := Lib.hid hev; have HKP := Lib.hid hkp; clear hk hev hkp
      by_cases hlt : j < la.length
      · have hA1 := HA.out.kept HKP.out (fun _ _ _ h => h)
        obtain ⟨xb, xo, rfl, hxb, hc'⟩ := hA1 (by intro h; simp [strs] at h; rw [h] at hlt; simp at hlt)
        have hx : wr.cell? ⟨xb, xo + j, none⟩ = some (.string (bs la[j])) := hc' j _ (by simp [strs, hlt])
        clear hc'
        have i1 : (j : Int) < (la.length : Int) := by omega
        have i2 : (j : Int) ≤ (ca : Int) := by omega
        have hv := fun w => nvar_any la[j] w
        have htl : j = (la.take j).length := by rw [List.length_take]; omega
        have hcn := fun (w1 : World) (h : Kept (fun _ => False) wr w1) => scont_any (some ⟨xb, xo, none⟩) ca (la.take j) la[j] B j htl w1 (by rw [strs_take]; exact (hA1.kept h (fun _ _ _ h => h)).take j) (by omega)
        have hva := varAt_lt hlt
        have hno := fun h => varsL_no hlt h
        have hsu := varsTo_succ la j
        have HC := Lib.hid hcn; have HV := Lib.hid hv; have HVA := Lib.hid hva; have HNO := Lib.hid hno; have HSU := Lib.hid hsu; clear hcn hv hva hno hsu hA1 htl
        generalize (la.take j).contains la[j] = r2 at *
        generalize isVa la[j] = r1 at *
        generalize la[j] = x at *
        cases r1 with
        | false =>
          go_wp2_with fail
          refine (HV.out _).mono ?_; rintro e w1 ⟨rfl, k1⟩
          go_wp2
          go_ret
          exact ⟨by rw [E.out, HNO.out (by rw [HVA.out]; rfl)]; rfl, HKP.out.trans k1 (fun _ _ h => h)⟩
        | true =>
          cases r2 with
          | true =>
            go_wp2_with fail
            refine (HV.out _).mono ?_; rintro e w1 ⟨rfl, k1⟩
            go_wp2_with fail
            refine (HC.out _ k1).mono ?_; rintro e w2 ⟨rfl, rfl⟩
            go_wp2
            go_ret
            exact ⟨by rw [E.out, HNO.out (by rw [HVA.out]; rfl)]; rfl, HKP.out.trans k1 (fun _ _ h => h)⟩
          | false =>
            go_wp2_with fail
            refine (HV.out _).mono ?_; rintro e w1 ⟨rfl, k1⟩
            go_wp2_with fail
            refine (HC.out _ k1).mono ?_; rintro e w2 ⟨rfl, rfl⟩
            go_wp2
            go_roundg (la.length - (j + 1))
            case measure => have := HK.out; omega
            case rel => exact ⟨j + 1, rfl, by go_num, by omega, by rw [HSU.out, HEV.out, HVA.out]; rfl, HKP.out.trans k1 (fun _ _ h => h)⟩
      · obtain rfl : j = la.length := by omega
        go_wp2
        go_ret
        exact ⟨by rw [E.out, varsL, HEV.out]; rfl, HKP.out⟩

end Go.Proofs.YtlnincdmdegaoaaGreat
