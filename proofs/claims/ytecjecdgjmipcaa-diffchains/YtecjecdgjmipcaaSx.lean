/-
  CONTRACTS of package snap: Put.
-/
import Derived.Test.YtecjecdgjmipcaaGSv
namespace Go.Proofs.Ytecjecdgjmipcaa
open Go.RowKit Go.Mk Go.Maps

def putR (d : DD) (l : List DD) : Int × List DD :=
  if rightD d = false then (31, []) else if 500 ≤ (dropK keyD (keyD d) l).length then (21, []) else (0, putK keyD d l)

theorem Nw.post {w w0 : World} {m : List Ent} {wx : World} (h : Nw w m wx) (hk : Kept (fun _ => False) w0 w) : NwPost w0 (0, dds m) (.returned (.tuple #[.pointer (some ⟨w.heap.size + 1, 0, none⟩), .int .i64 0])) wx :=
  ⟨.pointer (some ⟨w.heap.size + 1, 0, none⟩), rfl, fun _ => ⟨_, rfl⟩, fun h => (h rfl).elim, h.sn, hk.trans h.k (fun _ _ h => h)⟩

set_option maxHeartbeats 2000000 in
set_option maxRecDepth 100000 in
theorem sput_any (v : Value) (l : List DD) (d : DD) (ao : Option Addr) (cap : Nat) (B : Nat) (w : World) (hs : Sn w v l) (hA : Lies w B ao (strs d.vs)) (hc : d.vs.length ≤ cap) (hL : Len8 d) (hl : l.length ≤ 1000000) :
    Calls Try.prog 24 #[v, .agg #[.int .i64 d.k, .string (bs d.c), .string (bs d.p), .slice ao d.vs.length cap, .string (bs d.s), .string (bs d.t)]] w (NwPost w (putR d l)) := by
  obtain ⟨p, m, hp, ht, rfl⟩ := hs
  have hml : m.length ≤ 1000000 := by simpa using hl
  have HRI := Lib.hid ht.rise
  have HP := Lib.hid hp; have HT := Lib.hid ht; have HML := Lib.hid hml; have HL := Lib.hid hL; have HCAP := Lib.hid hc
  have KA := Lib.hid ((Kept.refl (fun _ => False) w).alloc (.cells #[.int .i64 d.k, .string (bs d.c), .string (bs d.p), .slice ao d.vs.length cap, .string (bs d.s), .string (bs d.t)] 43))
  have BX := Lib.hid (bx_new w ao cap d 43)
  have HKEY := Lib.hid (fun (wx : World) (h : Kept (fun _ => False) w wx) => dkey_any d ao cap B wx (hA.kept h (fun _ _ _ h => h)) hc hL.s hL.c)
  have HCP := Lib.hid (fun (wx : World) (h : Kept (fun _ => False) w wx) => copy_any d ao cap B wx (hA.kept h (fun _ _ _ h => h)) hL)
  have HRG := Lib.hid (keyD_iff d)
  have HKL := Lib.hid (key_len hL)
  have HKE := Lib.hid (show ∀ ao cap, keyE (d, ao, cap) = keyD d from fun _ _ => rfl)
  have HPR := Lib.hid (show putR d (dds m) = if rightD d = false then (31, []) else if 500 ≤ (dds (dropK keyE (keyD d) m)).length then (21, []) else (0, putK keyD d (dds m)) by
    unfold putR
    rw [show dropK keyD (keyD d) (dds m) = dds (dropK keyE (keyD d) m) from (map_dropK (f := fun e : Ent => e.1) (ka := keyE) (kb := keyD) (fun _ => rfl) _ _).symm])
  have HPK := Lib.hid (show ∀ ao cap, dds (putK keyE (d, ao, cap) (dropK keyE (keyD d) m)) = putK keyD d (dds m) from fun ao cap => by
    rw [show putK keyD d (dds m) = dds (putK keyE (d, ao, cap) m) from (map_putK (f := fun e : Ent => e.1) (ka := keyE) (kb := keyD) (fun _ => rfl) (d, ao, cap) m).symm, putK_drop (d, ao, cap) HRI.out]
    rfl)
  have HKL2 := Lib.hid (show (keyD d).length ≤ 3000000 by
    have := hL.c; have := hL.s
    unfold keyD
    split
    · split
      · simp; omega
      · omega
    · simp)
  change Calls _ _ _ _ (NwPost w (putR d (dds m)))
  generalize putR d (dds m) = R at *
  generalize keyD d = key at *
  clear hp ht hA hc hL hl hml
  go_enter Try.func24, Try.ntmps24
  obtain ⟨c0, c1, c2, c3, c4, c5⟩ := BX.out
  go_wp2_with fail
  refine (HKEY.out _ KA.out).mono ?_
  rintro e w1 ⟨rfl, k1⟩
  have K1 := Lib.hid (KA.out.trans k1 (fun _ _ h => h))
  have B1 := Lib.hid (BX.out.kept k1 (fun h => h))
  clear k1 c0 c1 c2 c3 c4 c5
  have z1 := bs_list key
  cases key with
  | nil =>
    have hr := HPR.out
    rw [if_pos (HRG.out.1 rfl)] at hr
    have HR := Lib.hid hr; clear hr
    go_wp2
    go_ret2
    rw [HR.out]
    exact nw_err (by decide) K1.out
  | cons q key =>
    generalize hkk : q :: key = kk at *
    have hne : (kk == []) = false := by rw [← hkk]; rfl
    have HRT := Lib.hid (show rightD d = true by
      cases h : rightD d
      · have := HRG.out.2 h; rw [← hkk] at this; cases this
      · rfl)
    have hr := HPR.out
    rw [if_neg (by rw [HRT.out]; simp)] at hr
    have HR := Lib.hid hr; clear hr hkk
    have KB := Lib.hid ((Kept.refl (fun _ => False) w1).alloc (.cells #[.string (bs kk)] 9))
    have HLK : Lies (w1.alloc (.cells #[.string (bs kk)] 9)) (w1.heap.size + 1) (some ⟨w1.heap.size, 0, none⟩) (strs [kk]) := lies_new w1 (strs [kk]) 9
    have HLS := Lib.hid HLK; clear HLK
    go_wp2_with fail
    refine (drop_any v p m (some ⟨w1.heap.size, 0, none⟩) 1 [kk] _ _ ((HP.out.keep K1.out).keep KB.out) ((HT.out.keep K1.out).keep KB.out) HLS.out HML.out (by rw [List.length_singleton]; omega) (fun k hk => by
      rw [List.mem_singleton] at hk
      subst hk
      exact HKL2.out)).mono ?_
    rintro e w2 ⟨rfl, n2⟩
    have N2 := Lib.hid n2
    have B2 := Lib.hid ((B1.out.kept KB.out (fun h => h)).kept n2.k (fun h => h))
    have K2 := Lib.hid ((K1.out.trans KB.out (fun _ _ h => h)).trans n2.k (fun _ _ h => h))
    have KC := Lib.hid (K1.out.trans KB.out (fun _ _ h => h))
    have hlt : w.heap.size < (w1.alloc (.cells #[.string (bs kk)] 9)).heap.size := by have := K1.out.size; rw [World.size_alloc]; have := KA.out.size; have := World.block_lt_of_cell? _ _ B1.out.c0; simp at this; omega
    clear n2
    generalize (w1.alloc (.cells #[.string (bs kk)] 9)) = wA at *
    have N3 := Lib.hid (show Nw wA (dropK keyE kk m) w2 from N2.out)
    go_wp2_with fail
    refine (full_any N3.out.sn).mono ?_
    rintro e w3 ⟨rfl, hw3⟩
    rw [hw3] at N3 B2 K2
    clear hw3
    by_cases hf : 500 ≤ (dds (dropK keyE kk m)).length
    · rw [decide_eq_true hf]
      have hr := HR.out
      rw [if_pos hf] at hr
      have HE := Lib.hid hr; clear hr hf
      go_wp2
      go_ret2
      rw [HE.out]
      exact nw_err (by decide) K2.out
    · rw [decide_eq_false hf]
      have hr := HR.out
      rw [if_neg hf] at hr
      have HE := Lib.hid hr
      have HM5 := Lib.hid (show (dropK keyE kk m).length ≤ 1000000 by rw [dds_len] at hf; omega)
      clear hr hf
      have WD := Lib.hid (N3.out.keep (Kept.drew (Kept.refl _ w3)))
      have BD := Lib.hid (B2.out.kept (S := fun _ => False) (Kept.drew (Kept.refl _ w3)) (fun h => h))
      have KD := Lib.hid (K2.out.trans (Kept.drew (Kept.refl (fun _ => False) w3)) (fun _ _ h => h))
      have hS : w3.drew.cell? ⟨wA.heap.size + 1, 0, none⟩ = some (.map (some wA.heap.size)) ∧ w3.drew.cell? ⟨w.heap.size, 0, none⟩ = some (.int .i64 d.k) ∧ w3.drew.cell? ⟨w.heap.size, 1, none⟩ = some (.string (bs d.c)) ∧ w3.drew.cell? ⟨w.heap.size, 2, none⟩ = some (.string (bs d.p)) ∧ w3.drew.cell? ⟨w.heap.size, 3, none⟩ = some (.slice ao d.vs.length cap) ∧ w3.drew.cell? ⟨w.heap.size, 4, none⟩ = some (.string (bs d.s)) ∧ w3.drew.cell? ⟨w.heap.size, 5, none⟩ = some (.string (bs d.t)) := ⟨WD.out.cell, BD.out.c0, BD.out.c1, BD.out.c2, BD.out.c3, BD.out.c4, BD.out.c5⟩
      go_upto_region 7 with fail
      go_region_held (fun w' => w'.cell? ⟨wA.heap.size + 1, 0, none⟩ = some (.map (some wA.heap.size)) ∧ w'.cell? ⟨w.heap.size, 0, none⟩ = some (.int .i64 d.k) ∧ w'.cell? ⟨w.heap.size, 1, none⟩ = some (.string (bs d.c)) ∧ w'.cell? ⟨w.heap.size, 2, none⟩ = some (.string (bs d.p)) ∧ w'.cell? ⟨w.heap.size, 3, none⟩ = some (.slice ao d.vs.length cap) ∧ w'.cell? ⟨w.heap.size, 4, none⟩ = some (.string (bs d.s)) ∧ w'.cell? ⟨w.heap.size, 5, none⟩ = some (.string (bs d.t))) (with_reducible assumption) (first
        | (go_at_call 37; refine (HCP.out _ KD.out).mono ?_; rintro e w4 ⟨ao3, cap3, rfl, ho3, k3⟩; have W3 := Lib.hid (WD.out.keep k3); have B3 := Lib.hid (BD.out.kept k3 (fun h => h)); have hS3 := (show w4.cell? ⟨wA.heap.size + 1, 0, none⟩ = some (.map (some wA.heap.size)) ∧ w4.cell? ⟨w.heap.size, 0, none⟩ = some (.int .i64 d.k) ∧ w4.cell? ⟨w.heap.size, 1, none⟩ = some (.string (bs d.c)) ∧ w4.cell? ⟨w.heap.size, 2, none⟩ = some (.string (bs d.p)) ∧ w4.cell? ⟨w.heap.size, 3, none⟩ = some (.slice ao d.vs.length cap) ∧ w4.cell? ⟨w.heap.size, 4, none⟩ = some (.string (bs d.s)) ∧ w4.cell? ⟨w.heap.size, 5, none⟩ = some (.string (bs d.t)) from ⟨W3.out.cell, B3.out.c0, B3.out.c1, B3.out.c2, B3.out.c3, B3.out.c4, B3.out.c5⟩);
           obtain ⟨w5, hrun, hw5, k4⟩ := W3.out.put (d, ao3, cap3) HRT.out ⟨owns_lies ho3, owns_cap ho3⟩ HL.out HM5.out; rw [HKE.out] at hrun; have W4 := Lib.hid hw5; have B4 := Lib.hid (B3.out.kept k4 (by omega)); have hS4 := (show w5.cell? ⟨wA.heap.size + 1, 0, none⟩ = some (.map (some wA.heap.size)) ∧ w5.cell? ⟨w.heap.size, 0, none⟩ = some (.int .i64 d.k) ∧ w5.cell? ⟨w.heap.size, 1, none⟩ = some (.string (bs d.c)) ∧ w5.cell? ⟨w.heap.size, 2, none⟩ = some (.string (bs d.p)) ∧ w5.cell? ⟨w.heap.size, 3, none⟩ = some (.slice ao d.vs.length cap) ∧ w5.cell? ⟨w.heap.size, 4, none⟩ = some (.string (bs d.s)) ∧ w5.cell? ⟨w.heap.size, 5, none⟩ = some (.string (bs d.t)) from ⟨W4.out.cell, B4.out.c0, B4.out.c1, B4.out.c2, B4.out.c3, B4.out.c4, B4.out.c5⟩); clear ho3 k3 hw5 k4))
      all_goals go_wp2
      go_ret2
      rw [HE.out, ← HPK.out ao3 cap3]
      exact W4.out.post KC.out

end Go.Proofs.Ytecjecdgjmipcaa
