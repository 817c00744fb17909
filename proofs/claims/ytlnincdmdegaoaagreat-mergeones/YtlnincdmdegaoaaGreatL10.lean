/-
  The laws of layer 10: awake, few.
-/
import Derived.Test.YtlnincdmdegaoaaGreatDy
import Derived.Test.YtlnincdmdegaoaaGreatGL7
namespace Go.Proofs.YtlnincdmdegaoaaGreat
open Go.RowKit Go.Mk Go.Maps

def exX : DD := ⟨1, [65], [79, 98, 106, 101, 99, 116], [[120]], [], []⟩
def exY : DD := ⟨1, [65], [79, 98, 106, 101, 99, 116], [[121]], [], []⟩

theorem exx_new : ∀ ao, newL (dds [(exX, ao, 1)]) = (0, [exX]) := by intro ao; show newL [exX] = _; decide +kernel
theorem exy_new : ∀ ao, newL (dds [(exY, ao, 1)]) = (0, [exY]) := by intro ao; show newL [exY] = _; decide +kernel
theorem exxy_conf : mergeC [] [exX] [exY] = [[65]] := by decide +kernel

theorem exx_len : Len8 exX := ⟨by decide, by decide, by decide, by decide, by decide, by simp [exX]⟩
theorem exy_len : Len8 exY := ⟨by decide, by decide, by decide, by decide, by decide, by simp [exY]⟩

/-- One definition with one variable, made behind each other. -/
theorem one_ds (w : World) (d : DD) (x : List UInt8) (hv : d.vs = [x]) (t t2 : TypeId) : Ds ((w.alloc (.cells #[.string (bs x)] t)).alloc (.cells #[.int .i64 d.k, .string (bs d.c), .string (bs d.p), .slice (some ⟨w.heap.size, 0, none⟩) 1 1, .string (bs d.s), .string (bs d.t)] t2)) (w.heap.size + 2) (some ⟨w.heap.size + 1, 0, none⟩) [(d, some ⟨w.heap.size, 0, none⟩, 1)] := by
  have hl : d.vs.length = 1 := by rw [hv]; rfl
  have h := sd_one (w.alloc (.cells #[.string (bs x)] t)) (d, some ⟨w.heap.size, 0, none⟩, 1) t2 ⟨by
    rw [hv, World.size_alloc]
    exact lies_new w (strs [x]) t, by simp [hl]⟩
  have h2 := h.ds
  rw [World.size_alloc] at h2
  dsimp only at h2
  rw [hl] at h2
  exact h2

set_option maxHeartbeats 1000000 in
set_option maxRecDepth 100000 in
theorem awake10_any (w : World) : Calls Tryz.prog 7 #[] w fun e w' => e = .returned (.bool true) ∧ Kept (fun _ => False) w w' := by
  have KA := Lib.hid (fun (w : World) => (((Kept.refl (fun _ => False) w).alloc (.cells #[.string (bs [120])] 9)).alloc (.cells #[.int .i64 1, .string (bs [65]), .string (bs [79, 98, 106, 101, 99, 116]), .slice (some ⟨w.heap.size, 0, none⟩) 1 1, .string (bs []), .string (bs [])] 43)))
  have KB := Lib.hid (fun (w : World) => (((Kept.refl (fun _ => False) w).alloc (.cells #[.string (bs [121])] 9)).alloc (.cells #[.int .i64 1, .string (bs [65]), .string (bs [79, 98, 106, 101, 99, 116]), .slice (some ⟨w.heap.size, 0, none⟩) 1 1, .string (bs []), .string (bs [])] 43)))
  have HA := Lib.hid (fun (w : World) => snew_any (some ⟨w.heap.size + 1, 0, none⟩) 1 [(exX, some ⟨w.heap.size, 0, none⟩, 1)] _ _ (by rw [World.size_alloc, World.size_alloc]; omega) (one_ds w exX [120] rfl 9 43) (fun e he => by rw [List.mem_singleton] at he; rw [he]; exact exx_len) (by simp))
  have HB := Lib.hid (fun (w : World) => snew_any (some ⟨w.heap.size + 1, 0, none⟩) 1 [(exY, some ⟨w.heap.size, 0, none⟩, 1)] _ _ (by rw [World.size_alloc, World.size_alloc]; omega) (one_ds w exY [121] rfl 9 43) (fun e he => by rw [List.mem_singleton] at he; rw [he]; exact exy_len) (by simp))
  simp only [exx_new] at HA
  simp only [exy_new] at HB
  go_enter Tryz.func7, Tryz.ntmps7
  go_wp2_with fail
  refine (HA.out w).mono ?_
  rintro e w1 ⟨v1, rfl, hv1, _, s1, k1⟩
  obtain ⟨p1, rfl⟩ := hv1 rfl
  have S1 := Lib.hid s1; have K1 := Lib.hid ((KA.out w).trans k1 (fun _ _ h => h))
  clear s1 k1 hv1
  dsimp only at S1
  go_wp2_with fail
  refine (HB.out w1).mono ?_
  rintro e w2 ⟨v2, rfl, hv2, _, s2, k2⟩
  obtain ⟨p2, rfl⟩ := hv2 rfl
  have k12 := (KB.out w1).trans k2 (fun _ _ h => h)
  have S2 := Lib.hid s2; have T2 := Lib.hid (S1.out.keep k12); have K2 := Lib.hid (K1.out.trans k12 (fun _ _ h => h))
  clear s2 k2 hv2 k12
  dsimp only at S2
  have HC := Lib.hid (dconf10_any (.pointer none) (.pointer (some ⟨p1, 0, none⟩)) (.pointer (some ⟨p2, 0, none⟩)) [] [exX] [exY] w2 (sn_nil _) T2.out S2.out (by decide) (by decide) (by decide))
  rw [exxy_conf] at HC
  go_wp2_with fail
  refine HC.out.mono ?_
  rintro e w3 ⟨ao, cap, rfl, hl, k3⟩
  obtain ⟨b, o, rfl, hb, hc⟩ := hl (by simp [strs])
  have c0 : w3.cell? ⟨b, o, none⟩ = some (.string (bs [65])) := hc 0 (.string (bs [65])) rfl
  have hk1 : ((bs [65]).toList == [65]) = true := by rw [bs_list]; rfl
  clear hc hl
  go_wp2
  go_ret
  exact ⟨rfl, K2.out.trans k3 (fun _ _ h => h)⟩

set_option maxHeartbeats 1000000 in
set_option maxRecDepth 100000 in
theorem few10_any (la : Option Addr) (lc : Nat) (es : List Ent) (ma : Option Addr) (mc : Nat) (fs : List Ent) (na : Option Addr) (nc : Nat) (gs : List Ent) (B : Nat) (w : World) (hD : Ds w B la es) (hE : Ds w B ma fs) (hF : Ds w B na gs) :
    Calls Tryz.prog 8 #[.agg #[.slice la es.length lc, .slice ma fs.length mc, .slice na gs.length nc]] w fun e w' => e = .returned (.bool (fewB es 10 && fewB fs 10 && fewB gs 10)) ∧ Kept (fun _ => False) w w' := by
  have HFA := Lib.hid (fun (wx : World) (h : Kept (fun _ => False) w wx) => few_any la lc es 10 B wx (hD.keep h) (by decide))
  have HFB := Lib.hid (fun (wx : World) (h : Kept (fun _ => False) w wx) => few_any ma mc fs 10 B wx (hE.keep h) (by decide))
  have HFC := Lib.hid (fun (wx : World) (h : Kept (fun _ => False) w wx) => few_any na nc gs 10 B wx (hF.keep h) (by decide))
  have KB := Lib.hid ((Kept.refl (fun _ => False) w).alloc (.cells #[.slice la es.length lc, .slice ma fs.length mc, .slice na gs.length nc] 23))
  have HBX := Lib.hid (show ∀ wx, Kept (fun _ => False) (w.alloc (.cells #[.slice la es.length lc, .slice ma fs.length mc, .slice na gs.length nc] 23)) wx → wx.cell? ⟨w.heap.size, 0, none⟩ = some (.slice la es.length lc) ∧ wx.cell? ⟨w.heap.size, 1, none⟩ = some (.slice ma fs.length mc) ∧ wx.cell? ⟨w.heap.size, 2, none⟩ = some (.slice na gs.length nc) from fun wx h => by
    have h0 := fun j => World.cell?_alloc_new w #[.slice la es.length lc, .slice ma fs.length mc, .slice na gs.length nc] 23 j
    exact ⟨(h.cell (p := ⟨w.heap.size, 0, none⟩) (by simp) (fun h => h)).trans (h0 0), (h.cell (p := ⟨w.heap.size, 1, none⟩) (by simp) (fun h => h)).trans (h0 1), (h.cell (p := ⟨w.heap.size, 2, none⟩) (by simp) (fun h => h)).trans (h0 2)⟩)
  clear hD hE hF
  generalize fewB es 10 = f1 at *
  generalize fewB fs 10 = f2 at *
  generalize fewB gs 10 = f3 at *
  go_enter Tryz.func8, Tryz.ntmps8
  obtain ⟨c0, c1, c2⟩ := HBX.out _ (Kept.refl _ _)
  go_wp2_with fail
  refine (HFA.out _ KB.out).mono ?_
  rintro e w2 ⟨rfl, k2⟩
  have K2 := Lib.hid k2; clear k2 c0 c1 c2
  obtain ⟨c0, c1, c2⟩ := HBX.out _ K2.out
  cases f1 with
  | false =>
    go_wp2
    go_ret
    exact ⟨rfl, KB.out.trans K2.out (fun _ _ h => h)⟩
  | true =>
    go_wp2_with fail
    refine (HFB.out _ (KB.out.trans K2.out (fun _ _ h => h))).mono ?_
    rintro e w3 ⟨rfl, k3⟩
    have K3 := Lib.hid (K2.out.trans k3 (fun _ _ h => h)); clear k3 c0 c1 c2
    obtain ⟨c0, c1, c2⟩ := HBX.out _ K3.out
    cases f2 with
    | false =>
      go_wp2
      go_ret
      exact ⟨rfl, KB.out.trans K3.out (fun _ _ h => h)⟩
    | true =>
      go_wp2_with fail
      refine (HFC.out _ (KB.out.trans K3.out (fun _ _ h => h))).mono ?_
      rintro e w4 ⟨rfl, k4⟩
      have K4 := Lib.hid (K3.out.trans k4 (fun _ _ h => h)); clear k4 c0 c1 c2
      go_wp2
      go_ret
      exact ⟨rfl, KB.out.trans K4.out (fun _ _ h => h)⟩

end Go.Proofs.YtlnincdmdegaoaaGreat
