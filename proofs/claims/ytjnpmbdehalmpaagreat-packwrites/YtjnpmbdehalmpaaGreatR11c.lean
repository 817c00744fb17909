/-
  The reference of layer 11: Write.
-/
import Derived.Test.YtjnpmbdehalmpaaGreatR11b
import Derived.Test.YtjnpmbdehalmpaaGreatTg8
import Derived.Test.YtjnpmbdehalmpaaGreatGR2
namespace Go.Proofs.YtjnpmbdehalmpaaGreat
open Go.RowKit Go.Mk Go.Maps

theorem RightP.sizes {p : PD} (h : RightP p) : (encT p.n).length ≤ 44 ∧ (encL p.ns).length ≤ 2084 ∧ (octS p.ds).length ≤ 5000004 := by
  have h1 := cl_len h.cl
  have h2 := sumL_le p.ns (fun t ht => by have := cl_len (h.needs t ht).1; omega)
  have h3 := octS_len h.right
  have h4 := h.n20; have h5 := h.d500
  rw [encT_len, encL_len]
  omega

set_option maxHeartbeats 1000000 in
set_option maxRecDepth 100000 in
theorem rwrite11_any (p : PE) (B : Nat) (w : World) (hB : B ≤ w.heap.size) (hP : Pks w B p) (hR : RightP (pkE p)) :
    Calls Tryz.prog 16 #[.agg #[.string (bs p.n), .int .i64 p.v, .slice p.na p.ns.length p.nc, .slice p.ds.ao p.ds.es.length p.ds.cap]] w fun e w' => e = .returned (.string (bs (sealL (octP (pkE p))))) ∧ Kept (fun _ => False) w w' := by
  obtain ⟨n, v, na, nc, ns, ⟨dao, dcap, des⟩⟩ := p
  obtain ⟨q1, q2, q3⟩ := hR.sizes
  have hv1 := hR.v1; have hv2 := hR.v2
  have hs40 := fun x hx => cl_len (hR.needs x hx).1
  have hn20 := hR.n20; have hd5 := hR.d500; have hn40 := cl_len hR.cl
  simp only [pkE, dds_len] at q1 q2 q3 hv1 hv2 hs40 hn20 hd5 hn40
  have hoc : octP (pkE ⟨n, v, na, nc, ns, ⟨dao, dcap, des⟩⟩) = bigB 4 1297107783 ++ encT n ++ bigB 4 v.toNat ++ encL ns ++ octS (dds des) := rfl
  rw [hoc]
  have KA := Lib.hid ((Kept.refl (fun _ => False) w).alloc (.cells #[.string (bs n), .int .i64 v, .slice na ns.length nc, .slice dao des.length dcap] 25))
  have HBX := Lib.hid (fun (wx : World) (h : Kept (fun _ => False) (w.alloc (.cells #[.string (bs n), .int .i64 v, .slice na ns.length nc, .slice dao des.length dcap] 25)) wx) => ceP_kept (ceP_new w n v (.slice na ns.length nc) (.slice dao des.length dcap) 25) h (fun h => h))
  have low : ∀ {wx : World} {f : Nat} {vs : Array Value} {r : Value}, (Calls Tryz.prog f vs wx fun e w' => e = .returned r ∧ Below wx.heap.size wx w') → Calls Tryz.prog f vs wx fun e w' => e = .returned r ∧ Kept (fun _ => False) wx w' := fun h => h.mono (fun e w' h => ⟨h.1, (Kept.of_below h.2).mono (fun k hk h => by omega)⟩)
  have HM := Lib.hid (fun wx => show Calls Tryz.prog 44 #[.int .i64 1297107783] wx fun e w' => e = .returned (.tuple #[.string (bs (bigB 4 1297107783)), .bool true]) ∧ Kept (fun _ => False) wx w' from low (rnum_ok 1297107783 wx (by decide)))
  have HV := Lib.hid (fun wx => show Calls Tryz.prog 44 #[.int .i64 v] wx fun e w' => e = .returned (.tuple #[.string (bs (bigB 4 v.toNat)), .bool true]) ∧ Kept (fun _ => False) wx w' from by
    have h := low (rnum_ok v.toNat wx (by omega))
    rwa [show ((v.toNat : Nat) : Int) = v by omega] at h)
  have HT := Lib.hid (fun wx => low (rtext_any n wx (by omega)))
  have HTS := Lib.hid (fun (wx : World) (h : Kept (fun _ => False) w wx) => low (rtextsL_any na nc ns B wx (Nat.le_trans hB h.size) (hP.keep h).ns (by omega) (fun t ht => by have := hs40 t ht; omega) (by have := encL_len ns; omega)))
  have HW := Lib.hid (fun (wx : World) (h : Kept (fun _ => False) w wx) => rwrite_any dao dcap des wx ⟨((hP.keep h).ds.ds).mono (Nat.le_trans hB h.size), fun e he => len8_right (hR.right e.1 (List.mem_map_of_mem he)), (map_rise (f := fun e : Ent => e.1) (ka := keyE) (kb := keyD) (fun _ => rfl)).1 hR.rise⟩ (fun e he => hR.right e.1 (List.mem_map_of_mem he)) hd5)
  have z0 : (bigB 4 1297107783).length = 4 := bigB_length _ _
  have z1 : (bigB 4 v.toNat).length = 4 := bigB_length _ _
  clear hB hP hR low hs40 hoc
  generalize bigB 4 1297107783 = ma at *
  generalize bigB 4 v.toNat = mb at *
  generalize encT n = en at *
  generalize encL ns = el at *
  generalize octS (dds des) = eo at *
  obtain ⟨a1, h1⟩ : ∃ a1, a1 = ma ++ en := ⟨_, rfl⟩
  obtain ⟨a2, h2⟩ : ∃ a2, a2 = a1 ++ mb := ⟨_, rfl⟩
  obtain ⟨a3, h3⟩ : ∃ a3, a3 = a2 ++ el := ⟨_, rfl⟩
  obtain ⟨a4, h4⟩ : ∃ a4, a4 = a3 ++ eo := ⟨_, rfl⟩
  rw [← h1, ← h2, ← h3, ← h4]
  have e1 : bs ma ++ bs en = bs a1 := by rw [h1, bs_append]
  have e2 : bs a1 ++ bs mb = bs a2 := by rw [h2, bs_append]
  have e3 : bs a2 ++ bs el = bs a3 := by rw [h3, bs_append]
  have e4 : bs a3 ++ bs eo = bs a4 := by rw [h4, bs_append]
  have y0 : (bs ma).size ≤ 4 := by rw [bs_size]; omega
  have y1 : (bs en).size ≤ 44 := by rw [bs_size]; omega
  have y2 : (bs mb).size ≤ 4 := by rw [bs_size]; omega
  have y3 : (bs el).size ≤ 2084 := by rw [bs_size]; omega
  have y4 : (bs eo).size ≤ 5000004 := by rw [bs_size]; omega
  have l1 : (bs a1).size ≤ 48 := by rw [bs_size, h1, List.length_append]; omega
  have l2 : (bs a2).size ≤ 52 := by rw [bs_size] at l1 ⊢; rw [h2, List.length_append]; omega
  have l3 : (bs a3).size ≤ 2136 := by rw [bs_size] at l2 ⊢; rw [h3, List.length_append]; omega
  have hl4 : a4.length ≤ 6000000 := by rw [bs_size] at l3; rw [h4, List.length_append]; omega
  have HS := Lib.hid (fun wx => show Calls Tryz.prog 45 #[.string (bs a4)] wx fun e w' => e = .returned (.string (bs (sealL a4))) ∧ Kept (fun _ => False) wx w' from (rseal2_any a4 wx (by omega)).mono (fun e w' h => ⟨h.1, (Kept.of_below h.2).mono (fun k hk h => by omega)⟩))
  clear h1 h2 h3 h4 hl4 q1 q2 q3 z0 z1 hn20 hd5 hn40
  go_enter Tryz.func16, Tryz.ntmps16
  obtain ⟨c0, c1, c2, c3⟩ := HBX.out _ (Kept.refl _ _)
  go_wp2_with fail
  refine (HM.out _).mono ?_
  rintro e w1 ⟨rfl, k1⟩
  have K1 := Lib.hid k1
  obtain ⟨c0, c1, c2, c3⟩ := HBX.out _ k1
  clear k1
  go_wp2_with fail
  refine (HV.out _).mono ?_
  rintro e w2 ⟨rfl, k2⟩
  have K2 := Lib.hid ((K1.out.trans k2 (fun _ _ h => h)).trans (Kept.drew (Kept.refl (fun _ => False) w2)) (fun _ _ h => h))
  clear k2 c0 c1 c2 c3
  go_upto_region 3 with fail
  have hS := HBX.out _ K2.out
  go_region_held (ceP w.heap.size n v (.slice na ns.length nc) (.slice dao des.length dcap)) (with_reducible assumption) (first
    | (go_at_call 46; refine (HT.out _).mono ?_; rintro e w3 ⟨rfl, k3⟩; have K3 := Lib.hid (K2.out.trans k3 (fun _ _ h => h)); have hS3 := HBX.out _ K3.out; clear k3)
    | (go_at_call 47; refine (HTS.out _ (KA.out.trans K3.out (fun _ _ h => h))).mono ?_; rintro e w4 ⟨rfl, k4⟩; have K4 := Lib.hid (K3.out.trans k4 (fun _ _ h => h)); have hS4 := HBX.out _ K4.out; clear k4)
    | (go_at_call 48; refine (HW.out _ (KA.out.trans K4.out (fun _ _ h => h))).mono ?_; rintro e w5 ⟨rfl, k5⟩; have K5 := Lib.hid (K4.out.trans k5 (fun _ _ h => h)); have hS5 := HBX.out _ K5.out; clear k5)
    | (go_at_call 45; refine (HS.out _).mono ?_; rintro e w6 ⟨rfl, k6⟩; have K6 := Lib.hid (K5.out.trans k6 (fun _ _ h => h)); have hS6 := HBX.out _ K6.out; clear k6))
  all_goals go_wp2
  all_goals go_ret
  all_goals exact ⟨rfl, KA.out.trans K6.out (fun _ _ h => h)⟩

end Go.Proofs.YtjnpmbdehalmpaaGreat
