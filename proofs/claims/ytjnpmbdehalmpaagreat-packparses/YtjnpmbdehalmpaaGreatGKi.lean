/-
  Lemmas towards the claim of this folder: contracts of the functions that the law reaches; joined texts.
-/
import Derived.Test.YtjnpmbdehalmpaaGreatGKb
import Derived.Test.YtjnpmbdehalmpaaGreatGR11d
import Derived.Test.YtjnpmbdehalmpaaGreatGTg9
import Derived.Test.YtjnpmbdehalmpaaGreatGKd
import Derived.Test.YtjnpmbdehalmpaaGreatGSw
/-
  CONTRACTS of package pack: Make.
-/
namespace Go.Proofs.YtjnpmbdehalmpaaGreat
open Go.RowKit Go.Mk Go.Maps

def makeK (p : PD) : Int × PD := if rightPk p = true then (0, p) else (2, zeroP)

set_option maxHeartbeats 4000000 in
set_option maxRecDepth 100000 in
theorem dpmake_any (n : List UInt8) (v : Int) (na : Option Addr) (nc : Nat) (ns : List (List UInt8)) (s : Nat) (l : List DD) (B : Nat) (w : World) (hN : Lies w B na (strs ns)) (hn : n.length ≤ 1000000) (hc : ns.length ≤ 1000000) (hx : ∀ x ∈ ns, x.length ≤ 1000000) (hs : Sn w (.pointer (some ⟨s, 0, none⟩)) l) (hl : l.length ≤ 500) :
    Calls Tryz.prog 15 #[.string (bs n), .int .i64 v, .slice na ns.length nc, .pointer (some ⟨s, 0, none⟩)] w (RpPost w (makeK ⟨n, v, ns, l⟩)) := by
  have KA := Lib.hid ((Kept.refl (fun _ => False) w).alloc (.cells #[.string ⟨#[]⟩, .int .i64 0, .slice none 0 0, .slice none 0 0] 25))
  have HR0 := Lib.hid (show Bp (w.alloc (.cells #[.string ⟨#[]⟩, .int .i64 0, .slice none 0 0, .slice none 0 0] 25)) w.heap.size zeroPE from bp_new w zeroPE 25)
  have HZA := Lib.hid (show w.heap.size < (w.alloc (.cells #[.string ⟨#[]⟩, .int .i64 0, .slice none 0 0, .slice none 0 0] 25)).heap.size by rw [World.size_alloc]; omega)
  have HN := Lib.hid (fun (wx : World) (h : Kept (fun _ => False) w wx) => hN.kept h (fun _ _ _ h => h))
  have HRT := Lib.hid hs.right
  have HS := Lib.hid (hs.keep KA.out)
  have HMK := Lib.hid (show makeK ⟨n, v, ns, l⟩ = if rightPk ⟨n, v, ns, l⟩ = true then (0, ⟨n, v, ns, l⟩) else (2, zeroP) from rfl)
  have HCL := Lib.hid (fun wx => sclone_any n wx (by omega))
  have HTX := Lib.hid (fun (wx : World) (h : Kept (fun _ => False) w wx) => otexts_any ns na nc B wx (hN.kept h (fun _ _ _ h => h)) hc hx)
  have HNC := Lib.hid hc
  generalize makeK ⟨n, v, ns, l⟩ = R at *
  obtain ⟨p7, m7, hp7, ht7, hL0⟩ := HS.out
  have HM7 := Lib.hid (show m7.length ≤ 500 by have := hl; rw [hL0, List.length_map] at this; exact this)
  have HL0 := Lib.hid (show dds m7 = l from hL0.symm)
  have HP7 := Lib.hid hp7; have HT7 := Lib.hid ht7
  have HL8 := Lib.hid (show ∀ e ∈ m7, Len8 e.1 from fun e he => len8_right (ht7.right e he))
  clear hN hn hc hx hs hl hp7 ht7 hL0 HS
  go_enter Tryz.func15, Tryz.ntmps15
  go_wp2_with fail
  refine (all_any (.pointer (some ⟨s, 0, none⟩)) p7 m7 _ HP7.out HT7.out (by have := HM7.out; omega)).mono ?_
  rintro e w1 ⟨Bk, Bm, rfl, hal⟩
  have K1 := Lib.hid (KA.out.trans hal.k (fun _ _ h => h)); have R1 := Lib.hid (HR0.out.kept hal.k (fun h => h))
  have HZ1 := Lib.hid (Nat.lt_of_lt_of_le HZA.out hal.k.size)
  obtain ⟨ko, kk, hap, _⟩ := hal.ap
  have HCO := Lib.hid (dcollect_any p7 m7 Bk Bm ko kk w1 hap HL8.out (by have := HM7.out; omega))
  clear hal hap
  go_wp2_with fail
  refine HCO.out.mono ?_
  rintro e w2 ⟨qa, qc, q0, rfl, hq0, hd0⟩
  have HQ := Lib.hid (hq0.trans HL0.out)
  have HRW := Lib.hid (show q0 ≠ [] → ∀ a, qa = some a → w.heap.size < a.block from fun hn a ha => by
    obtain ⟨g, e1, h1⟩ := owns_row_block hd0.own hn
    rw [e1] at ha
    cases ha
    have := HZ1.out
    dsimp only
    omega)
  have HRI := Lib.hid (show ∀ e ∈ q0, rightD e.1 = true from fun e he => HRT.out e.1 (by rw [← HQ.out]; exact List.mem_map_of_mem he))
  have HQL := Lib.hid (show q0.length ≤ 1000000 by
    have h1 := congrArg List.length HQ.out
    have h2 := congrArg List.length HL0.out
    have := HM7.out
    rw [dds_len] at h1 h2
    omega)
  have S2 := Lib.hid (show SDs w2 w2.heap.size ⟨qa, qc, q0⟩ from hd0.sds)
  have K2 := Lib.hid (K1.out.trans hd0.k (fun _ _ h => h)); have R2 := Lib.hid (R1.out.kept hd0.k (fun h => h))
  have B3 := Lib.hid (show Bp (w2.alloc (.cells #[.string (bs n), .int .i64 v, .slice na ns.length nc, .slice qa q0.length qc] 25)) w2.heap.size ⟨n, v, na, nc, ns, ⟨qa, qc, q0⟩⟩ from bp_new w2 ⟨n, v, na, nc, ns, ⟨qa, qc, q0⟩⟩ 25)
  have KB := Lib.hid ((Kept.refl (fun _ => False) w2).alloc (.cells #[.string (bs n), .int .i64 v, .slice na ns.length nc, .slice qa q0.length qc] 25))
  have K3 := Lib.hid (K2.out.trans KB.out (fun _ _ h => h)); have R3 := Lib.hid (R2.out.kept KB.out (fun h => h))
  have S3 := Lib.hid (S2.out.keep KB.out)
  have HRG := Lib.hid (show Calls Tryz.prog 11 #[.agg #[.string (bs n), .int .i64 v, .slice na ns.length nc, .slice qa q0.length qc]] (w2.alloc (.cells #[.string (bs n), .int .i64 v, .slice na ns.length nc, .slice qa q0.length qc] 25)) (fun e w' => e = .returned (.bool (rightPk ⟨n, v, ns, l⟩)) ∧ Kept (fun _ => False) (w2.alloc (.cells #[.string (bs n), .int .i64 v, .slice na ns.length nc, .slice qa q0.length qc] 25)) w') from by
    have h := dprightR_any ⟨n, v, na, nc, ns, ⟨qa, qc, q0⟩⟩ (max B w2.heap.size) _ ⟨(HN.out _ K3.out).mono (Nat.le_max_left _ _), S3.out.mono (Nat.le_max_right _ _)⟩ HNC.out (fun e he => len8_right (HRI.out e he)) HQL.out
    have e1 : pkE ⟨n, v, na, nc, ns, ⟨qa, qc, q0⟩⟩ = ⟨n, v, ns, l⟩ := by unfold pkE; rw [HQ.out]
    rw [e1] at h
    exact h)
  obtain ⟨⟨x0, x1, x2, x3⟩, _, _, _, _⟩ := B3.out
  clear hq0 hd0 HCO
  cases hrr : rightPk ⟨n, v, ns, l⟩ with
  | false =>
    rw [hrr] at HRG
    have HX := Lib.hid (show R = (2, zeroP) by rw [HMK.out, if_neg (by rw [hrr]; simp)])
    clear hrr HMK
    go_wp2_with fail
    refine HRG.out.mono ?_
    rintro e w4 ⟨rfl, k4⟩
    have K4 := Lib.hid (K3.out.trans k4 (fun _ _ h => h)); have R4 := Lib.hid (R3.out.kept k4 (fun h => h))
    clear k4 x0 x1 x2 x3
    obtain ⟨⟨y0, y1, y2, y3⟩, g0, g1, g2, g3⟩ := R4.out
    go_wp2
    refine bodyPost_ret (results_box2 rfl rfl (load_pk (R4.out.set zeroPE))) rfl ?_
    rw [HX.out]
    exact rp_err (Nat.le_refl _) K4.out 2
  | true =>
    rw [hrr] at HRG
    have HX := Lib.hid (show R = (0, ⟨n, v, ns, l⟩) by rw [HMK.out, if_pos hrr])
    clear hrr HMK
    go_wp2_with fail
    refine HRG.out.mono ?_
    rintro e w4 ⟨rfl, k4⟩
    have K4 := Lib.hid (K3.out.trans k4 (fun _ _ h => h)); have R4 := Lib.hid (R3.out.kept k4 (fun h => h))
    have B4 := Lib.hid (B3.out.kept k4 (fun h => h)); have S4 := Lib.hid (S3.out.keep k4)
    clear k4 x0 x1 x2 x3
    have HW2 := Lib.hid (show w.heap.size < w2.heap.size from R2.out.lt)
    go_wp2_with fail
    refine (HCL.out _).mono ?_
    rintro e w5 ⟨rfl, k5⟩
    have K5 := Lib.hid (K4.out.trans k5 (fun _ _ h => h)); have R5 := Lib.hid (R4.out.kept k5 (fun h => h))
    have B5 := Lib.hid (B4.out.kept k5 (fun h => h)); have S5 := Lib.hid (S4.out.keep k5)
    clear k5
    obtain ⟨⟨x0, x1, x2, x3⟩, f0, f1, f2, f3⟩ := B5.out
    have KS5 := Lib.hid (Kept.setCell (S := fun k => k = w2.heap.size) (p := ⟨w2.heap.size, 0, none⟩) (Kept.refl _ w5) (fun _ => rfl) (.string (bs n)))
    have K6 := Lib.hid (K5.out.trans KS5.out (fun i hi e => by have := HW2.out; omega))
    have R6 := Lib.hid (R5.out.kept KS5.out (fun e => by have := HW2.out; omega))
    have B6 := Lib.hid (show Bp (w5.setCell ⟨w2.heap.size, 0, none⟩ (.string (bs n))) w2.heap.size ⟨n, v, na, nc, ns, ⟨qa, qc, q0⟩⟩ from B5.out.put0 n)
    have S6 := Lib.hid (S5.out.kept KS5.out (fun k hk e => by omega))
    go_wp2_with fail
    refine (HTX.out _ K6.out).mono ?_
    rintro e w7 ⟨ta, tc, rfl, ho7, k7⟩
    have K7 := Lib.hid (K6.out.trans k7 (fun _ _ h => h)); have R7 := Lib.hid (R6.out.kept k7 (fun h => h))
    have B7 := Lib.hid (B6.out.kept k7 (fun h => h)); have S7 := Lib.hid (S6.out.keep k7)
    have HZ6 := Lib.hid B6.out.lt
    have O7 := Lib.hid (owns_base (base' := w2.heap.size + 1) ho7 (fun k hk => by have := (owns_lt ho7 k hk).1; have := HZ6.out; omega))
    clear k7 ho7 x0 x1 x2 x3 f0 f1 f2 f3
    obtain ⟨⟨x0, x1, x2, x3⟩, f0, f1, f2, f3⟩ := B7.out
    have KS7 := Lib.hid (Kept.setCell (S := fun k => k = w2.heap.size) (p := ⟨w2.heap.size, 2, none⟩) (Kept.refl _ w7) (fun _ => rfl) (.slice ta ns.length tc))
    have K8 := Lib.hid (K7.out.trans KS7.out (fun i hi e => by have := HW2.out; omega))
    have R8 := Lib.hid (R7.out.kept KS7.out (fun e => by have := HW2.out; omega))
    have B8 := Lib.hid (show Bp (w7.setCell ⟨w2.heap.size, 2, none⟩ (.slice ta ns.length tc)) w2.heap.size ⟨n, v, ta, tc, ns, ⟨qa, qc, q0⟩⟩ from B7.out.put2 ta tc ns)
    have S8 := Lib.hid (S7.out.kept KS7.out (fun k hk e => by omega))
    have O8 := Lib.hid (owns_kept O7.out KS7.out (fun k hk e => by have := (owns_lt O7.out k hk).1; omega))
    go_upto_region 6 with fail
    clear x0 x1 x2 x3 f0 f1 f2 f3 KS7 B7 S7 R7 K7 O7
    generalize (w7.setCell ⟨w2.heap.size, 2, none⟩ (.slice ta ns.length tc)) = wz at *
    obtain ⟨⟨x0, x1, x2, x3⟩, _, _, _, _⟩ := B8.out
    obtain ⟨⟨y0, y1, y2, y3⟩, g0, g1, g2, g3⟩ := R8.out
    go_wp2
    refine bodyPost_ret (results_box2 rfl rfl (load_pk (R8.out.set ⟨n, v, ta, tc, ns, ⟨qa, qc, q0⟩⟩))) rfl ?_
    rw [HX.out]
    have ks := kept_setK wz w.heap.size ⟨n, v, ta, tc, ns, ⟨qa, qc, q0⟩⟩
    refine ⟨⟨n, v, ta, tc, ns, ⟨qa, qc, q0⟩⟩, rfl, by unfold pkE; rw [HQ.out], ⟨?_, ?_⟩, K8.out.trans ks (fun i hi e => by omega)⟩
    · exact owns_lies (owns_kept O8.out ks (fun k hk e => by have := (owns_lt O8.out k hk).1; have := HW2.out; omega))
    · exact sds_setK (s := ⟨qa, qc, q0⟩) (S8.out.mono (Nat.le_of_lt B8.out.lt)) (fun hn a ha e => by have := HRW.out hn a ha; omega) HRI.out R8.out ⟨n, v, ta, tc, ns, ⟨qa, qc, q0⟩⟩

end Go.Proofs.YtjnpmbdehalmpaaGreat

/-
  CONTRACTS of package pack, all of them.
-/
namespace Go.Proofs.YtjnpmbdehalmpaaGreat
open Go.RowKit Go.Mk Go.Maps

theorem parsePk_err {l : List UInt8} {r : Int × PD} (h : parsePk l = r) : (r.1 = 0 ∧ RightP r.2 ∧ sealL (octP r.2) = l) ∨ (r.1 ≠ 0 ∧ r.2 = zeroP) := by
  by_cases h0 : r.1 = 0
  · have h1 : parsePk l = (0, r.2) := by rw [h, ← h0]
    obtain ⟨a, b⟩ := parsePk_inv h1
    exact .inl ⟨h0, a, b⟩
  · refine .inr ⟨h0, ?_⟩
    subst h
    unfold parsePk at h0 ⊢
    split
    · rfl
    · rename_i h1
      rw [if_neg h1] at h0
      unfold parseC at h0 ⊢
      split
      · rfl
      · rename_i h2
        rw [if_neg h2] at h0
        split
        · rfl
        · rename_i h3
          rw [if_neg h3] at h0
          split
          · rfl
          · rename_i h4
            rw [if_neg h4] at h0
            split
            · rename_i h5
              rw [if_pos h5] at h0
              exact (h0 rfl).elim
            · rfl

theorem rp_len {l : List UInt8} {p : PE} (h : pkE p = (parsePk l).2) : Len11 p := by
  rcases parsePk_err (l := l) rfl with ⟨_, h1, _⟩ | ⟨_, h1⟩
  · exact len11_right (by rw [h]; exact h1)
  · exact len11_zero (by rw [h]; exact h1)

theorem sameK_true {p q : PE} (h : pkE p = pkE q) : sameK p q = true := by unfold sameK; exact decide_eq_true h

end Go.Proofs.YtjnpmbdehalmpaaGreat

/-
  The laws of layer 11: awake; octets of bounded size.
-/
namespace Go.Proofs.YtjnpmbdehalmpaaGreat
open Go.RowKit Go.Mk Go.Maps

def exP : PD := ⟨[80], 1, [], [exA]⟩
theorem exP_right : rightPk exP = true := by decide +kernel
theorem exP_write : writeK exP = (0, sealL (octP exP)) := by unfold writeK; rw [if_pos exP_right]
theorem exP_len : 20 < (sealL (octP exP)).length ∧ (sealL (octP exP)).length ≤ 1000 := by decide +kernel

theorem seal_len (l : List UInt8) : (sealL l).length = l.length + 4 := by unfold sealL; rw [List.length_append]; rfl

/-- The example's definition, in a row of its own. -/
theorem exP_pks (w : World) : Pks (w.alloc (.cells #[.int .i64 1, .string (bs [65]), .string (bs [79, 98, 106, 101, 99, 116]), .slice none 0 0, .string (bs []), .string (bs [])] 46)) (w.heap.size + 1) ⟨[80], 1, none, 0, [], ⟨some ⟨w.heap.size, 0, none⟩, 1, [(exA, none, 0)]⟩⟩ :=
  ⟨Lies.nil _ _ _, sd_one w (exA, none, 0) 46 ⟨Lies.nil _ _ _, by decide⟩⟩

theorem exP_pk (a : Option Addr) : pkE ⟨[80], 1, none, 0, [], ⟨a, 1, [(exA, none, 0)]⟩⟩ = exP := rfl

set_option maxHeartbeats 1000000 in
set_option maxRecDepth 100000 in
theorem awake11_any (w : World) : Calls Tryz.prog 6 #[] w fun e w' => e = .returned (.bool true) ∧ Kept (fun _ => False) w w' := by
  have KA := Lib.hid (((Kept.refl (fun _ => False) w).alloc (.cells #[.int .i64 1, .string (bs [65]), .string (bs [79, 98, 106, 101, 99, 116]), .slice none 0 0, .string (bs []), .string (bs [])] 46)).alloc (.cells #[.string (bs [80]), .int .i64 1, .slice none 0 0, .slice (some ⟨w.heap.size, 0, none⟩) 1 1] 25))
  have HP := Lib.hid ((exP_pks w).keep ((Kept.refl (fun _ => False) (w.alloc (.cells #[.int .i64 1, .string (bs [65]), .string (bs [79, 98, 106, 101, 99, 116]), .slice none 0 0, .string (bs []), .string (bs [])] 46))).alloc (.cells #[.string (bs [80]), .int .i64 1, .slice none 0 0, .slice (some ⟨w.heap.size, 0, none⟩) 1 1] 25)))
  have HB := Lib.hid (bp_new (w.alloc (.cells #[.int .i64 1, .string (bs [65]), .string (bs [79, 98, 106, 101, 99, 116]), .slice none 0 0, .string (bs []), .string (bs [])] 46)) ⟨[80], 1, none, 0, [], ⟨some ⟨w.heap.size, 0, none⟩, 1, [(exA, none, 0)]⟩⟩ 25)
  have LX := Lib.hid (len11_right (p := ⟨[80], 1, none, 0, [], ⟨some ⟨w.heap.size, 0, none⟩, 1, [(exA, none, 0)]⟩⟩) (rightPk_iff.1 exP_right))
  have HW := Lib.hid (dpwrite_any ⟨[80], 1, none, 0, [], ⟨some ⟨w.heap.size, 0, none⟩, 1, [(exA, none, 0)]⟩⟩ (w.heap.size + 1) _ (by have := KA.out.size; simp only [World.size_alloc] at this ⊢; omega) HP.out LX.out)
  rw [exP_pk, exP_write] at HW
  dsimp only at HW
  have HLN := Lib.hid exP_len
  have HPK := Lib.hid (parse_seal (rightPk_iff.1 exP_right))
  generalize sealL (octP exP) = o at *
  have hz : w.heap.size + 1 = (w.alloc (.cells #[.int .i64 1, .string (bs [65]), .string (bs [79, 98, 106, 101, 99, 116]), .slice none 0 0, .string (bs []), .string (bs [])] 46)).heap.size := by rw [World.size_alloc]
  have HZ := Lib.hid hz; clear hz
  go_enter Tryz.func6, Tryz.ntmps6
  go_wp2_with fail
  refine HW.out.mono ?_
  rintro e w1 ⟨ao, cap, rfl, ho, k1⟩
  have HO := Lib.hid ho
  have K1 := Lib.hid (KA.out.trans k1 (fun _ _ h => h))
  have P1 := Lib.hid (HP.out.keep k1)
  have B1 := Lib.hid (HB.out.kept k1 (fun h => h))
  rw [← HZ.out] at B1
  have HR := Lib.hid (dpparse_any ao cap o w1.heap.size w1 (owns_lies ho) (owns_cap ho) (by have := HLN.out; omega))
  rw [HPK.out] at HR
  clear ho k1
  go_wp2_with fail
  refine HR.out.mono ?_
  rintro e w2 ⟨p2, rfl, hp2, hk2, k2⟩
  have P2 := Lib.hid hk2; have HE2 := Lib.hid hp2
  have K2 := Lib.hid (K1.out.trans k2 (fun _ _ h => h))
  have Q2 := Lib.hid ((P1.out.keep k2).mono (B' := w2.heap.size) (by have h1 := K2.out.size; have h2 := KA.out.size; have h3 := B1.out.lt; have h4 := k2.size; omega))
  have B2 := Lib.hid (B1.out.kept k2 (fun h => h))
  have KB := Lib.hid ((Kept.refl (fun _ => False) w2).alloc (.cells #[.string (bs p2.n), .int .i64 p2.v, .slice p2.na p2.ns.length p2.nc, .slice p2.ds.ao p2.ds.es.length p2.ds.cap] 25))
  have HS := Lib.hid (dpsame_any ⟨[80], 1, none, 0, [], ⟨some ⟨w.heap.size, 0, none⟩, 1, [(exA, none, 0)]⟩⟩ p2 w2.heap.size _ (Q2.out.keep KB.out) (P2.out.keep KB.out) LX.out (rp_len (l := o) (by rw [HPK.out]; exact HE2.out)))
  rw [sameK_true (by rw [exP_pk]; exact HE2.out.symm)] at HS
  have B3 := Lib.hid (B2.out.kept KB.out (fun h => h))
  have C3 := Lib.hid (bp_new w2 p2 25)
  obtain ⟨⟨x0, x1, x2, x3⟩, _, _, _, _⟩ := B3.out
  obtain ⟨⟨y0, y1, y2, y3⟩, _, _, _, _⟩ := C3.out
  have hlen : ¬ (o.length : Int) ≤ 20 := by have := HLN.out; omega
  have hgt : (20 : Int) < (o.length : Int) := by have := HLN.out; omega
  clear hp2 hk2 k2
  go_wp2_with fail
  refine HS.out.mono ?_
  rintro e w3 ⟨rfl, k3⟩
  have K3 := Lib.hid ((K2.out.trans KB.out (fun _ _ h => h)).trans k3 (fun _ _ h => h))
  clear k3
  go_wp2
  go_ret
  exact ⟨by first | rfl | simp [HLN.out], K3.out⟩

end Go.Proofs.YtjnpmbdehalmpaaGreat
