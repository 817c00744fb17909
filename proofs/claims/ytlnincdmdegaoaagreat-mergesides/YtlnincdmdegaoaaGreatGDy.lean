/-
  Lemmas towards the claim of this folder: contracts of the functions that the law reaches; joined texts.
-/
import Derived.Test.YtlnincdmdegaoaaGreatDyc
import Derived.Test.YtlnincdmdegaoaaGreatDyd
import Derived.Test.YtlnincdmdegaoaaGreatGTi
import Derived.Test.YtlnincdmdegaoaaGreatGL8
/-
  CONTRACTS of package merge: Merge, and Choose where ours is always chosen (Conflicts: Dya; merged: Dyc; snapOf: Dyd).
-/
namespace Go.Proofs.YtlnincdmdegaoaaGreat
open Go.RowKit Go.Mk Go.Maps

/-- What Merge answers where there is room. -/
def DmPost (w : World) (A B C : List DD) (e : Ending) (w' : World) : Prop :=
  ∃ s ao cap, e = .returned (.tuple #[.pointer (some ⟨s, 0, none⟩), .slice ao (mergeC A B C).length cap, .int .i64 (if mergeC A B C = [] then 0 else 75)]) ∧ Sn w' (.pointer (some ⟨s, 0, none⟩)) (mergeD A B C) ∧ Lies w' w'.heap.size ao (strs (mergeC A B C)) ∧ Kept (fun _ => False) w w'

/-- What Merge answers. -/
def DmF (w : World) (A B C : List DD) (e : Ending) (w' : World) : Prop :=
  (500 < (mergeD A B C).length ∧ e = .returned (.tuple #[.pointer none, .slice none 0 0, .int .i64 21]) ∧ Kept (fun _ => False) w w') ∨ ((mergeD A B C).length ≤ 500 ∧ DmPost w A B C e w')

theorem conf_keylen {A B C : List DD} (hB : Snp B) (hC : Snp C) : ∀ k ∈ mergeC A B C, k.length ≤ 3000000 := fun k hk => by
  rw [← confs_is, List.mem_filter] at hk
  exact ofL_keylen hB hC k (mem_setK.1 hk.1)

theorem conf_len (A B C : List DD) : (mergeC A B C).length ≤ B.length + C.length := by
  rw [← confs_is]
  have h1 := setK_len ((ofL B C).map ED.key)
  rw [List.length_map] at h1
  have h2 := ofL_len B C
  have h3 := List.length_filter_le (both3 A B C) (diffK B C)
  unfold diffK at h3 ⊢
  omega

theorem drops_merge {A B C : List DD} (hA : Snp A) (hB : Snp B) (hC : Snp C) : dropsD (mergeC A B C) (appP C (ofL A B)) = mergeD A B C := mergeM_is hA hB hC

set_option maxRecDepth 100000 in
set_option maxHeartbeats 2000000 in
theorem dmergeF_any (v u t : Value) (A B C : List DD) (w : World) (h1 : Sn w v A) (h2 : Sn w u B) (h3 : Sn w t C) (ha : A.length ≤ 500) (hb : B.length ≤ 500) (hc : C.length ≤ 500) :
    Calls Tryz.prog 10 #[v, u, t] w (DmF w A B C) := by
  have HC := Lib.hid (dconf10_any v u t A B C w h1 h2 h3 ha hb hc)
  have HM := Lib.hid (fun (ca : Option Addr) (cc N : Nat) (wx : World) (h : Kept (fun _ => False) w wx) (hL : Lies wx N ca (strs (mergeC A B C))) => merged_any v u t A B C ca cc (mergeC A B C) N wx (h1.keep h) (h2.keep h) (h3.keep h) hL (by omega) (by omega) (by omega) (by have := conf_len A B C; omega) (conf_keylen h2.snp h3.snp))
  have HMD := Lib.hid (drops_merge h1.snp h2.snp h3.snp)
  have HML := Lib.hid (show (mergeD A B C).length ≤ 1000000 by
    have h := drops_len (mergeC A B C) (appP C (ofL A B))
    have e : (mergeC A B C).foldl (fun l k => dropK keyD k l) (appP C (ofL A B)) = mergeD A B C := drops_merge h1.snp h2.snp h3.snp
    rw [e] at h
    have h2 : (appP C (ofL A B)).length ≤ C.length + (ofL A B).length := appP_len h1.snp h2.snp C
    have := ofL_len A B
    omega)
  rw [HMD.out] at HM
  unfold DmF DmPost
  clear h1 h2 h3 ha hb hc HMD
  generalize mergeC A B C = cs at *
  generalize mergeD A B C = md at *
  obtain ⟨er, her⟩ : ∃ er : Int, (if cs = [] then 0 else 75) = er := ⟨_, rfl⟩
  rw [her]
  go_enter Tryz.func10, Tryz.ntmps10
  go_wp2_with fail
  refine HC.out.mono ?_
  rintro e w1 ⟨ca, cc, rfl, hL, k1⟩
  have HMM := Lib.hid (HM.out ca cc _ w1 k1 hL)
  have LC := Lib.hid hL; have K1 := Lib.hid k1
  clear hL k1
  go_wp2_with fail
  refine HMM.out.mono ?_
  rintro e w2 ⟨b, m, rfl, hb, ht, hm, k2⟩
  have HS := Lib.hid (msnapOf_any b m w2 ht (by rw [← dds_len, hm]; exact HML.out))
  rw [hm] at HS
  have K2 := Lib.hid (K1.out.trans k2 (fun _ _ h => h))
  have L2 := Lib.hid ((LC.out.kept k2 (fun _ _ _ h => h)).mono k2.size)
  clear ht hm k2 hb
  by_cases hf : 500 < md.length
  · rw [fit_full hf] at HS
    have HF := Lib.hid hf; clear hf
    go_wp2_with fail
    refine HS.out.mono ?_
    rintro e w3 ⟨vv, he, n1, n2, n3, n4⟩
    obtain rfl := n2 (by decide)
    dsimp only at he
    subst he
    have K3 := Lib.hid (K2.out.trans n4 (fun _ _ h => h))
    clear n1 n2 n3 n4
    go_wp2
    go_ret3
    exact .inl ⟨HF.out, rfl, K3.out⟩
  · rw [fit_ok (by omega)] at HS
    have HF := Lib.hid hf; clear hf
    go_wp2_with fail
    refine HS.out.mono ?_
    rintro e w3 ⟨vv, he, n1, n2, n3, n4⟩
    obtain ⟨s, rfl⟩ := n1 rfl
    dsimp only at he
    subst he
    have K3 := Lib.hid (K2.out.trans n4 (fun _ _ h => h))
    have L3 := Lib.hid ((L2.out.kept n4 (fun _ _ _ h => h)).mono n4.size)
    have S3 := Lib.hid n3
    clear n1 n2 n3 n4
    have HER := Lib.hid her; clear her
    by_cases hz : cs = []
    · obtain rfl : er = 0 := by rw [← HER.out, if_pos hz]
      have hl0 : cs.length = 0 := by rw [hz]; rfl
      have hl1 : ¬ (0 : Int) < (cs.length : Int) := by omega
      have HZ := Lib.hid hz
      have HL0 := Lib.hid hl0
      clear hz hl0
      go_wp2
      go_ret3
      exact .inr ⟨by have := HF.out; omega, s, none, 0, by rw [HL0.out]; rfl, S3.out, by rw [HZ.out]; exact Lies.nil _ _ _, K3.out⟩
    · obtain rfl : er = 75 := by rw [← HER.out, if_neg hz]
      have hl0 : (0 : Int) < (cs.length : Int) := by have := List.length_pos_iff.2 hz; omega
      clear hz
      go_wp2
      go_ret3
      exact .inr ⟨by have := HF.out; omega, s, ca, cc, rfl, S3.out, L3.out, K3.out⟩

theorem dmerge10_any (v u t : Value) (A B C : List DD) (w : World) (h1 : Sn w v A) (h2 : Sn w u B) (h3 : Sn w t C) (ha : A.length ≤ 500) (hb : B.length ≤ 500) (hc : C.length ≤ 500) (hm : (mergeD A B C).length ≤ 500) :
    Calls Tryz.prog 10 #[v, u, t] w (DmPost w A B C) :=
  (dmergeF_any v u t A B C w h1 h2 h3 ha hb hc).mono fun e w' h => by
    rcases h with ⟨h, _⟩ | ⟨_, h⟩
    · omega
    · exact h

/-! ### Choose -/

theorem Tb.put1 {w : World} {b : Nat} {l : List Ent} (h : Tb w b l) (e : Ent) (hr : rightD e.1 = true) (hL : Lies w w.heap.size e.2.1 (strs e.1.vs) ∧ e.1.vs.length ≤ e.2.2) (hl : Len8 e.1) (hm : l.length ≤ 1000000) :
    ∃ w', (Instr.mapUpdate 57 (.map (some b)) (.string (bs (keyE e))) (valE e)).run Tryz.prog w = .ok () w' ∧ Tb w' b (putK keyE e l) ∧ Kept (fun k => k = b) w w' :=
  h.put e hr hL (key_len hl) hm (fun x hx hn => by
    rcases putK_sub hx with rfl | hx
    · exact lies_row h hL.1 (by unfold strs; simpa using hn)
    · exact h.rows x hx hn)

theorem putC_take (x : List DD) (s : List (List UInt8)) (l : List DD) (j : Nat) (h : j < s.length) : putC x (s.take (j + 1)) l = (getK keyD s[j] x).foldl (fun o d => putK keyD d o) (putC x (s.take j) l) := by
  unfold putC
  rw [List.take_add_one, List.getElem?_eq_getElem h, Option.toList_some, List.foldl_append]
  rfl

set_option maxHeartbeats 400000 in
theorem mine_any (k : List UInt8) (w : World) : Calls Tryz.prog 40 #[.string (bs k)] w fun e w' => e = .returned (.bool true) ∧ w = w' := by
  go_enter Tryz.func40, Tryz.ntmps40
  go_wp2
  go_ret
  exact ⟨rfl, rfl⟩

set_option maxRecDepth 100000 in
set_option maxHeartbeats 2000000 in
theorem dchooseF_any (v u t : Value) (A B C : List DD) (w : World) (h1 : Sn w v A) (h2 : Sn w u B) (h3 : Sn w t C) (ha : A.length ≤ 500) (hb : B.length ≤ 500) (hc : C.length ≤ 500) :
    Calls Tryz.prog 21 #[v, u, t, .nilFunc] w (NwPost w (fitL (chooseD (fun _ => true) A B C))) := by
  have HC := Lib.hid (dconf10_any v u t A B C w h1 h2 h3 ha hb hc)
  have HM := Lib.hid (fun (ca : Option Addr) (cc N : Nat) (wx : World) (h : Kept (fun _ => False) w wx) (hL : Lies wx N ca (strs (mergeC A B C))) => merged_any v u t A B C ca cc (mergeC A B C) N wx (h1.keep h) (h2.keep h) (h3.keep h) hL (by omega) (by omega) (by omega) (by have := conf_len A B C; omega) (conf_keylen h2.snp h3.snp))
  have HMD := drops_merge h1.snp h2.snp h3.snp
  have HML := Lib.hid (show (mergeD A B C).length ≤ 100000 by
    have h := drops_len (mergeC A B C) (appP C (ofL A B))
    have e : (mergeC A B C).foldl (fun l k => dropK keyD k l) (appP C (ofL A B)) = mergeD A B C := HMD
    rw [e] at h
    have h2 : (appP C (ofL A B)).length ≤ C.length + (ofL A B).length := appP_len h1.snp h2.snp C
    have := ofL_len A B
    omega)
  have HCP := Lib.hid (choose_put (b := A) h2.snp h3.snp)
  have HCL := Lib.hid (show (mergeC A B C).length ≤ 1000 by have := conf_len A B C; omega)
  have HCK := Lib.hid (conf_keylen (A := A) h2.snp h3.snp)
  have hnf : ∀ wx, (binOp .eql 76 .nilFunc .nilFunc).run Tryz.prog wx = .ok (.bool true) wx := fun wx => by kernel_rfl
  obtain ⟨q2, rfl⟩ := h2.pointer
  have HS2 := Lib.hid h2
  rw [HMD] at HM
  clear h1 h2 h3 ha hb hc HMD
  generalize chooseD (fun _ => true) A B C = R at *
  generalize mergeC A B C = cs at *
  generalize mergeD A B C = md at *
  go_enter Tryz.func21, Tryz.ntmps21
  go_wp2_with fail
  refine HC.out.mono ?_
  rintro e w1 ⟨ca, cc, rfl, hL, k1⟩
  have HMM := Lib.hid (HM.out ca cc _ w1 k1 hL)
  have LC := Lib.hid hL; have K1 := Lib.hid k1
  clear hL k1
  go_wp2_with fail
  refine HMM.out.mono ?_
  rintro e w2 ⟨b, m, rfl, hb, ht, hm, k2⟩
  have T2 := Lib.hid ht
  have HB := Lib.hid (show w.heap.size ≤ b from Nat.le_trans K1.out.size hb)
  have K2 := Lib.hid (K1.out.trans k2 (fun _ _ h => h))
  have L2 := Lib.hid (LC.out.kept k2 (fun _ _ _ h => h))
  have HMM2 := Lib.hid hm
  have HML2 := Lib.hid (show m.length ≤ 100000 by rw [← dds_len, hm]; exact HML.out)
  clear ht hm k2 hb
  go_wp2
  go_loopg [30] cs.length (fun k c wr => ∃ j m', k = cs.length - j ∧ j ≤ cs.length ∧ c = .int .i64 (j : Int) ∧ Tb wr b m' ∧ dds m' = putC B (cs.take j) md ∧ m'.length ≤ 100000 + j ∧ Kept (fun k => k = b) w2 wr)
  case atStart => exact ⟨0, m, rfl, Nat.zero_le _, rfl, T2.out, HMM2.out, HML2.out, Kept.refl _ _⟩
  case round =>
    obtain ⟨j, m', hk, hj, rfl, ht, hm, hml, hk2⟩ := hrel
    have HJ := Lib.hid hk; have HT := Lib.hid ht; have HM' := Lib.hid hm; have HML' := Lib.hid hml; have HK2 := Lib.hid hk2
    have KW := Lib.hid (show Kept (fun _ => False) w wr from K2.out.trans hk2 (fun i hi e => by have := HB.out; omega))
    clear hk ht hm hml hk2
    by_cases hlt : j < cs.length
    · obtain ⟨xb, xo, rfl, hxb, hxc⟩ := lies_over L2.out T2.out.nocell HK2.out (by intro h; simp [strs] at h; rw [h] at hlt; simp at hlt)
      have hx : wr.cell? ⟨xb, xo + j, none⟩ = some (.string (bs cs[j])) := hxc j (.string (bs cs[j])) (by simp [strs, hlt])
      have hkl := HCK.out cs[j] (List.getElem_mem hlt)
      have HTK := Lib.hid (putC_take B cs md j hlt)
      have i1 : (j : Int) < (cs.length : Int) := by omega
      have hcl := HCL.out
      clear hxc
      generalize cs[j] = key at *
      have HMI := Lib.hid (mine_any key wr)
      have SW := HS2.out.keep KW.out
      rcases getK_cases SW.rise key with ⟨e0, hn⟩ | ⟨d, hd, hkey, e0⟩
      · rw [e0] at HTK
        have HG := Lib.hid (sgetN_no SW hn (by unfold maxLen; omega))
        clear e0 hn SW
        go_wp2_with fail
        refine HMI.out.mono ?_
        rintro e w4 ⟨rfl, rfl⟩
        go_wp2_with fail
        refine HG.out.mono ?_
        rintro e w5 ⟨ao, cap, rfl, ho, k5⟩
        have T5 := Lib.hid (HT.out.keep k5)
        have K5 := Lib.hid k5
        clear ho k5
        unfold valE
        have K6 := Lib.hid ((Kept.refl (fun _ => False) w5).alloc (.cells #[.int .i64 zeroD.k, .string (bs zeroD.c), .string (bs zeroD.p), .slice ao zeroD.vs.length cap, .string (bs zeroD.s), .string (bs zeroD.t)] 43))
        go_wp2
        go_roundg (cs.length - (j + 1))
        case measure => have := HJ.out; omega
        case rel => exact ⟨j + 1, m', rfl, by omega, by go_num, T5.out.keep K6.out, by rw [HTK.out]; exact HM'.out, by have := HML'.out; omega, HK2.out.trans ((K5.out.trans K6.out (fun _ _ h => h)).mono (fun _ _ h => h.elim)) (fun _ _ h => h)⟩
      · rw [e0] at HTK
        have HG := Lib.hid (sgetN_has SW hd (by rw [hkey]; unfold maxLen; omega))
        rw [hkey] at HG
        have HRT := Lib.hid (SW.right d hd)
        have h8 := right_small (SW.right d hd)
        have HL8 := Lib.hid (show Len8 d from ⟨Nat.le_trans h8.c (by omega), Nat.le_trans h8.p (by omega), Nat.le_trans h8.s (by omega), Nat.le_trans h8.t (by omega), Nat.le_trans h8.n (by omega), fun y hy => Nat.le_trans (h8.v y hy) (by omega)⟩)
        clear e0 hd SW h8
        have HKEY := Lib.hid hkey; clear hkey
        go_wp2_with fail
        refine HMI.out.mono ?_
        rintro e w4 ⟨rfl, rfl⟩
        go_wp2_with fail
        refine HG.out.mono ?_
        rintro e w5 ⟨ao, cap, rfl, ho, k5⟩
        have T5 := Lib.hid (HT.out.keep k5)
        have K5 := Lib.hid k5
        have HO := Lib.hid ho
        clear ho k5
        unfold valE
        have K6 := Lib.hid ((Kept.refl (fun _ => False) w5).alloc (.cells #[.int .i64 d.k, .string (bs d.c), .string (bs d.p), .slice ao d.vs.length cap, .string (bs d.s), .string (bs d.t)] 43))
        have T6 := Lib.hid (T5.out.keep K6.out)
        obtain ⟨w7, hrun, ht7, k7⟩ := T6.out.put1 (d, ao, cap) HRT.out ⟨((owns_lies HO.out).kept K6.out (fun _ _ _ h => h)).mono K6.out.size, owns_cap HO.out⟩ HL8.out (by have := HML'.out; have := HCL.out; omega)
        unfold valE keyE at hrun
        dsimp only at hrun
        rw [HKEY.out] at hrun
        have T7 := Lib.hid ht7
        have K7 := Lib.hid (HK2.out.trans (((K5.out.trans K6.out (fun _ _ h => h)).mono (S' := fun k => k = b) (fun _ _ h => h.elim)).trans k7 (fun _ _ h => h)) (fun _ _ h => h))
        have HE := Lib.hid (show dds (putK keyE (d, ao, cap) m') = putC B (cs.take (j + 1)) md by
          rw [HTK.out, ← HM'.out]
          exact map_putK (f := fun e : Ent => e.1) (ka := keyE) (kb := keyD) (fun _ => rfl) (d, ao, cap) m')
        have HL := Lib.hid (show (putK keyE (d, ao, cap) m').length ≤ 100000 + (j + 1) by have := putK_le (a := (d, ao, cap)) HT.out.rise; have := HML'.out; omega)
        clear ht7 k7
        go_wp2
        go_roundg (cs.length - (j + 1))
        case measure => have := HJ.out; omega
        case rel => exact ⟨j + 1, _, rfl, by omega, by go_num, T7.out, HE.out, HL.out, K7.out⟩
    · obtain rfl : j = cs.length := by omega
      have HX := Lib.hid (show dds m' = R by have h := HM'.out; rw [List.take_length, HCP.out] at h; exact h)
      have HN := Lib.hid (msnapOf_any b m' wr HT.out (by have := HML'.out; have := HCL.out; omega))
      rw [HX.out] at HN
      clear hlt
      go_wp2_with fail
      refine HN.out.mono ?_
      rintro e w8 ⟨vv, rfl, n1, n2, n3, n4⟩
      have N8 := Lib.hid (show NwPost w (fitL R) (.returned (.tuple #[vv, .int .i64 (fitL R).1])) w8 from ⟨vv, rfl, n1, n2, n3, KW.out.trans n4 (fun _ _ h => h)⟩)
      clear n1 n2 n3 n4
      go_wp2
      go_ret2
      exact N8.out

theorem dchoose10_any (v u t : Value) (A B C : List DD) (w : World) (h1 : Sn w v A) (h2 : Sn w u B) (h3 : Sn w t C) (ha : A.length ≤ 500) (hb : B.length ≤ 500) (hc : C.length ≤ 500) (hm : (chooseD (fun _ => true) A B C).length ≤ 500) :
    Calls Tryz.prog 21 #[v, u, t, .nilFunc] w fun e w' => ∃ s, e = .returned (.tuple #[.pointer (some ⟨s, 0, none⟩), .int .i64 0]) ∧ Sn w' (.pointer (some ⟨s, 0, none⟩)) (chooseD (fun _ => true) A B C) ∧ Kept (fun _ => False) w w' :=
  (dchooseF_any v u t A B C w h1 h2 h3 ha hb hc).mono fun e w' h => by
    rw [fit_ok hm] at h
    obtain ⟨vv, rfl, n1, n2, n3, n4⟩ := h
    obtain ⟨s, rfl⟩ := n1 rfl
    exact ⟨s, rfl, n3, n4⟩

end Go.Proofs.YtlnincdmdegaoaaGreat

/-
  The laws of layer 10: awake, few.
-/
namespace Go.Proofs.YtlnincdmdegaoaaGreat
open Go.RowKit Go.Mk Go.Maps

def exX : DD := ⟨1, [65], [79, 98, 106, 101, 99, 116], [[120]], [], []⟩
def exY : DD := ⟨1, [65], [79, 98, 106, 101, 99, 116], [[121]], [], []⟩

theorem exx_new : ∀ ao, newL (dds [(exX, ao, 1)]) = (0, [exX]) := by intro ao; show newL [exX] = _; decide +kernel
theorem exy_new : ∀ ao, newL (dds [(exY, ao, 1)]) = (0, [exY]) := by intro ao; show newL [exY] = _; decide +kernel
theorem exxy_conf : mergeC [] [exX] [exY] = [[65]] := by decide +kernel

theorem exx_len : Len8 exX := ⟨by decide, by decide, by decide, by decide, by decide, by simp [exX]⟩
theorem exy_len : Len8 exY := ⟨by decide, by decide, by decide, by decide, by decide, by simp [exY]⟩

/-- One definition with one variable, made behind each other. -/
theorem one_ds (w : World) (d : DD) (x : List UInt8) (hv : d.vs = [x]) (t t2 : TypeId) : Ds ((w.alloc (.cells #[.string (bs x)] t)).alloc (.cells #[.int .i64 d.k, .string (bs d.c), .string (bs d.p), .slice (some ⟨w.heap.size, 0, none⟩) 1 1, .string (bs d.s), .string (bs d.t)] t2)) (w.heap.size + 2) (some ⟨w.heap.size + 1, 0, none⟩) [(d, some ⟨w.heap.size, 0, none⟩, 1)] := by
  have hl : d.vs.length = 1 := by rw [hv]; rfl
  have h := sd_one (w.alloc (.cells #[.string (bs x)] t)) (d, some ⟨w.heap.size, 0, none⟩, 1) t2 ⟨by
    rw [hv, World.size_alloc]
    exact lies_new w (strs [x]) t, by simp [hl]⟩
  have h2 := h.ds
  rw [World.size_alloc] at h2
  dsimp only at h2
  rw [hl] at h2
  exact h2

set_option maxHeartbeats 1000000 in
set_option maxRecDepth 100000 in
theorem awake10_any (w : World) : Calls Tryz.prog 7 #[] w fun e w' => e = .returned (.bool true) ∧ Kept (fun _ => False) w w' := by
  have KA := Lib.hid (fun (w : World) => (((Kept.refl (fun _ => False) w).alloc (.cells #[.string (bs [120])] 9)).alloc (.cells #[.int .i64 1, .string (bs [65]), .string (bs [79, 98, 106, 101, 99, 116]), .slice (some ⟨w.heap.size, 0, none⟩) 1 1, .string (bs []), .string (bs [])] 43)))
  have KB := Lib.hid (fun (w : World) => (((Kept.refl (fun _ => False) w).alloc (.cells #[.string (bs [121])] 9)).alloc (.cells #[.int .i64 1, .string (bs [65]), .string (bs [79, 98, 106, 101, 99, 116]), .slice (some ⟨w.heap.size, 0, none⟩) 1 1, .string (bs []), .string (bs [])] 43)))
  have HA := Lib.hid (fun (w : World) => snew_any (some ⟨w.heap.size + 1, 0, none⟩) 1 [(exX, some ⟨w.heap.size, 0, none⟩, 1)] _ _ (by rw [World.size_alloc, World.size_alloc]; omega) (one_ds w exX [120] rfl 9 43) (fun e he => by rw [List.mem_singleton] at he; rw [he]; exact exx_len) (by simp))
  have HB := Lib.hid (fun (w : World) => snew_any (some ⟨w.heap.size + 1, 0, none⟩) 1 [(exY, some ⟨w.heap.size, 0, none⟩, 1)] _ _ (by rw [World.size_alloc, World.size_alloc]; omega) (one_ds w exY [121] rfl 9 43) (fun e he => by rw [List.mem_singleton] at he; rw [he]; exact exy_len) (by simp))
  simp only [exx_new] at HA
  simp only [exy_new] at HB
  go_enter Tryz.func7, Tryz.ntmps7
  go_wp2_with fail
  refine (HA.out w).mono ?_
  rintro e w1 ⟨v1, rfl, hv1, _, s1, k1⟩
  obtain ⟨p1, rfl⟩ := hv1 rfl
  have S1 := Lib.hid s1; have K1 := Lib.hid ((KA.out w).trans k1 (fun _ _ h => h))
  clear s1 k1 hv1
  dsimp only at S1
  go_wp2_with fail
  refine (HB.out w1).mono ?_
  rintro e w2 ⟨v2, rfl, hv2, _, s2, k2⟩
  obtain ⟨p2, rfl⟩ := hv2 rfl
  have k12 := (KB.out w1).trans k2 (fun _ _ h => h)
  have S2 := Lib.hid s2; have T2 := Lib.hid (S1.out.keep k12); have K2 := Lib.hid (K1.out.trans k12 (fun _ _ h => h))
  clear s2 k2 hv2 k12
  dsimp only at S2
  have HC := Lib.hid (dconf10_any (.pointer none) (.pointer (some ⟨p1, 0, none⟩)) (.pointer (some ⟨p2, 0, none⟩)) [] [exX] [exY] w2 (sn_nil _) T2.out S2.out (by decide) (by decide) (by decide))
  rw [exxy_conf] at HC
  go_wp2_with fail
  refine HC.out.mono ?_
  rintro e w3 ⟨ao, cap, rfl, hl, k3⟩
  obtain ⟨b, o, rfl, hb, hc⟩ := hl (by simp [strs])
  have c0 : w3.cell? ⟨b, o, none⟩ = some (.string (bs [65])) := hc 0 (.string (bs [65])) rfl
  have hk1 : ((bs [65]).toList == [65]) = true := by rw [bs_list]; rfl
  clear hc hl
  go_wp2
  go_ret
  exact ⟨rfl, K2.out.trans k3 (fun _ _ h => h)⟩

set_option maxHeartbeats 1000000 in
set_option maxRecDepth 100000 in
theorem few10_any (la : Option Addr) (lc : Nat) (es : List Ent) (ma : Option Addr) (mc : Nat) (fs : List Ent) (na : Option Addr) (nc : Nat) (gs : List Ent) (B : Nat) (w : World) (hD : Ds w B la es) (hE : Ds w B ma fs) (hF : Ds w B na gs) :
    Calls Tryz.prog 8 #[.agg #[.slice la es.length lc, .slice ma fs.length mc, .slice na gs.length nc]] w fun e w' => e = .returned (.bool (fewB es 10 && fewB fs 10 && fewB gs 10)) ∧ Kept (fun _ => False) w w' := by
  have HFA := Lib.hid (fun (wx : World) (h : Kept (fun _ => False) w wx) => few_any la lc es 10 B wx (hD.keep h) (by decide))
  have HFB := Lib.hid (fun (wx : World) (h : Kept (fun _ => False) w wx) => few_any ma mc fs 10 B wx (hE.keep h) (by decide))
  have HFC := Lib.hid (fun (wx : World) (h : Kept (fun _ => False) w wx) => few_any na nc gs 10 B wx (hF.keep h) (by decide))
  have KB := Lib.hid ((Kept.refl (fun _ => False) w).alloc (.cells #[.slice la es.length lc, .slice ma fs.length mc, .slice na gs.length nc] 23))
  have HBX := Lib.hid (show ∀ wx, Kept (fun _ => False) (w.alloc (.cells #[.slice la es.length lc, .slice ma fs.length mc, .slice na gs.length nc] 23)) wx → wx.cell? ⟨w.heap.size, 0, none⟩ = some (.slice la es.length lc) ∧ wx.cell? ⟨w.heap.size, 1, none⟩ = some (.slice ma fs.length mc) ∧ wx.cell? ⟨w.heap.size, 2, none⟩ = some (.slice na gs.length nc) from fun wx h => by
    have h0 := fun j => World.cell?_alloc_new w #[.slice la es.length lc, .slice ma fs.length mc, .slice na gs.length nc] 23 j
    exact ⟨(h.cell (p := ⟨w.heap.size, 0, none⟩) (by simp) (fun h => h)).trans (h0 0), (h.cell (p := ⟨w.heap.size, 1, none⟩) (by simp) (fun h => h)).trans (h0 1), (h.cell (p := ⟨w.heap.size, 2, none⟩) (by simp) (fun h => h)).trans (h0 2)⟩)
  clear hD hE hF
  generalize fewB es 10 = f1 at *
  generalize fewB fs 10 = f2 at *
  generalize fewB gs 10 = f3 at *
  go_enter Tryz.func8, Tryz.ntmps8
  obtain ⟨c0, c1, c2⟩ := HBX.out _ (Kept.refl _ _)
  go_wp2_with fail
  refine (HFA.out _ KB.out).mono ?_
  rintro e w2 ⟨rfl, k2⟩
  have K2 := Lib.hid k2; clear k2 c0 c1 c2
  obtain ⟨c0, c1, c2⟩ := HBX.out _ K2.out
  cases f1 with
  | false =>
    go_wp2
    go_ret
    exact ⟨rfl, KB.out.trans K2.out (fun _ _ h => h)⟩
  | true =>
    go_wp2_with fail
    refine (HFB.out _ (KB.out.trans K2.out (fun _ _ h => h))).mono ?_
    rintro e w3 ⟨rfl, k3⟩
    have K3 := Lib.hid (K2.out.trans k3 (fun _ _ h => h)); clear k3 c0 c1 c2
    obtain ⟨c0, c1, c2⟩ := HBX.out _ K3.out
    cases f2 with
    | false =>
      go_wp2
      go_ret
      exact ⟨rfl, KB.out.trans K3.out (fun _ _ h => h)⟩
    | true =>
      go_wp2_with fail
      refine (HFC.out _ (KB.out.trans K3.out (fun _ _ h => h))).mono ?_
      rintro e w4 ⟨rfl, k4⟩
      have K4 := Lib.hid (K3.out.trans k4 (fun _ _ h => h)); clear k4 c0 c1 c2
      go_wp2
      go_ret
      exact ⟨rfl, KB.out.trans K4.out (fun _ _ h => h)⟩

end Go.Proofs.YtlnincdmdegaoaaGreat
