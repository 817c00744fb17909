/-
  Lemmas towards the claim of this folder: contracts of the functions that the law reaches; joined texts.
-/
import Derived.Test.YtlnincdmdegaoaaGreatGEe
import Derived.Test.YtlnincdmdegaoaaGreatR8
/-
  CONTRACTS of package own: Defs.
-/
namespace Go.Proofs.YtlnincdmdegaoaaGreat
open Go.RowKit Go.Mk Go.Maps

/-- What Defs answers: the definitions in memory of their own. -/
def DfPost (w : World) (l : List DD) (e : Ending) (w' : World) : Prop :=
  ∃ t : SD, e = .returned (.slice t.ao t.es.length t.cap) ∧ dds t.es = l ∧ SDf w.heap.size w' t ∧ Kept (fun _ => False) w w'

end Go.Proofs.YtlnincdmdegaoaaGreat

/-
  The reference of layer 8: lists by rising keys as they lie in memory; Put, Drop, New over them.
-/
namespace Go.Proofs.YtlnincdmdegaoaaGreat
open Go.RowKit Go.Mk Go.Maps

/-- A list by rising keys. -/
structure Rl (w : World) (oa : Option Addr) (es : List Ent) : Prop where
  ds : Ds w w.heap.size oa es
  len : ∀ e ∈ es, Len8 e.1
  rise : Rise keyE es

theorem Rl.keep {w w' : World} {oa : Option Addr} {es : List Ent} (h : Rl w oa es) (hk : Kept (fun _ => False) w w') : Rl w' oa es :=
  ⟨(h.ds.keep hk).mono hk.size, h.len, h.rise⟩

theorem Rl.nil (w : World) (oa : Option Addr) : Rl w oa [] := ⟨⟨fun h => (h rfl).elim, fun e he => absurd he List.not_mem_nil⟩, fun e he => absurd he List.not_mem_nil, by simp [Rise]⟩

/-- What Put and Drop answer. -/
def RlQ (w : World) (es : List Ent) (e : Ending) (w' : World) : Prop := ∃ oa oc, e = .returned (.slice oa es.length oc) ∧ Rl w' oa es ∧ Kept (fun _ => False) w w'

theorem rput_rl (la : Option Addr) (lc : Nat) (es : List Ent) (d : DD) (ao : Option Addr) (cap : Nat) (B : Nat) (w : World) (hB : B ≤ w.heap.size) (hD : Rl w la es) (hn : es.length ≤ 100000) (hA : Lies w B ao (strs d.vs)) (hc : d.vs.length ≤ cap) (hL : Len8 d) :
    Calls Tryz.prog 22 #[.slice la es.length lc, .agg #[.int .i64 d.k, .string (bs d.c), .string (bs d.p), .slice ao d.vs.length cap, .string (bs d.s), .string (bs d.t)]] w (RlQ w (putK keyE (d, ao, cap) es)) := by
  refine (rput_any la lc es d ao cap w.heap.size w hD.ds hD.len hn (hA.mono hB) hc hL).mono ?_
  intro e w' h
  rw [putS_all _ _ _ hD.rise, List.nil_append] at h
  obtain ⟨oa, oc, rfl, ho, hk⟩ := h
  have hm : ∀ e ∈ putK keyE (d, ao, cap) es, e = (d, ao, cap) ∨ e ∈ es := fun e he => ((mem_putK hD.rise e).1 he).imp id (·.1)
  refine ⟨oa, oc, rfl, ⟨owns_ds (owns_base ho (fun _ _ => Nat.zero_le _)) (fun e he => ?_), fun e he => ?_, rise_putK hD.rise⟩, hk⟩
  · rcases hm e he with rfl | h
    · exact ⟨((hA.mono hB).kept hk (fun _ _ _ h => h)).mono hk.size, hc⟩
    · exact ⟨((hD.ds.lies e h).1.kept hk (fun _ _ _ h => h)).mono hk.size, (hD.ds.lies e h).2⟩
  · rcases hm e he with rfl | h
    · exact hL
    · exact hD.len e h

/-- What the reference's New answers. -/
def RnPost (w : World) (r : Int × List DD) (e : Ending) (w' : World) : Prop :=
  ∃ oa oc es, e = .returned (.tuple #[.slice oa es.length oc, .int .i64 r.1]) ∧ dds es = r.2 ∧ es.length ≤ 500 ∧ Rl w' oa es ∧ Kept (fun _ => False) w w'

theorem rn_err {w w' : World} {r : Int} (hk : Kept (fun _ => False) w w') : RnPost w (r, []) (.returned (.tuple #[.slice none 0 0, .int .i64 r])) w' :=
  ⟨none, 0, [], rfl, rfl, Nat.zero_le _, Rl.nil _ _, hk⟩

theorem findI_has {k : List UInt8} {l : List Ent} : decide (0 ≤ findI keyE k l) = hasK keyE k l := by
  induction l with
  | nil => rfl
  | cons x r ih =>
    unfold findI hasK
    rw [List.any_cons]
    by_cases h : keyE x = k
    · simp [h]
    · have e1 : (decide (keyE x = k)) = false := decide_eq_false h
      unfold hasK at ih
      rw [if_neg h, ← ih]
      by_cases h2 : findI keyE k r < 0
      · rw [if_pos h2]
        simp [h2, h]
      · rw [if_neg h2, decide_eq_true (show 0 ≤ findI keyE k r + 1 by omega), decide_eq_true (show 0 ≤ findI keyE k r by omega)]
        simp

set_option maxHeartbeats 2000000 in
set_option maxRecDepth 100000 in
theorem rnew_any (la : Option Addr) (lc : Nat) (es : List Ent) (B : Nat) (w : World) (hB : B ≤ w.heap.size) (hD : Ds w B la es) (hl : ∀ e ∈ es, Len8 e.1) (hn : es.length ≤ 1000000) :
    Calls Tryz.prog 25 #[.slice la es.length lc] w (RnPost w (newL (dds es))) := by
  have HD := Lib.hid hD; have HL := Lib.hid hl; have HB := Lib.hid hB
  clear hD hl hB
  go_enter Tryz.func25, Tryz.ntmps25
  go_wp2
  go_loopg [4, 5] es.length (fun k v c wr => ∃ j oa oc m, k = es.length - j ∧ j ≤ es.length ∧ c = .int .i64 (j : Int) ∧ v = .slice oa m.length oc ∧ newL ((dds es).take j) = (0, dds m) ∧ m.length ≤ 500 ∧ Rl wr oa m ∧ Kept (fun _ => False) w wr)
  case atStart => exact ⟨0, none, 0, [], rfl, Nat.zero_le _, rfl, rfl, rfl, Nat.zero_le _, Rl.nil _ _, Kept.refl _ _⟩
  case round =>
    obtain ⟨j, oa, oc, m, hk, hj, rfl, rfl, hnew, hml, hr, hw⟩ := hrel
    have HK := Lib.hid hk; have HNEW := Lib.hid hnew; have HML := Lib.hid hml; have HR := Lib.hid hr; have HW := Lib.hid hw
    clear hk hnew hml hr hw
    by_cases hlt : j < es.length
    · obtain ⟨xb, xo, rfl, hxb, hc⟩ := HD.out.row (by intro h; rw [h] at hlt; simp at hlt)
      have hmem := List.getElem_mem hlt
      have hstep := newL_step ((dds es).take j) es[j].1
      rw [← dds_take es j hlt, HNEW.out] at hstep
      have HBO := Lib.hid (hc j hlt)
      obtain ⟨c0, c1, c2, c3, c4, c5⟩ := (hc j hlt).kept HW.out (fun h => h)
      have HLE := Lib.hid (HL.out es[j] hmem)
      have HLI := Lib.hid (HD.out.lies es[j] hmem)
      have i1 : (j : Int) < (es.length : Int) := by omega
      have HS := Lib.hid hstep
      clear hc hstep hmem
      generalize es[j] = x at *
      obtain ⟨d, ao, cap⟩ := x
      dsimp only at c0 c1 c2 c3 c4 c5 HLE HLI HS HBO
      have HKEY := Lib.hid (rkey_any d ao cap B wr (HLI.out.1.kept HW.out (fun _ _ _ h => h)) HLI.out.2 HLE.out.n HLE.out.s HLE.out.c)
      have hN : newS (0, dds m) d = if keyD d = [] then (31, []) else if hasK keyE (keyD d) m = true then (45, []) else if 500 ≤ m.length then (21, []) else (0, putK keyD d (dds m)) := by
        have e1 : hasK keyD (keyD d) (dds m) = hasK keyE (keyD d) m := map_hasK (f := fun e : Ent => e.1) (ka := keyE) (kb := keyD) (fun _ => rfl) _ _
        unfold newS
        rw [if_neg (by simp), e1, dds_len]
      have HN := Lib.hid (HS.out.trans hN)
      have HPK := Lib.hid (show putK keyD d (dds m) = dds (putK keyE (d, ao, cap) m) from (map_putK (f := fun e : Ent => e.1) (ka := keyE) (kb := keyD) (fun _ => rfl) (d, ao, cap) m).symm)
      clear hN HS
      generalize keyD d = key at *
      go_wp2_with fail
      refine HKEY.out.mono ?_
      rintro e w1 ⟨rfl, k1⟩
      have K1 := Lib.hid (HW.out.trans k1 (fun _ _ h => h))
      have R1 := Lib.hid (HR.out.keep k1)
      clear k1 c0 c1 c2 c3 c4 c5
      have z1 := bs_list key
      cases key with
      | nil =>
        have hs := HN.out
        rw [if_pos rfl] at hs
        have HE := Lib.hid (newL_stop (l := dds es) (j := j + 1) (by rw [hs]; simp))
        rw [hs] at HE
        clear hs
        go_wp2
        go_ret2
        rw [HE.out]
        exact rn_err K1.out
      | cons q key =>
        generalize hkk : q :: key = kk at *
        have hs := HN.out
        rw [if_neg (by rw [← hkk]; simp)] at hs
        have hne : (kk == []) = false := by rw [← hkk]; rfl
        clear hkk
        have HS := Lib.hid hs
        clear hs
        have HFI := Lib.hid (findI_has (k := kk) (l := m))
        have HFD := Lib.hid (rfind_any oa oc m kk w1.heap.size w1 R1.out.ds R1.out.len (by have := HML.out; omega))
        generalize findI keyE kk m = fi at *
        go_wp2_with fail
        refine HFD.out.mono ?_
        rintro e w2 ⟨rfl, k2⟩
        have K2 := Lib.hid (K1.out.trans k2 (fun _ _ h => h))
        have R2 := Lib.hid (R1.out.keep k2)
        clear k2
        cases hh : hasK keyE kk m with
        | true =>
          have hf := HFI.out
          rw [hh] at hf
          have hf' : 0 ≤ fi := of_decide_eq_true hf
          have hs := HS.out
          rw [if_pos hh] at hs
          have HE := Lib.hid (newL_stop (l := dds es) (j := j + 1) (by rw [hs]; simp))
          rw [hs] at HE
          clear hs hh hf
          go_wp2
          go_ret2
          rw [HE.out]
          exact rn_err K2.out
        | false =>
          have hf := HFI.out
          rw [hh] at hf
          have hf' : ¬ 0 ≤ fi := of_decide_eq_false hf
          have hs := HS.out
          rw [if_neg (by simp [hh])] at hs
          clear hh hf
          by_cases h5 : 500 ≤ m.length
          · have h5' : m.length = 500 := by have := HML.out; omega
            rw [if_pos h5] at hs
            have HE := Lib.hid (newL_stop (l := dds es) (j := j + 1) (by rw [hs]; simp))
            rw [hs] at HE
            clear hs h5
            go_wp2
            go_ret2
            rw [HE.out]
            exact rn_err K2.out
          · have h5' : ¬ (m.length : Int) = 500 := by omega
            have H5 := Lib.hid h5
            rw [if_neg h5, HPK.out] at hs
            have HE := Lib.hid hs
            clear hs h5
            obtain ⟨c0, c1, c2, c3, c4, c5⟩ := HBO.out.kept K2.out (fun h => h)
            have HPUT := Lib.hid (rput_rl oa oc m d ao cap B w2 (Nat.le_trans HB.out K2.out.size) R2.out (by have := HML.out; omega) (HLI.out.1.kept K2.out (fun _ _ _ h => h)) HLI.out.2 HLE.out)
            have HPL := Lib.hid (putK_le (a := (d, ao, cap)) R2.out.rise)
            generalize putK keyE (d, ao, cap) m = m' at *
            go_wp2_with fail
            refine HPUT.out.mono ?_
            rintro e w3 ⟨oa3, oc3, rfl, r3, k3⟩
            have K3 := Lib.hid (K2.out.trans k3 (fun _ _ h => h))
            have R3 := Lib.hid r3
            clear r3 k3
            go_wp2
            go_roundg (es.length - (j + 1))
            case measure => have := HK.out; omega
            case rel => exact ⟨j + 1, oa3, oc3, m', rfl, by omega, by go_num, rfl, HE.out, by have := HPL.out; have := H5.out; omega, R3.out, K3.out⟩
    · obtain rfl : j = es.length := by omega
      have hs := HNEW.out
      rw [← dds_len, List.take_length] at hs
      have HE := Lib.hid hs
      clear hs hlt
      go_wp2
      go_ret2
      rw [HE.out]
      exact ⟨oa, oc, m, rfl, rfl, HML.out, HR.out, HW.out⟩

theorem find_cases (key : List UInt8) : ∀ es : List Ent, (∃ i, ∃ h : i < es.length, keyE es[i] = key ∧ findI keyE key es = (i : Int)) ∨ ((∀ x ∈ es, keyE x ≠ key) ∧ findI keyE key es = -1) := by
  intro es
  by_cases h : ∀ x ∈ es, keyE x ≠ key
  · exact .inr ⟨h, findI_no h⟩
  · left
    induction es with
    | nil => exact (h (fun x hx => absurd hx List.not_mem_nil)).elim
    | cons x r ih =>
      by_cases hx : keyE x = key
      · exact ⟨0, by simp, hx, findI_at (key := keyE) (l := x :: r) 0 (by simp) hx (by simp)⟩
      · obtain ⟨i, hi, e1, e2⟩ := ih (fun hr => h (fun y hy => by
          rcases List.mem_cons.1 hy with rfl | hy
          · exact hx
          · exact hr y hy))
        refine ⟨i + 1, by simp; omega, e1, ?_⟩
        unfold findI
        rw [if_neg hx, e2]
        simp
        omega

end Go.Proofs.YtlnincdmdegaoaaGreat
