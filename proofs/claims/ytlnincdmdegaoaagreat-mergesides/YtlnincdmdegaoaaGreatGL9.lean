/-
  Lemmas towards the claim of this folder: contracts of the functions that the law reaches; joined texts.
-/
import Derived.Test.YtlnincdmdegaoaaGreatGDz
import Derived.Test.YtlnincdmdegaoaaGreatGL8
import Derived.Test.YtlnincdmdegaoaaGreatGMt
import Derived.Test.YtlnincdmdegaoaaGreatGR9a
import Derived.Test.YtlnincdmdegaoaaGreatGPg
/-
  The laws of layer 9: awake; patches of bounded size.
-/
namespace Go.Proofs.YtlnincdmdegaoaaGreat
open Go.RowKit Go.Mk Go.Maps

theorem Sn.snp {w : World} {v : Value} {l : List DD} (h : Sn w v l) : Snp l := ⟨h.rise, h.right⟩

theorem key_small {d : DD} (h : rightD d = true) : (keyD d).length ≤ 702 := by
  have h1 := right_small h
  have := h1.c; have := h1.s
  unfold keyD
  rw [if_pos h]
  split
  · simp; omega
  · omega

/-- The edits of a patch between snapshots are of bounded size. -/
theorem of_len9 {A B : List DD} (hA : Snp A) (hB : Snp B) {q : List EE} (hq : eds q = ofL A B) : ∀ e ∈ q, Len9 e := by
  intro e he
  have hm : edE e ∈ ofL A B := by rw [← hq]; exact List.mem_map_of_mem he
  obtain ⟨h1, h2, h3⟩ := mem_ofL.1 hm
  have hr := (rightE_iff.1 (ofL_rightE hA hB hm)).2
  have l1 := (sideB_iff.1 hr.1).1
  have l2 := (sideB_iff.1 hr.2.1).1
  simp only [edE, dds_len] at l1 l2
  have m1 : ∀ x ∈ e.old.es, rightD x.1 = true := fun x hx => by
    have : x.1 ∈ getK keyD e.key A := by
      have h0 : dds e.old.es = getK keyD e.key A := h1
      rw [← h0]; exact List.mem_map_of_mem hx
    exact hA.right _ (mem_getK.1 this).1
  have m2 : ∀ x ∈ e.new.es, rightD x.1 = true := fun x hx => by
    have : x.1 ∈ getK keyD e.key B := by
      have h0 : dds e.new.es = getK keyD e.key B := h2
      rw [← h0]; exact List.mem_map_of_mem hx
    exact hB.right _ (mem_getK.1 this).1
  refine ⟨?_, fun x hx => len8_right (m1 x hx), fun x hx => len8_right (m2 x hx), by omega, by omega⟩
  by_cases ho : e.old.es = []
  · by_cases hn : e.new.es = []
    · exact (h3 (by simp [edE, ho, hn])).elim
    · obtain ⟨x, hx⟩ := List.exists_mem_of_ne_nil _ hn
      have hk := (sideB_iff.1 hr.2.1).2 x.1 (List.mem_map_of_mem hx)
      have := key_small (m2 x hx)
      simp only [edE] at hk
      rw [← hk]; omega
  · obtain ⟨x, hx⟩ := List.exists_mem_of_ne_nil _ ho
    have hk := (sideB_iff.1 hr.1).2 x.1 (List.mem_map_of_mem hx)
    have := key_small (m1 x hx)
    simp only [edE] at hk
    rw [← hk]; omega

theorem ofL_len_le (A B : List DD) : (ofL A B).length ≤ A.length + B.length := by
  have h1 : (ofL A B).length ≤ (keysL (A ++ B)).length := List.length_filterMap_le _ _
  have h2 : ∀ (l : List DD) (s : List (List UInt8)), Rise id s → (l.foldl (fun s d => putK id (keyD d) s) s).length ≤ s.length + l.length := by
    intro l
    induction l with
    | nil => intro s _; simp
    | cons d r ih =>
      intro s hs
      rw [List.foldl_cons]
      have h3 := ih _ (rise_putK (a := keyD d) hs)
      have h4 := putK_le (a := keyD d) hs
      simp only [List.length_cons]
      omega
  have h3 := h2 (A ++ B) [] List.Pairwise.nil
  simp only [List.length_nil, List.length_append, Nat.zero_add] at h3
  unfold keysL at h1
  omega

theorem exa_new : newL (dds [(exA, none, 0)]) = (0, [exA]) := by decide +kernel
theorem exa_of : ofL [] [exA] = [⟨[65], [], [exA]⟩] := by decide +kernel
theorem exa_of2 : ofL [exA] [exA] = [] := by decide +kernel

theorem exa_ds (w : World) : Ds (w.alloc (.cells #[.int .i64 1, .string (bs [65]), .string (bs [79, 98, 106, 101, 99, 116]), .slice none 0 0, .string (bs []), .string (bs [])] 43)) (w.heap.size + 1) (some ⟨w.heap.size, 0, none⟩) [(exA, none, 0)] := by
  have h := sd_one w (exA, none, 0) 43 ⟨Lies.nil _ _ _, by decide⟩
  exact h.ds

end Go.Proofs.YtlnincdmdegaoaaGreat

/-
  The reference of layer 10: Keys.
-/
namespace Go.Proofs.YtlnincdmdegaoaaGreat
open Go.RowKit Go.Mk Go.Maps

/-- Slices of definitions in a row. -/
structure Ls (w : World) (B : Nat) (la : Option Addr) (ss : List SD) : Prop where
  row : ss ≠ [] → ∃ b off, la = some ⟨b, off, none⟩ ∧ b < B ∧ ∀ j (h : j < ss.length), w.cell? ⟨b, off + j, none⟩ = some (.slice ss[j].ao ss[j].es.length ss[j].cap)
  lies : ∀ s ∈ ss, Ds w B s.ao s.es

theorem Ls.keep {w w' : World} {B : Nat} {la : Option Addr} {ss : List SD} (h : Ls w B la ss) (hk : Kept (fun _ => False) w w') : Ls w' B la ss := by
  refine ⟨fun hn => ?_, fun s hs => (h.lies s hs).keep hk⟩
  obtain ⟨b, off, e, hb, hc⟩ := h.row hn
  exact ⟨b, off, e, hb, fun j hj => (hk.cell (p := ⟨b, off + j, none⟩) (World.block_lt_of_cell? _ _ (hc j hj)) (fun h => h)).trans (hc j hj)⟩

def flatS (ss : List SD) : List Ent := ss.flatMap SD.es

theorem flat_take (ss : List SD) (j : Nat) (h : j < ss.length) : flatS (ss.take (j + 1)) = flatS (ss.take j) ++ ss[j].es := by
  unfold flatS
  rw [List.take_add_one, List.getElem?_eq_getElem h, Option.toList_some, List.flatMap_append]
  simp

/-- The same keys. -/
def KeysOf (out pr : List Ent) : Prop := ∀ k, (∃ e ∈ out, keyE e = k) ↔ ∃ e ∈ pr, keyE e = k

theorem KeysOf.put {out pr : List Ent} (h : KeysOf out pr) (hr : Rise keyE out) (x : Ent) : KeysOf (putK keyE x out) (pr ++ [x]) := by
  intro k
  constructor
  · rintro ⟨e, he, rfl⟩
    rcases (mem_putK hr e).1 he with rfl | ⟨he, _⟩
    · exact ⟨e, by simp, rfl⟩
    · obtain ⟨y, hy, hk⟩ := (h _).1 ⟨e, he, rfl⟩
      exact ⟨y, by simp [hy], hk⟩
  · rintro ⟨e, he, rfl⟩
    by_cases hx : keyE e = keyE x
    · exact ⟨x, (mem_putK hr x).2 (.inl rfl), hx.symm⟩
    · rcases List.mem_append.1 he with he | he
      · obtain ⟨y, hy, hk⟩ := (h _).2 ⟨e, he, rfl⟩
        exact ⟨y, (mem_putK hr y).2 (.inr ⟨hy, by rw [hk]; exact hx⟩), hk⟩
      · rw [List.mem_singleton] at he
        exact (hx (by rw [he])).elim

theorem KeysOf.keys {out pr : List Ent} (h : KeysOf out pr) (hr : Rise keyE out) : out.map keyE = keysL (dds pr) := by
  refine keys_ext ?_ (fun k => ?_)
  · unfold Rise
    rw [List.pairwise_map]
    exact hr
  · rw [List.mem_map]
    constructor
    · rintro ⟨e, he, rfl⟩
      obtain ⟨y, hy, hk⟩ := (h _).1 ⟨e, he, rfl⟩
      exact ⟨y.1, List.mem_map_of_mem hy, hk⟩
    · rintro ⟨d, hd, rfl⟩
      obtain ⟨y, hy, rfl⟩ := List.mem_map.1 hd
      obtain ⟨e, he, hk⟩ := (h _).2 ⟨y, hy, rfl⟩
      exact ⟨e, he, hk⟩

/-- A new list of texts. -/
def StQ (w : World) (ks : List (List UInt8)) (e : Ending) (w' : World) : Prop := ∃ ao cap, e = .returned (.slice ao ks.length cap) ∧ Lies w' w'.heap.size ao (strs ks) ∧ Kept (fun _ => False) w w'

set_option maxHeartbeats 2000000 in
set_option maxRecDepth 100000 in
theorem rkeys10_any (la : Option Addr) (lc : Nat) (ss : List SD) (B : Nat) (w : World) (hB : B ≤ w.heap.size) (hL : Ls w B la ss) (hl : ∀ e ∈ flatS ss, Len8 e.1) (hn : (flatS ss).length ≤ 100000) (hm : ss.length ≤ 1000) :
    Calls Tryz.prog 16 #[.slice la ss.length lc] w (StQ w (keysL (dds (flatS ss)))) := by
  obtain ⟨i0, hinf, hz0, hz1, hz2⟩ := info_parts Tryz.infoStr
  have HL := Lib.hid hL; have HLN := Lib.hid hl; have HBB := Lib.hid hB; have HN := Lib.hid hn
  clear hL hl hB hn
  go_enter Tryz.func16, Tryz.ntmps16
  go_wp2
  go_loopg [3, 4] ss.length (fun k v c wr => ∃ j oa oc out, k = ss.length - j ∧ j ≤ ss.length ∧ c = .int .i64 (j : Int) ∧ v = .slice oa out.length oc ∧ KeysOf out (flatS (ss.take j)) ∧ out.length ≤ (flatS (ss.take j)).length ∧ Rl wr oa out ∧ Kept (fun _ => False) w wr)
  case atStart => exact ⟨0, none, 0, [], rfl, Nat.zero_le _, rfl, rfl, fun k => by simp [flatS], Nat.zero_le _, Rl.nil _ _, Kept.refl _ _⟩
  case round =>
    obtain ⟨j, oa, oc, out, hk, hj, rfl, rfl, hko, hol, hrl, hw⟩ := hrel
    have HK := Lib.hid hk; have HKO := Lib.hid hko; have HOL := Lib.hid hol; have HRL := Lib.hid hrl; have HW := Lib.hid hw
    clear hk hko hol hrl hw
    by_cases hlt : j < ss.length
    · obtain ⟨b, off, rfl, hb, hc⟩ := HL.out.row (by intro h; rw [h] at hlt; simp at hlt)
      have HLI := Lib.hid (HL.out.lies ss[j] (List.getElem_mem hlt))
      have HCE := Lib.hid (hc j hlt)
      have HFT := Lib.hid (flat_take ss j hlt)
      have HML := Lib.hid (show ∀ e ∈ ss[j].es, Len8 e.1 from fun e he => HLN.out e (List.mem_flatMap.2 ⟨ss[j], List.getElem_mem hlt, he⟩))
      have HTL := Lib.hid (show (flatS (ss.take j)).length + ss[j].es.length ≤ 100000 by
        have h1 : (flatS (ss.take (j + 1))).length ≤ (flatS ss).length := by
          have : flatS ss = flatS (ss.take (j + 1)) ++ flatS (ss.drop (j + 1)) := by
            unfold flatS
            rw [← List.flatMap_append, List.take_append_drop]
          rw [this, List.length_append]
          omega
        rw [flat_take ss j hlt, List.length_append] at h1
        have := HN.out
        omega)
      have i1 : (j : Int) < (ss.length : Int) := by omega
      clear hc
      generalize ss[j] = s at *
      obtain ⟨ao, cap, es⟩ := s
      dsimp only at HCE HML HFT HTL
      generalize flatS (ss.take j) = fl at *
      go_wp2
      go_loopg [3, 5] es.length (fun k v c wr => ∃ i oa oc out, k = es.length - i ∧ i ≤ es.length ∧ c = .int .i64 (i : Int) ∧ v = .slice oa out.length oc ∧ KeysOf out (fl ++ es.take i) ∧ out.length ≤ fl.length + i ∧ Rl wr oa out ∧ Kept (fun _ => False) w wr)
      case atStart => exact ⟨0, oa, oc, out, rfl, Nat.zero_le _, rfl, rfl, by simpa using HKO.out, HOL.out, HRL.out, HW.out⟩
      case round =>
        obtain ⟨i, oa4, oc4, out4, hk4, hi4, rfl, rfl, hko4, hol4, hrl4, hw4⟩ := hrel
        have HK4 := Lib.hid hk4; have HKO4 := Lib.hid hko4; have HOL4 := Lib.hid hol4; have HRL4 := Lib.hid hrl4; have HW4 := Lib.hid hw4
        clear hk4 hko4 hol4 hrl4 hw4
        have c0 := (HW4.out.cell (p := ⟨b, off + j, none⟩) (World.block_lt_of_cell? _ _ HCE.out) (fun h => h)).trans HCE.out
        have htl := HTL.out
        by_cases hlt4 : i < es.length
        · obtain ⟨xb, xo, rfl, hxb, hcx⟩ := HLI.out.row (by intro h; rw [h] at hlt4; simp at hlt4)
          have hmem := List.getElem_mem hlt4
          obtain ⟨d0, d1, d2, d3, d4, d5⟩ := (hcx i hlt4).kept HW4.out (fun h => h)
          have HLX := Lib.hid (HLI.out.lies es[i] hmem)
          have HLE := Lib.hid (HML.out es[i] hmem)
          have HT4 := Lib.hid (show KeysOf (putK keyE es[i] out4) (fl ++ es.take (i + 1)) by
            have := HKO4.out.put HRL4.out.rise es[i]
            rw [List.take_add_one, List.getElem?_eq_getElem hlt4, Option.toList_some, ← List.append_assoc]
            exact this)
          have i2 : (i : Int) < (es.length : Int) := by omega
          clear hcx hmem
          generalize es[i] = y at *
          obtain ⟨d, ao5, cap5⟩ := y
          dsimp only at d0 d1 d2 d3 d4 d5 HLX HLE
          have HPU := Lib.hid (rput_rl oa4 oc4 out4 d ao5 cap5 B _ (Nat.le_trans HBB.out HW4.out.size) HRL4.out (by have := HOL4.out; omega) (HLX.out.1.kept HW4.out (fun _ _ _ h => h)) HLX.out.2 HLE.out)
          have HPL := Lib.hid (putK_le (a := (d, ao5, cap5)) HRL4.out.rise)
          generalize putK keyE (d, ao5, cap5) out4 = m' at *
          go_wp2_with fail
          refine HPU.out.mono ?_
          rintro e w5 ⟨oa6, oc6, rfl, r5, k5⟩
          have R5 := Lib.hid r5; have K5 := Lib.hid (HW4.out.trans k5 (fun _ _ h => h))
          clear r5 k5
          go_wp2
          go_roundg (es.length - (i + 1))
          case measure => have := HK4.out; omega
          case rel => exact ⟨i + 1, oa6, oc6, m', rfl, by omega, by go_num, rfl, HT4.out, by have := HOL4.out; have := HPL.out; omega, R5.out, K5.out⟩
        · obtain rfl : i = es.length := by omega
          have hs := HKO4.out
          rw [List.take_length, ← HFT.out] at hs
          have HX := Lib.hid hs
          clear hs hlt4
          go_wp2
          go_roundg (ss.length - (j + 1))
          case measure => have := HK.out; omega
          case rel => exact ⟨j + 1, oa4, oc4, out4, rfl, by omega, by go_num, rfl, HX.out, by rw [HFT.out, List.length_append]; exact HOL4.out, HRL4.out, HW4.out⟩
    · obtain rfl : j = ss.length := by omega
      have hs := HKO.out
      have ht := HOL.out
      rw [List.take_length] at hs ht
      have HKE := Lib.hid (hs.keys HRL.out.rise)
      have HOL2 := Lib.hid (show out.length ≤ 100000 by have := HN.out; omega)
      clear hs ht hlt HKO HOL
      generalize keysL (dds (flatS ss)) = kk at *
      obtain ⟨wo, rfl⟩ : ∃ wo, wo = wr := ⟨wr, rfl⟩
      have HKL := Lib.hid (show kk.length = out.length by rw [← HKE.out, List.length_map])
      go_wp2
      go_loopg [6, 7] out.length (fun k v c wx => ∃ i, k = out.length - i ∧ i ≤ out.length ∧ c = .int .i64 (i : Int) ∧ wx.ownsRow wo.heap.size 9 1 v ((out.take i).map keyE).length (strs ((out.take i).map keyE)) ∧ Kept (fun _ => False) wo wx)
      case atStart => exact ⟨0, rfl, Nat.zero_le _, rfl, World.ownsRow_nil _ _ _ _, Kept.refl _ _⟩
      case round =>
        obtain ⟨i, hk, hi, rfl, ho, hw⟩ := hrel
        have HK2 := Lib.hid hk; have HO := Lib.hid ho; have HW2 := Lib.hid hw
        clear hk ho hw
        by_cases hli : i < out.length
        · obtain ⟨xb, xo, rfl, hxb, hc⟩ := HRL.out.ds.row (by intro h; rw [h] at hli; simp at hli)
          have hmem := List.getElem_mem hli
          obtain ⟨c0, c1, c2, c3, c4, c5⟩ := (hc i hli).kept HW2.out (fun h => h)
          have HLX := Lib.hid (HRL.out.ds.lies out[i] hmem)
          have HLE := Lib.hid (HRL.out.len out[i] hmem)
          have HTK := Lib.hid (show (out.take (i + 1)).map keyE = (out.take i).map keyE ++ [keyE out[i]] by
            rw [List.take_add_one, List.getElem?_eq_getElem hli, Option.toList_some, List.map_append]
            rfl)
          have HTL := Lib.hid (show ((out.take i).map keyE).length ≤ i by rw [List.length_map, List.length_take]; omega)
          have i1 : (i : Int) < (out.length : Int) := by omega
          clear hc hmem
          generalize out[i] = y at *
          obtain ⟨d, ao, cap⟩ := y
          dsimp only at c0 c1 c2 c3 c4 c5 HLX HLE
          have hke : keyE (d, ao, cap) = keyD d := rfl
          rw [hke] at HTK
          have HKEY := Lib.hid (rkey_any d ao cap _ _ (HLX.out.1.kept HW2.out (fun _ _ _ h => h)) HLX.out.2 HLE.out.n HLE.out.s HLE.out.c)
          generalize keyD d = kd at *
          generalize (out.take i).map keyE = kl at *
          go_wp2_with fail
          refine HKEY.out.mono ?_
          rintro e w1 ⟨rfl, k1⟩
          have K1 := Lib.hid (HW2.out.trans k1 (fun _ _ h => h))
          have O1 := Lib.hid (owns_kept HO.out k1 (fun _ _ h => h))
          clear k1 c0 c1 c2 c3 c4 c5
          have hkl := HTL.out
          have hol := HOL2.out
          have HLO := Lib.hid (owns_lt O1.out)
          have hz1' := K1.out.size
          have HO3 := Lib.hid (owns_base (base' := 0) O1.out (fun _ _ => Nat.zero_le _))
          go_wp2_with (at_builtin; refine wpList_app _ rfl (.tmp 38) (.tmp 44) 30 30 rfl 9 i0 (.string ⟨#[]⟩) 1 16 Tryz.underlying30 hinf hz0 hz1 hz2 rfl _ _ _ rfl (HO3.out.alloc _) (.slice (some ⟨w1.heap.size, 0, none⟩) 1 1) 1 [.string (bs kd)] rfl (src_one Tryz.underlying30 w1 _ _ rfl) ?b1 ?b2 ?next)
          case b1 => unfold maxLen; omega
          case b2 => omega
          case next =>
            intro v' w4 ho4 hg4 hb4 _
            have hrow : ∀ k, v'.ownBlock = some k → wo.heap.size ≤ k := fun k hk => by
              rcases hb4 with hb4 | hb4
              · rw [hb4] at hk; exact (HLO.out k hk).1
              · rw [hb4] at hk; cases hk; omega
            have k4 : Kept (fun k => wo.heap.size ≤ k) w1 w4 := Kept.grown ((Kept.refl _ w1).alloc _) hg4 (fun k hk _ => (HLO.out k hk).1)
            have K4 := Lib.hid (K1.out.trans k4 (fun i hi h => absurd h (by omega)))
            have ho5 := owns_base (base' := wo.heap.size) ho4 hrow
            rw [show strs kl ++ [Value.string (bs kd)] = strs (kl ++ [kd]) by simp [strs], show kl.length + 1 = (kl ++ [kd]).length by simp, ← HTK.out] at ho5
            have HO5 := Lib.hid ho5
            clear ho4 hg4 hb4 hrow k4 ho5
            go_wp2
            go_roundg (out.length - (i + 1))
            case measure => have := HK2.out; omega
            case rel => exact ⟨i + 1, rfl, by omega, by go_num, HO5.out, K4.out⟩
        · obtain rfl : i = out.length := by omega
          have hs := HO.out
          rw [List.take_length, HKE.out] at hs
          obtain ⟨ao, cap, rfl⟩ := owns_slice hs
          have HX := Lib.hid (owns_lies hs)
          clear hs hli
          go_wp2
          go_ret
          exact ⟨ao, cap, rfl, HX.out, HW.out.trans HW2.out (fun _ _ h => h)⟩

end Go.Proofs.YtlnincdmdegaoaaGreat
