/-
  Lemmas towards the claim of this folder: contracts of the functions that the law reaches; joined texts.
-/
import Derived.Test.YtlnincdmdegaoaaGreatGTi
import Derived.Test.YtlnincdmdegaoaaGreatGOc
import Derived.Test.YtlnincdmdegaoaaGreatOk
import Derived.Test.YtlnincdmdegaoaaGreatGPg
import Derived.Test.YtlnincdmdegaoaaGreatGSu
import Derived.Test.YtlnincdmdegaoaaGreatGDh
import Derived.Test.YtlnincdmdegaoaaGreatGRd
import Derived.Test.YtlnincdmdegaoaaGreatGR1
import Derived.RegionTactic
/-
  CONTRACTS of package diff: Of, Apply (Right: Or; Fits: Oa; Turn, Keys: Ot).
-/
namespace Go.Proofs.YtlnincdmdegaoaaGreat
open Go.RowKit Go.Mk Go.Maps Go.Shelf

theorem of_take {l m : List DD} {ks : List (List UInt8)} {j : Nat} (h : j < ks.length) :
    (ks.take (j + 1)).filterMap (edK l m) = (ks.take j).filterMap (edK l m) ++ (if getK keyD ks[j] l = getK keyD ks[j] m then [] else [⟨ks[j], getK keyD ks[j] l, getK keyD ks[j] m⟩]) := by
  rw [List.take_add_one, List.getElem?_eq_getElem h, Option.toList_some, List.filterMap_append]
  congr 1
  rw [List.filterMap_cons, List.filterMap_nil]
  unfold edK
  split <;> simp_all

theorem keys_le (l : List DD) : (keysL l).length ≤ l.length := by
  have h2 : ∀ (l : List DD) (s : List (List UInt8)), Rise id s → (l.foldl (fun s d => putK id (keyD d) s) s).length ≤ s.length + l.length := by
    intro l
    induction l with
    | nil => intro s _; simp
    | cons d r ih =>
      intro s hs
      rw [List.foldl_cons]
      have h3 := ih _ (rise_putK (a := keyD d) hs)
      have h4 := putK_le (a := keyD d) hs
      simp only [List.length_cons]
      omega
  have h3 := h2 l [] List.Pairwise.nil
  unfold keysL
  simpa using h3

set_option maxHeartbeats 2000000 in
set_option maxRecDepth 100000 in
theorem dof_any (v u : Value) (l m : List DD) (w : World) (h1 : Sn w v l) (h2 : Sn w u m) (hl : l.length ≤ 1000) (hm : m.length ≤ 1000) :
    Calls Tryz.prog 46 #[v, u] w (EsQ w (ofL l m)) := by
  obtain ⟨i0, hi, hz0, hz1, hz2⟩ := info_parts Tryz.infoEdit
  obtain ⟨q1, rfl⟩ := h1.pointer
  obtain ⟨q2, rfl⟩ := h2.pointer
  have KA := Lib.hid ((Kept.refl (fun _ => False) w).alloc (.cells #[.pointer q1, .pointer q2] 26))
  have HK := Lib.hid (dkeysof_any (.pointer q1) (.pointer q2) l m w.heap.size 2 (w.alloc (.cells #[.pointer q1, .pointer q2] 26)) (h1.keep KA.out) (h2.keep KA.out) (World.cell?_alloc_new w #[.pointer q1, .pointer q2] _ 0) (World.cell?_alloc_new w #[.pointer q1, .pointer q2] _ 1) hl hm)
  have HU1 := Lib.hid (fun (key : List UInt8) (hk : key.length ≤ maxLen) (wx : World) (h : Kept (fun _ => False) w wx) => dunder_any (h1.keep h) key hk)
  have HU2 := Lib.hid (fun (key : List UInt8) (hk : key.length ≤ maxLen) (wx : World) (h : Kept (fun _ => False) w wx) => dunder_any (h2.keep h) key hk)
  have HR1 := Lib.hid (fun (key : List UInt8) (t : SD) (he : dds t.es = getK keyD key l) => show t.es.length ≤ 1 ∧ ∀ e ∈ t.es, e.1.vs.length ≤ 1000000 from
    ⟨by have h := getK_len h1.rise key; rw [← he, dds_len] at h; exact h, fun e hm => by
      have hd : e.1 ∈ getK keyD key l := by rw [← he]; exact List.mem_map_of_mem hm
      exact Nat.le_trans (right_small (h1.right _ (mem_getK.1 hd).1)).n (by omega)⟩)
  have HR2 := Lib.hid (fun (key : List UInt8) (t : SD) (he : dds t.es = getK keyD key m) => show t.es.length ≤ 1 ∧ ∀ e ∈ t.es, e.1.vs.length ≤ 1000000 from
    ⟨by have h := getK_len h2.rise key; rw [← he, dds_len] at h; exact h, fun e hm => by
      have hd : e.1 ∈ getK keyD key m := by rw [← he]; exact List.mem_map_of_mem hm
      exact Nat.le_trans (right_small (h2.right _ (mem_getK.1 hd).1)).n (by omega)⟩)
  have HKN := Lib.hid (show (keysL (l ++ m)).length ≤ 2000 by have := keys_le (l ++ m); rw [List.length_append] at this; omega)
  have HKL := Lib.hid (show ∀ k ∈ keysL (l ++ m), k.length ≤ maxLen from fun k hk => by
    obtain ⟨d, hd, rfl⟩ := mem_keys.1 hk
    have hr : rightD d = true := by rcases List.mem_append.1 hd with h | h; exact h1.right d h; exact h2.right d h
    have := key_len8 hr
    unfold maxLen; omega)
  unfold ofL
  clear h1 h2 hl hm
  generalize keysL (l ++ m) = ks at *
  go_enter Tryz.func46, Tryz.ntmps46
  go_wp2_with fail
  refine HK.out.mono ?_
  rintro e w1 ⟨ka, kc, rfl, ho, k1⟩
  have K1 := Lib.hid (KA.out.trans k1 (fun _ _ h => h))
  have LK := Lib.hid (owns_lies ho)
  clear ho k1
  go_wp2
  go_loopg [5, 14] ks.length (fun k v c wr => ∃ j q, k = ks.length - j ∧ j ≤ ks.length ∧ c = .int .i64 (j : Int) ∧ eds q = (ks.take j).filterMap (edK l m) ∧ q.length ≤ j ∧ Pa9 w1 v q wr)
  case atStart => exact ⟨0, [], rfl, Nat.zero_le _, rfl, rfl, Nat.le_refl _, Pa9.nil _ _ (Kept.refl _ _)⟩
  case round =>
    obtain ⟨j, q, hk, hj, rfl, hq, hql, hpa⟩ := hrel
    have HKJ := Lib.hid hk; have HQ := Lib.hid hq; have HQL := Lib.hid hql; have HP := Lib.hid hpa; have HKW := Lib.hid (K1.out.trans hpa.k (fun _ _ h => h))
    clear hk hq hql hpa
    by_cases hlt : j < ks.length
    · obtain ⟨xb, xo, rfl, hxb, hc⟩ := LK.out (by intro h; simp [strs] at h; rw [h] at hlt; simp at hlt)
      have hx : wr.cell? ⟨xb, xo + j, none⟩ = some (.string (bs ks[j])) := by
        have h1 := hc j (.string (bs ks[j])) (by simp [strs, hlt])
        exact (HP.out.k.cell (p := ⟨xb, xo + j, none⟩) (World.block_lt_of_cell? _ _ h1) (fun h => h)).trans h1
      have HTK := Lib.hid (of_take (l := l) (m := m) hlt)
      have HKJL := Lib.hid (HKL.out ks[j] (List.getElem_mem hlt))
      have i1 : (j : Int) < (ks.length : Int) := by omega
      clear hc
      generalize ks[j] = key at *
      have HA1 := Lib.hid (HU1.out key HKJL.out)
      have HA2 := Lib.hid (HU2.out key HKJL.out)
      have HB1 := Lib.hid (HR1.out key)
      have HB2 := Lib.hid (HR2.out key)
      generalize getK keyD key l = gl at *
      generalize getK keyD key m = gm at *
      have HLT := Lib.hid (owns_lt HP.out.own)
      have hkn := HKN.out
      go_wp2_with fail
      refine (HA1.out _ HKW.out).mono ?_
      rintro e w2 ⟨t1, rfl, et1, ft1, k2⟩
      have P2 := Lib.hid (HP.out.keep k2); have E1 := Lib.hid et1; have F1 := Lib.hid ft1
      have S2 := Lib.hid k2
      clear et1 ft1 k2 hx
      go_wp2_with fail
      refine (HA2.out _ (HKW.out.trans S2.out (fun _ _ h => h))).mono ?_
      rintro e w3 ⟨t2, rfl, et2, ft2, k3⟩
      have P3 := Lib.hid (P2.out.keep k3); have E2 := Lib.hid et2; have F2 := Lib.hid (ft2.down S2.out.size); have F13 := Lib.hid (F1.out.keep k3)
      have S3 := Lib.hid (S2.out.trans k3 (fun _ _ h => h))
      clear et2 ft2 k3
      have KB := Lib.hid ((Kept.refl (fun _ => False) w3).alloc (.cells #[.string (bs key), .slice t1.ao t1.es.length t1.cap, .slice t2.ao t2.es.length t2.cap] 85))
      have HCB := Lib.hid (ceB_new w3 key (.slice t1.ao t1.es.length t1.cap) (.slice t2.ao t2.es.length t2.cap) 85)
      have HSA := Lib.hid (dsame9_any t1.ao t1.cap t1.es t2.ao t2.cap t2.es _ _ (F13.out.keep KB.out).sd.ds (F2.out.keep KB.out).sd.ds (HB1.out t1 E1.out).2 (HB2.out t2 E2.out).2 (by have := (HB1.out t1 E1.out).1; omega))
      have HSE := Lib.hid (show sameA t1.es t2.es = decide (gl = gm) by unfold sameA; rw [E1.out, E2.out])
      obtain ⟨c0, c1, c2⟩ := HCB.out
      go_wp2_with fail
      refine HSA.out.mono ?_
      rintro e w4 ⟨rfl, k4⟩
      rw [HSE.out]
      have KC := Lib.hid (KB.out.trans k4 (fun _ _ h => h))
      have P4 := Lib.hid (P3.out.keep KC.out)
      have F24 := Lib.hid (F2.out.keep KC.out); have F14 := Lib.hid (F13.out.keep KC.out)
      have S4 := Lib.hid (S3.out.trans KC.out (fun _ _ h => h))
      have HC4 := Lib.hid (ceB_kept HCB.out k4 (fun h => h))
      clear k4 c0 c1 c2
      by_cases hs : gl = gm
      · rw [decide_eq_true hs]
        have HE := Lib.hid (show eds q = (ks.take (j + 1)).filterMap (edK l m) by rw [HTK.out, if_pos hs, List.append_nil]; exact HQ.out)
        clear hs
        go_wp2
        go_roundg (ks.length - (j + 1))
        case measure => have := HKJ.out; omega
        case rel => exact ⟨j + 1, q, rfl, by omega, by go_num, HE.out, by have := HQL.out; omega, P4.out⟩
      · rw [decide_eq_false hs]
        have HE := Lib.hid (show eds (q ++ [⟨key, t1, t2⟩]) = (ks.take (j + 1)).filterMap (edK l m) by rw [HTK.out, if_neg hs, ← HQ.out]; simp [eds, edE, E1.out, E2.out])
        have hql := HQL.out
        clear hs
        obtain ⟨c0, c1, c2⟩ := HC4.out
        go_wp2_with (at_builtin; refine wpList_app _ rfl (.tmp 32) (.tmp 34) 82 82 rfl 85 i0 (.agg #[.string ⟨#[]⟩, .slice none 0 0, .slice none 0 0]) 3 64 Tryz.underlying82 hi hz0 hz1 hz2 rfl _ _ _ rfl ((owns_base (base' := 0) P4.out.own (fun _ _ => Nat.zero_le _)).alloc _) (.slice (some ⟨w4.heap.size, 0, none⟩) 1 1) 1 (cellsP1 ⟨key, t1, t2⟩) rfl (src_ed w4 ⟨key, t1, t2⟩ _) ?b1 ?b2 ?next)
        case b1 => unfold maxLen; omega
        case b2 => have := HKN.out; omega
        case next =>
          intro v' w5 ho5 hg5 hb5 _
          have P5 := Lib.hid (P4.out.app ⟨key, t1, t2⟩ ⟨F14.out.apart (fun k hk => (HLT.out k hk).2), F24.out.apart (fun k hk => (HLT.out k hk).2)⟩ ((Kept.refl (fun _ => False) w4).alloc _) ho5 hg5 (by rw [World.size_alloc]; exact hb5))
          clear ho5 hg5 hb5 c0 c1 c2
          go_wp2
          go_roundg (ks.length - (j + 1))
          case measure => have := HKJ.out; omega
          case rel => exact ⟨j + 1, _, rfl, by omega, by go_num, HE.out, by have := HQL.out; simp; omega, P5.out⟩
    · obtain rfl : j = ks.length := by omega
      have hs := HQ.out
      rw [List.take_length] at hs
      have HX := Lib.hid hs
      obtain ⟨pa, pc, rfl⟩ := owns_slice HP.out.own
      clear hs hlt
      go_wp2
      go_ret
      exact ⟨pa, pc, q, rfl, HX.out, owns_es HP.out.own (fun e he => ⟨(HP.out.sd e he).1.sd, (HP.out.sd e he).2.sd⟩), HKW.out⟩

theorem news_take {p : List EE} {j : Nat} (h : j < p.length) : ((eds p).take (j + 1)).flatMap ED.new = ((eds p).take j).flatMap ED.new ++ dds p[j].new.es := by
  rw [eds_take p j h, List.flatMap_append]
  simp [edE]

theorem NwPost.down {w w0 : World} {r : Int × List DD} {e : Ending} {w' : World} (h : NwPost w r e w') (hk : Kept (fun _ => False) w0 w) : NwPost w0 r e w' := by
  obtain ⟨v, h1, h2, h3, h4, h5⟩ := h
  exact ⟨v, h1, h2, h3, h4, hk.trans h5 (fun _ _ h => h)⟩

end Go.Proofs.YtlnincdmdegaoaaGreat

/-
  How a snapshot is parsed, over lists (plain).
-/
namespace Go.Proofs.YtlnincdmdegaoaaGreat
open Go.RowKit Go.Mk Go.Maps

def lastK : List DD → List UInt8
  | [] => []
  | [d] => keyD d
  | _ :: y :: r => lastK (y :: r)

theorem lastK_snoc : ∀ (l : List DD) (d : DD), lastK (l ++ [d]) = keyD d
  | [], _ => rfl
  | [_], _ => rfl
  | _ :: y :: r, d => lastK_snoc (y :: r) d

/-- n definitions more, each behind the last. -/
def parseN : Nat → RS → List DD → Int × List DD × RS
  | 0, s, acc => (0, acc, s)
  | n + 1, s, acc => if (judgeR (fieldsR s)).2 ≠ 0 then ((judgeR (fieldsR s)).2, [], s) else if lastK acc < keyD (judgeR (fieldsR s)).1 then parseN n (fieldsR s).1 (acc ++ [(judgeR (fieldsR s)).1]) else (32, [], s)

def finP (r : Int × List DD × RS) : Int × List DD := if r.1 ≠ 0 then (r.1, []) else if r.2.2.endE ≠ 0 then (r.2.2.endE, []) else (0, r.2.1)

def parseL (l : List UInt8) : Int × List DD :=
  if (RS.num ⟨l, 0⟩).1.err ≠ 0 then ((RS.num ⟨l, 0⟩).1.err, [])
  else if 500 < (RS.num ⟨l, 0⟩).2 then (21, [])
  else finP (parseN (RS.num ⟨l, 0⟩).2.toNat (RS.num ⟨l, 0⟩).1 [])

theorem judge_ok {r : RS × DD} (h : (judgeR r).2 = 0) : r.1.err = 0 ∧ rightD r.2 = true ∧ (judgeR r).1 = r.2 := by
  unfold judgeR at h ⊢
  by_cases h1 : r.1.err ≠ 0
  · rw [if_pos h1] at h; exact (h1 h).elim
  · rw [if_neg h1] at h ⊢
    by_cases h2 : rightD r.2 = true
    · rw [if_pos h2]; exact ⟨by omega, h2, rfl⟩
    · rw [if_neg h2] at h; exact absurd h (by decide)

/-- All keys lie below one that is behind the last. -/
theorem rise_last : ∀ {m : List Ent} {k : List UInt8}, Rise keyE m → lastK (dds m) < k → ∀ y ∈ m, keyE y < k
  | [], _, _, _, y, hy => absurd hy List.not_mem_nil
  | [x], k, _, h, y, hy => by
    rw [List.mem_singleton] at hy
    subst hy
    exact h
  | x :: z :: r, k, hr, h, y, hy => by
    obtain ⟨h1, h2⟩ := rise_cons.1 hr
    have ih := rise_last (m := z :: r) (k := k) h2 h
    rcases List.mem_cons.1 hy with rfl | hy
    · exact lt_tr (h1 z (by simp)) (ih z (by simp))
    · exact ih y hy

theorem putK_last {x : Ent} : ∀ {m : List Ent}, (∀ y ∈ m, keyE y < keyE x) → putK keyE x m = m ++ [x]
  | [], _ => rfl
  | y :: r, h => by
    have h1 := h y (by simp)
    have ih := putK_last (x := x) (m := r) (fun z hz => h z (by simp [hz]))
    have h2 : ¬ keyE x = keyE y := fun e => lt_ne h1 e.symm
    unfold putK
    rw [if_neg (lt_asy h1), if_neg h2, ih]
    rfl

end Go.Proofs.YtlnincdmdegaoaaGreat

/-
  CONTRACTS of the reference's Reader.
-/
namespace Go.Proofs.YtlnincdmdegaoaaGreat
open Go.RowKit Go.Mk

theorem wrap_u64_in (n : Nat) (h : n < 18446744073709551616) : IntKind.u64.wrap (n : Int) = (n : Int) := by rw [IntKind.wrap_u64]; omega

theorem val_wrap (n : Nat) (x : UInt8) (h : n * 256 + 256 ≤ 18446744073709551616) : IntKind.u64.wrap ((n : Int) * 256 + IntKind.u64.wrap (x.toNat : Int)) = ((n * 256 + x.toNat : Nat) : Int) := by
  have h1 := x.toNat_lt
  rw [wrap_u64_in _ (by omega), show (n : Int) * 256 + (x.toNat : Int) = ((n * 256 + x.toNat : Nat) : Int) by omega, wrap_u64_in _ (by omega)]

/-- The reference's Reader at block b. -/
structure Mr (w : World) (b : Nat) (s : RS) : Prop where
  c0 : w.cell? ⟨b, 0, none⟩ = some (.string (bs s.rest))
  c1 : w.cell? ⟨b, 1, none⟩ = some (.int .i64 s.err)
  f0 : w.frozen? ⟨b, 0, none⟩ = false
  f1 : w.frozen? ⟨b, 1, none⟩ = false

theorem Mr.lt {w : World} {b : Nat} {s : RS} (h : Mr w b s) : b < w.heap.size := World.block_lt_of_cell? _ _ h.c0
theorem Mr.put0 {w : World} {b : Nat} {s : RS} (h : Mr w b s) (l : List UInt8) : Mr (w.setCell ⟨b, 0, none⟩ (.string (bs l))) b ⟨l, s.err⟩ := by
  refine ⟨World.cell?_setCell_same _ _ _ h.c0, ?_, ?_, ?_⟩
  · rw [World.cell?_setCell_other _ _ _ _ (by simp)]; exact h.c1
  · rw [World.frozen?_setCell]; exact h.f0
  · rw [World.frozen?_setCell]; exact h.f1
theorem Mr.put1 {w : World} {b : Nat} {s : RS} (h : Mr w b s) (e : Int) : Mr (w.setCell ⟨b, 1, none⟩ (.int .i64 e)) b ⟨s.rest, e⟩ := by
  refine ⟨?_, World.cell?_setCell_same _ _ _ h.c1, ?_, ?_⟩
  · rw [World.cell?_setCell_other _ _ _ _ (by simp)]; exact h.c0
  · rw [World.frozen?_setCell]; exact h.f0
  · rw [World.frozen?_setCell]; exact h.f1
theorem Mr.kept {S : Nat → Prop} {w w' : World} {b : Nat} {s : RS} (h : Mr w b s) (hk : Kept S w w') (hb : ¬ S b) : Mr w' b s := by
  have hlt := h.lt
  exact ⟨(hk.cell (p := ⟨b, 0, none⟩) hlt hb).trans h.c0, (hk.cell (p := ⟨b, 1, none⟩) hlt hb).trans h.c1, (hk.frozen (p := ⟨b, 0, none⟩) hlt hb).trans h.f0, (hk.frozen (p := ⟨b, 1, none⟩) hlt hb).trans h.f1⟩

def MrPost (w : World) (b : Nat) (v : Value) (s' : RS) (e : Ending) (w' : World) : Prop := e = .returned v ∧ Mr w' b s' ∧ Kept (fun k => k = b) w w'

theorem bs_takeM (l : List UInt8) (k : Nat) : (bs l).extract 0 k = bs (l.take k) := by
  apply ByteArray.ext
  simp [bs, ByteArray.data_extract]
theorem bs_drop (l : List UInt8) (k : Nat) : (bs l).extract k (bs l).size = bs (l.drop k) := by
  apply ByteArray.ext
  simp [bs, ByteArray.data_extract, ByteArray.size]
  exact List.take_of_length_le (by simp)

end Go.Proofs.YtlnincdmdegaoaaGreat
