/-
  Lemmas towards the claim of this folder: contracts of the functions that the law reaches; joined texts.
-/
import Derived.Test.YtjnpmbdehalmpaaGreatGRs
import Derived.RegionTactic
import Derived.BigRegion
/-
  CONTRACTS of the reference's Reader.
-/
namespace Go.Proofs.YtjnpmbdehalmpaaGreat
open Go.RowKit Go.Mk

theorem wrap_u64_in (n : Nat) (h : n < 18446744073709551616) : IntKind.u64.wrap (n : Int) = (n : Int) := by rw [IntKind.wrap_u64]; omega

theorem val_wrap (n : Nat) (x : UInt8) (h : n * 256 + 256 ≤ 18446744073709551616) : IntKind.u64.wrap ((n : Int) * 256 + IntKind.u64.wrap (x.toNat : Int)) = ((n * 256 + x.toNat : Nat) : Int) := by
  have h1 := x.toNat_lt
  rw [wrap_u64_in _ (by omega), show (n : Int) * 256 + (x.toNat : Int) = ((n * 256 + x.toNat : Nat) : Int) by omega, wrap_u64_in _ (by omega)]

set_option maxHeartbeats 400000 in
theorem value_any (l : List UInt8) (w : World) (hl : l.length ≤ 8) :
    Calls Tryz.prog 90 #[.string (bs l)] w fun e w' => e = .returned (.int .u64 (natB l)) ∧ w = w' := by
  have es : (bs l).size = l.length := rfl
  have hs : (bs l).size ≤ 8 := hl
  have ES := Lib.hid es; clear es
  go_enter Tryz.func90, Tryz.ntmps90
  go_wp2
  go_loopg [3, 4] l.length (fun k n c wr => ∃ j, k = l.length - j ∧ j ≤ l.length ∧ c = .int .i64 (j : Int) ∧ n = .int .u64 (natB (l.take j)) ∧ w = wr)
  case atStart => exact ⟨0, rfl, Nat.zero_le _, rfl, rfl, rfl⟩
  case round =>
    obtain ⟨j, hk, hj, rfl, rfl, rfl⟩ := hrel
    have HK := Lib.hid hk; clear hk
    by_cases hlt : j < l.length
    · have hlt2 : j < (bs l).size := hlt
      generalize hn : natB (l.take j) = n
      have hn2 := natB_lt (l.take j)
      have hn3 : (256 : Nat) ^ (l.take j).length ≤ 256 ^ 7 := Nat.pow_le_pow_right (by omega) (by simp; omega)
      rw [hn] at hn2
      have hn4 : n * 256 + 256 ≤ 18446744073709551616 := by have : (256 : Nat) ^ 7 = 72057594037927936 := rfl; omega
      have HN := Lib.hid hn; clear hn hn2 hn3
      have HWW := Lib.hid (val_wrap n (bs l)[j] hn4)
      go_wp2
      go_roundg (l.length - (j + 1))
      case measure => have := HK.out; omega
      case rel =>
        refine ⟨j + 1, rfl, by omega, by go_num, ?_, rfl⟩
        rw [HWW.out]
        congr 2
        rw [List.take_add_one, List.getElem?_eq_getElem hlt, Option.toList_some, natB_snoc, HN.out]
        rfl
    · have hge : (bs l).size ≤ j := by have := ES.out; omega
      go_wp2
      go_ret
      exact ⟨by rw [List.take_of_length_le (by omega)]; rfl, rfl⟩

/-- The reference's Reader at block b. -/
structure Mr (w : World) (b : Nat) (s : RS) : Prop where
  c0 : w.cell? ⟨b, 0, none⟩ = some (.string (bs s.rest))
  c1 : w.cell? ⟨b, 1, none⟩ = some (.int .i64 s.err)
  f0 : w.frozen? ⟨b, 0, none⟩ = false
  f1 : w.frozen? ⟨b, 1, none⟩ = false

theorem Mr.lt {w : World} {b : Nat} {s : RS} (h : Mr w b s) : b < w.heap.size := World.block_lt_of_cell? _ _ h.c0
theorem Mr.put0 {w : World} {b : Nat} {s : RS} (h : Mr w b s) (l : List UInt8) : Mr (w.setCell ⟨b, 0, none⟩ (.string (bs l))) b ⟨l, s.err⟩ := by
  refine ⟨World.cell?_setCell_same _ _ _ h.c0, ?_, ?_, ?_⟩
  · rw [World.cell?_setCell_other _ _ _ _ (by simp)]; exact h.c1
  · rw [World.frozen?_setCell]; exact h.f0
  · rw [World.frozen?_setCell]; exact h.f1
theorem Mr.put1 {w : World} {b : Nat} {s : RS} (h : Mr w b s) (e : Int) : Mr (w.setCell ⟨b, 1, none⟩ (.int .i64 e)) b ⟨s.rest, e⟩ := by
  refine ⟨?_, World.cell?_setCell_same _ _ _ h.c1, ?_, ?_⟩
  · rw [World.cell?_setCell_other _ _ _ _ (by simp)]; exact h.c0
  · rw [World.frozen?_setCell]; exact h.f0
  · rw [World.frozen?_setCell]; exact h.f1
theorem Mr.kept {S : Nat → Prop} {w w' : World} {b : Nat} {s : RS} (h : Mr w b s) (hk : Kept S w w') (hb : ¬ S b) : Mr w' b s := by
  have hlt := h.lt
  exact ⟨(hk.cell (p := ⟨b, 0, none⟩) hlt hb).trans h.c0, (hk.cell (p := ⟨b, 1, none⟩) hlt hb).trans h.c1, (hk.frozen (p := ⟨b, 0, none⟩) hlt hb).trans h.f0, (hk.frozen (p := ⟨b, 1, none⟩) hlt hb).trans h.f1⟩

def MrPost (w : World) (b : Nat) (v : Value) (s' : RS) (e : Ending) (w' : World) : Prop := e = .returned v ∧ Mr w' b s' ∧ Kept (fun k => k = b) w w'

theorem bs_takeM (l : List UInt8) (k : Nat) : (bs l).extract 0 k = bs (l.take k) := by
  apply ByteArray.ext
  simp [bs, ByteArray.data_extract]
theorem bs_drop (l : List UInt8) (k : Nat) : (bs l).extract k (bs l).size = bs (l.drop k) := by
  apply ByteArray.ext
  simp [bs, ByteArray.data_extract, ByteArray.size]
  exact List.take_of_length_le (by simp)

set_option maxHeartbeats 400000 in
theorem mnum_any (b : Nat) (s : RS) (w : World) (h : Mr w b s) (hl : s.rest.length ≤ 1099511627776) :
    Calls Tryz.prog 52 #[.pointer (some ⟨b, 0, none⟩)] w (MrPost w b (.int .i64 s.num.2) s.num.1) := by
  have c0 := h.c0
  have c1 := h.c1
  have f0 := h.f0
  have f1 := h.f1
  have H := Lib.hid h; clear h
  have es : (bs s.rest).size = s.rest.length := rfl
  by_cases he : s.err = 0
  · have he1 : (s.err != 0) = false := by simp [he]
    by_cases h4 : s.rest.length < 4
    · have e : s.num = (⟨s.rest, 10⟩, 0) := by simp [RS.num, he, h4]
      have E := Lib.hid e; clear e he
      have z4 : (bs s.rest).size < 4 := h4
      clear es
      go_enter Tryz.func52, Tryz.ntmps52
      go_wp2
      go_ret
      rw [E.out]
      exact ⟨rfl, H.out.put1 10, Kept.setCell (p := ⟨b, 1, none⟩) (Kept.refl (fun k => k = b) w) (fun _ => rfl) _⟩
    · have z4 : ¬ (bs s.rest).size < 4 := h4
      have hlt := natB_lt (s.rest.take 4)
      rw [show (s.rest.take 4).length = 4 by simp; omega] at hlt
      have hv := value_any (s.rest.take 4) w (by simp; omega)
      generalize hn : natB (s.rest.take 4) = n at *
      have hlt' : n < 4294967296 := hlt
      have HV := Lib.hid hv; have HN := Lib.hid hn; have HE := Lib.hid he; clear hv hn he hlt
      have bt := bs_takeM s.rest 4
      have bd := bs_drop s.rest 4
      have BT := Lib.hid bt; have BD := Lib.hid bd; have ES := Lib.hid es; clear bt bd es
      by_cases hb31 : 2147483647 < n
      · have e : s.num = (⟨s.rest, 11⟩, 0) := by simp [RS.num, HE.out, h4, HN.out, hb31]
        have E := Lib.hid e; clear e
        go_enter Tryz.func52, Tryz.ntmps52
        go_wp2_with fail
        rw [BT.out]
        refine HV.out.mono ?_
        rintro e w1 ⟨rfl, rfl⟩
        go_wp2
        go_ret
        rw [E.out]
        exact ⟨rfl, H.out.put1 11, Kept.setCell (p := ⟨b, 1, none⟩) (Kept.refl (fun k => k = b) w) (fun _ => rfl) _⟩
      · have e : s.num = ((⟨s.rest.drop 4, 0⟩ : RS), (n : Int)) := by simp [RS.num, HE.out, h4, HN.out, hb31]
        have E := Lib.hid e; clear e
        have fin := H.out.put0 (s.rest.drop 4)
        rw [HE.out] at fin
        have FIN := Lib.hid fin; clear fin
        go_enter Tryz.func52, Tryz.ntmps52
        go_wp2_with fail
        rw [BT.out]
        refine HV.out.mono ?_
        rintro e w1 ⟨rfl, rfl⟩
        go_wp2
        go_ret
        rw [E.out, BD.out]
        exact ⟨rfl, FIN.out, Kept.setCell (p := ⟨b, 0, none⟩) (Kept.refl (fun k => k = b) w) (fun _ => rfl) _⟩
  · have he1 : (s.err != 0) = true := by simp [he]
    have e : s.num = (s, 0) := by simp [RS.num, he]
    have E := Lib.hid e; clear e es
    go_enter Tryz.func52, Tryz.ntmps52
    go_wp2
    go_ret
    rw [E.out]
    exact ⟨rfl, H.out, Kept.refl _ _⟩

end Go.Proofs.YtjnpmbdehalmpaaGreat

/-
  CONTRACTS of the reference's Reader: Text, Texts.
-/
namespace Go.Proofs.YtjnpmbdehalmpaaGreat
open Go.RowKit Go.Mk

set_option maxHeartbeats 400000 in
theorem mtext_any (b : Nat) (s : RS) (w : World) (h : Mr w b s) (hl : s.rest.length ≤ 1099511627776) :
    Calls Tryz.prog 53 #[.pointer (some ⟨b, 0, none⟩)] w (MrPost w b (.string (bs s.text.2)) s.text.1) := by
  have c0 := h.c0
  have c1 := h.c1
  have f0 := h.f0
  have f1 := h.f1
  have hlt := h.lt
  have hnc := s.num_cases
  have ht : s.text = if s.num.1.err ≠ 0 then (⟨s.rest, s.num.1.err⟩, []) else if s.num.1.rest.length < s.num.2.toNat then (⟨s.rest, 10⟩, []) else (⟨s.num.1.rest.drop s.num.2.toNat, 0⟩, s.num.1.rest.take s.num.2.toNat) := rfl
  have HT := Lib.hid ht; have HNC := Lib.hid hnc; have H := Lib.hid h; clear ht hnc h
  go_enter Tryz.func53, Tryz.ntmps53
  go_wp2_with fail
  go_region
  go_wp2_with fail
  have hx : Mr (w.alloc (.cells #[.string (bs s.rest), .int .i64 s.err] 80)).drew w.heap.size s := ⟨by simp, by simp, by simp, by simp⟩
  have hk0 : Kept (fun _ => False) w (w.alloc (.cells #[.string (bs s.rest), .int .i64 s.err] 80)).drew := ((Kept.refl _ w).alloc _).drew
  have hb0 := H.out.kept hk0 (fun h => h)
  refine (mnum_any w.heap.size s _ hx hl).mono ?_
  rintro e w1 ⟨rfl, h1, k1⟩
  have hb1 := hb0.kept k1 (by omega)
  have k01 : Kept (fun k => k = b) w w1 := Kept.trans (S := fun k => k = b) (hk0.mono (fun _ _ h => h.elim)) k1 (fun i hi h => by omega)
  have p0 := hb1.c0
  have p1 := hb1.c1
  have p2 := hb1.f0
  have p3 := hb1.f1
  have HB1 := Lib.hid hb1; have K01 := Lib.hid k01
  clear hx hk0 hb0 k1 hb1 k01 c0 c1 f0 f1
  generalize s.num = q at *
  obtain ⟨s1, n⟩ := q
  have d0 := h1.c0
  have d1 := h1.c1
  have d2 := h1.f0
  have d3 := h1.f1
  have hne : ¬ b = w.heap.size := by omega
  have H1 := Lib.hid h1; clear h1
  rcases HNC.out with ⟨he, hq⟩ | ⟨he, hl4, m, hm, hq⟩
  · simp only [Prod.mk.injEq] at hq
    obtain ⟨hq1, rfl⟩ := hq
    have he1 : (s1.err == 0) = false := by simpa using he
    have he2 : (s1.err != 0) = true := by simpa using he
    have e : s.text = (⟨s.rest, s1.err⟩, []) := by rw [HT.out]; simp [he]
    have E := Lib.hid e; clear e hq1 he
    go_wp2
    go_ret
    rw [E.out]
    exact ⟨rfl, HB1.out.put1 _, Kept.setCell (p := ⟨b, 1, none⟩) K01.out (fun _ => rfl) _⟩
  · simp only [Prod.mk.injEq] at hq
    obtain ⟨rfl, rfl⟩ := hq
    simp only at d0 d1
    have hrl : (s.rest.drop 4).length ≤ 1099511627776 := by simp; omega
    generalize s.rest.drop 4 = r at *
    have es : (bs r).size = r.length := rfl
    by_cases hs : r.length < m
    · have e : s.text = (⟨s.rest, 10⟩, []) := by rw [HT.out]; simp [hs]
      have E := Lib.hid e; clear e he
      have hs' : (((bs r).size : Nat) : Int) < (m : Int) := by rw [es]; omega
      clear es
      go_wp2
      go_ret
      rw [E.out]
      have kx : Kept (fun k => k = w.heap.size) w1 (w1.setCell ⟨w.heap.size, 1, none⟩ (.int .i64 10)) := Kept.setCell (p := ⟨w.heap.size, 1, none⟩) (Kept.refl (fun k => k = w.heap.size) w1) (fun _ => rfl) _
      exact ⟨rfl, (HB1.out.kept kx hne).put1 10, Kept.setCell (p := ⟨b, 1, none⟩) (Kept.setCell (p := ⟨w.heap.size, 1, none⟩) K01.out (fun h => absurd h (Nat.lt_irrefl _)) _) (fun _ => rfl) _⟩
    · have e : s.text = (⟨r.drop m, 0⟩, r.take m) := by rw [HT.out]; simp [hs]
      have E := Lib.hid e; have HE := Lib.hid he; clear e he
      have hs1 : (m : Int) ≤ (((bs r).size : Nat) : Int) := by rw [es]; omega
      have hs2 : (m : Int) ≤ (r.length : Int) := by omega
      have BT := Lib.hid (bs_takeM r m); have BD := Lib.hid (bs_drop r m)
      clear es
      have fin := HB1.out.put0 (r.drop m)
      rw [HE.out] at fin
      have FIN := Lib.hid fin; clear fin
      go_wp2
      go_ret
      rw [E.out, BD.out]
      exact ⟨by rw [← BT.out]; rfl, FIN.out, Kept.setCell (p := ⟨b, 0, none⟩) K01.out (fun _ => rfl) _⟩

/-- What Texts leaves. -/
def MtPost (w : World) (b : Nat) (l : List (List UInt8)) (s' : RS) (e : Ending) (w' : World) : Prop :=
  (∃ ao cap, e = .returned (.slice ao l.length cap) ∧ w'.ownsRow w.heap.size 9 1 (.slice ao l.length cap) l.length (strs l)) ∧ Mr w' b s' ∧ Kept (fun k => k = b) w w'

theorem many_len (n : Nat) (s : RS) : (RS.many n s).1.rest.length ≤ s.rest.length := by
  induction n generalizing s with
  | zero => exact Nat.le_refl _
  | succ n ih =>
    unfold RS.many
    split
    · exact Nat.le_refl _
    · have h1 := ih s.text.1
      have h2 : s.text.1.rest.length ≤ s.rest.length := by
        have : s.num.1.rest.length ≤ s.rest.length := by
          unfold RS.num; split; exact Nat.le_refl _; split; exact Nat.le_refl _; split; exact Nat.le_refl _; simp
        unfold RS.text; split; simp; split; simp; simp; omega
      simp only
      omega

set_option maxHeartbeats 400000 in
set_option maxRecDepth 100000 in
theorem mtexts_any (b : Nat) (s : RS) (w : World) (h : Mr w b s) (hl : s.rest.length ≤ 1099511627776) :
    Calls Tryz.prog 54 #[.pointer (some ⟨b, 0, none⟩)] w (MtPost w b s.texts.2 s.texts.1) := by
  obtain ⟨i0, hi, iz0, iz1, iz2⟩ := info_parts Tryz.infoStr
  have c0 := h.c0
  have c1 := h.c1
  have f0 := h.f0
  have f1 := h.f1
  have hlt := h.lt
  have hnc := s.num_cases
  have ht : s.texts = if (RS.many s.num.2.toNat s.head).1.err ≠ 0 then (⟨s.rest, (RS.many s.num.2.toNat s.head).1.err⟩, []) else RS.many s.num.2.toNat s.head := rfl
  have hh : s.head = if s.num.1.tooMany s.num.2 then ⟨s.num.1.rest, 10⟩ else s.num.1 := rfl
  have HT := Lib.hid ht; have HNC := Lib.hid hnc; have HH := Lib.hid hh; have H := Lib.hid h; clear ht hnc hh h
  go_enter Tryz.func54, Tryz.ntmps54
  go_wp2_with fail
  go_region
  go_wp2_with fail
  have hx : Mr (w.alloc (.cells #[.string (bs s.rest), .int .i64 s.err] 80)).drew w.heap.size s := ⟨by simp, by simp, by simp, by simp⟩
  have hk0 : Kept (fun _ => False) w (w.alloc (.cells #[.string (bs s.rest), .int .i64 s.err] 80)).drew := ((Kept.refl _ w).alloc _).drew
  refine (mnum_any w.heap.size s _ hx hl).mono ?_
  rintro e w1 ⟨rfl, h1, k1⟩
  have k01 : Kept (fun _ => False) w w1 := Kept.trans hk0 k1 (fun i hi h => by omega)
  have K01 := Lib.hid k01
  have hzz := k1.size
  simp at hzz
  clear hx hk0 k1 k01 c0 c1 f0 f1
  generalize s.num = q at *
  obtain ⟨s1, n⟩ := q
  have d0 := h1.c0
  have d1 := h1.c1
  have d2 := h1.f0
  have d3 := h1.f1
  have hne : ¬ b = w.heap.size := by omega
  have H1 := Lib.hid h1; clear h1
  go_upto_region 3 with fail
  go_cut [30] (fun v wx => v = .bool (s1.tooMany n) ∧ w1 = wx)
  case first =>
    have es : (bs s1.rest).size = s1.rest.length := rfl
    by_cases he : s1.err = 0
    · have he1 : (s1.err == 0) = true := by simp [he]
      by_cases hA : 1000000 < n
      · have e : s1.tooMany n = true := by simp [RS.tooMany, he, hA]
        have E := Lib.hid e; clear e he es
        have hA' : decide (1000000 < n) = true := by simp [hA]
        go_wp2_with fail
        go_meet
        case rel => exact ⟨by rw [E.out], rfl⟩
      · have hA' : decide (1000000 < n) = false := by simp [hA]
        by_cases hB : (s1.rest.length : Int) < n
        · have hB' : (((bs s1.rest).size : Nat) : Int) < n := by rw [es]; exact hB
          have e : s1.tooMany n = true := by simp [RS.tooMany, he, hB]
          have E := Lib.hid e; clear e he es
          go_wp2_with fail
          go_meet
          case rel => exact ⟨by rw [E.out], rfl⟩
        · have hB' : ¬ (((bs s1.rest).size : Nat) : Int) < n := by rw [es]; exact hB
          have e : s1.tooMany n = false := by simp [RS.tooMany, he, hA, hB]
          have E := Lib.hid e; clear e he es
          go_wp2_with fail
          go_meet
          case rel => exact ⟨by rw [E.out], rfl⟩
    · have he1 : (s1.err == 0) = false := by simp [he]
      have e : s1.tooMany n = false := by simp [RS.tooMany, he]
      have E := Lib.hid e; clear e he es
      go_wp2_with fail
      go_meet
      case rel => exact ⟨by rw [E.out], rfl⟩
  case rest =>
    obtain ⟨rfl, rfl⟩ := hcut
    go_upto_if 30 with fail
    go_cut [] (fun wx => Mr wx w.heap.size s.head ∧ Kept (fun _ => False) w wx ∧ w.heap.size < wx.heap.size)
    case first =>
      by_cases hB : s1.tooMany n = true
      · have hh := HH.out
        rw [if_pos hB] at hh
        have HHH := Lib.hid hh; clear hh
        rw [hB]
        go_wp2_with fail
        go_meet
        case rel => exact ⟨by rw [HHH.out]; exact H1.out.put1 10, Kept.setCell (p := ⟨w.heap.size, 1, none⟩) K01.out (fun h => absurd h (Nat.lt_irrefl _)) _, by simp [World.setCell]; omega⟩
      · have hB1 : s1.tooMany n = false := by simpa using hB
        have hh := HH.out
        rw [if_neg hB] at hh
        have HHH := Lib.hid hh; clear hh hB
        rw [hB1]
        go_wp2_with fail
        go_meet
        case rel => exact ⟨by rw [HHH.out]; exact H1.out, K01.out, by omega⟩
    case rest =>
      clear d0 d1 d2 d3 hzz
      obtain ⟨h2, k2, hz2⟩ := hcut
      have hn : 0 ≤ n ∧ n ≤ 2147483647 := by
        rcases HNC.out with ⟨_, hq⟩ | ⟨_, _, m, hm, hq⟩
        · simp only [Prod.mk.injEq] at hq; omega
        · simp only [Prod.mk.injEq] at hq; omega
      have hsl : s.head.rest.length ≤ 1099511627776 := by
        have : s1.rest.length ≤ s.rest.length := by
          rcases HNC.out with ⟨_, hq⟩ | ⟨_, _, m, hm, hq⟩
          · simp only [Prod.mk.injEq] at hq; rw [hq.1]; exact Nat.le_refl _
          · simp only [Prod.mk.injEq] at hq; rw [hq.1]; simp
        rw [HH.out]; split <;> (show s1.rest.length ≤ _; omega)
      obtain ⟨hn0, hn1⟩ := hn
      obtain ⟨m, rfl⟩ := Int.eq_ofNat_of_zero_le hn0
      rw [Int.toNat_natCast] at HT
      generalize s.head = s0 at *
      have H2 := Lib.hid h2; have K2 := Lib.hid k2; clear h2 k2
      go_wp2
      go_loopg [5, 6] m (fun k l c wr => ∃ j s' done, k = m - j ∧ j ≤ m ∧ c = .int .i64 (j : Int) ∧ wr.ownsRow (w.heap.size + 1) 9 1 l j (strs done) ∧ Mr wr w.heap.size s' ∧ s'.rest.length ≤ 1099511627776 ∧ (RS.many (m - j) s').1 = (RS.many m s0).1 ∧ done ++ (RS.many (m - j) s').2 = (RS.many m s0).2 ∧ Kept (fun _ => False) w wr)
      case atStart => exact ⟨0, s0, [], rfl, Nat.zero_le _, rfl, World.ownsRow_nil _ _ _ _, H2.out, hsl, rfl, rfl, K2.out⟩
      case round =>
        obtain ⟨j, s', done, hk, hj, rfl, hown, hr, hrl, hm1, hm2, hkp⟩ := hrel
        have e0 := hr.c0
        have e1 := hr.c1
        have q0 := hr.f0
        have HK := Lib.hid hk; have HO := Lib.hid hown; have HR := Lib.hid hr; have HM1 := Lib.hid hm1; have HM2 := Lib.hid hm2; have HKP := Lib.hid hkp
        clear hk hown hr hm1 hm2 hkp
        by_cases hlt : j < m ∧ s'.err = 0
        · obtain ⟨hlt, he⟩ := hlt
          have he1 : (s'.err == 0) = true := by simp [he]
          have HE := Lib.hid he; clear he
          go_wp2_with fail
          refine (mtext_any w.heap.size s' wr HR.out hrl).mono ?_
          rintro e w3 ⟨rfl, h3, k3⟩
          have ho3 := owns_base (base' := 0) (owns_kept HO.out k3 (fun k hk e => by have := (owns_lt HO.out k hk).1; omega)) (fun _ _ => Nat.zero_le _)
          have hlo := owns_lt HO.out
          have hz3 := HKP.out.size
          have hz4 := k3.size
          have hrlt := HR.out.lt
          have H3 := Lib.hid h3; have K3 := Lib.hid k3; have HLO := Lib.hid hlo; have HO3 := Lib.hid ho3; clear h3 k3 hlo ho3
          go_wp2_with (at_builtin; refine wpList_app _ rfl (.tmp 42) (.tmp 44) 22 22 rfl 9 i0 (.string ⟨#[]⟩) 1 16 Tryz.underlying22 hi iz0 iz1 iz2 rfl _ _ _ rfl (HO3.out.alloc _) (.slice (some ⟨w3.heap.size, 0, none⟩) 1 1) 1 [.string (bs s'.text.2)] rfl (src_one Tryz.underlying22 w3 _ _ rfl) ?b1 ?b2 ?next)
          case b1 => unfold maxLen; omega
          case b2 => omega
          case next =>
            intro v' w4 ho4 hg4 hb4 _
            obtain ⟨ao4, cap4, rfl⟩ := owns_slice ho4
            have hrow : ∀ k, (Value.slice ao4 (j + 1) cap4).ownBlock = some k → w.heap.size + 1 ≤ k := fun k hk => by
              rcases hb4 with hb4 | hb4
              · rw [hb4] at hk; exact (HLO.out k hk).1
              · rw [hb4] at hk; cases hk; omega
            have k4 : Kept (fun k => w.heap.size + 1 ≤ k) w3 w4 := Kept.grown ((Kept.refl _ w3).alloc _) hg4 (fun k hk _ => (HLO.out k hk).1)
            have k5 : Kept (fun _ => False) w w4 := (HKP.out.trans K3.out (fun i hi h => by omega)).trans k4 (fun i hi h => by omega)
            have hrd := H3.out.kept k4 (by omega)
            have hsplit : (RS.many (m - (j + 1)) s'.text.1).1 = (RS.many m s0).1 ∧ (done ++ [s'.text.2]) ++ (RS.many (m - (j + 1)) s'.text.1).2 = (RS.many m s0).2 := by
              have h1 := HM1.out
              have h2 := HM2.out
              rw [show m - j = (m - (j + 1)) + 1 by omega] at h1 h2
              simp only [RS.many, HE.out, ne_eq, not_true_eq_false, if_false] at h1 h2
              exact ⟨h1, by simpa using h2⟩
            have htl : s'.text.1.rest.length ≤ 1099511627776 := by
              have := many_len 1 s'
              simp only [RS.many, HE.out, ne_eq, not_true_eq_false, if_false] at this
              omega
            have HS := Lib.hid hsplit; have HRD := Lib.hid hrd; have K5 := Lib.hid k5
            have ho5 := owns_base (base' := w.heap.size + 1) ho4 hrow
            have HO5 := Lib.hid ho5
            clear hsplit hrd k5 k4 ho4 hg4 hb4 hrow ho5
            go_wp2
            go_roundg (m - (j + 1))
            case measure => have := HK.out; omega
            case rel => exact ⟨j + 1, s'.text.1, done ++ [s'.text.2], rfl, by omega, by go_num, by simpa [strs] using HO5.out, HRD.out, htl, HS.out.1, HS.out.2, K5.out⟩
        · have hend : RS.many (m - j) s' = (s', []) := by
            apply RS.many_end
            by_cases h : j < m
            · exact .inr (fun e => hlt ⟨h, e⟩)
            · exact .inl (by omega)
          have f1 := HM1.out
          have f2 := HM2.out
          rw [hend] at f1 f2
          simp only [List.append_nil] at f2
          have hjd : done.length = j := by have := HO.out.1; simpa [strs] using this
          obtain ⟨aoL, capL, rfl⟩ := owns_slice HO.out
          have ht := HT.out
          rw [← f1] at ht
          have HTT := Lib.hid ht; have F2 := Lib.hid f2; have F1 := Lib.hid f1; have HJD := Lib.hid hjd
          have hb9 := H.out.kept HKP.out (fun h => h)
          have p0 := hb9.c0
          have p1 := hb9.c1
          have p2 := hb9.f0
          have p3 := hb9.f1
          have HB9 := Lib.hid hb9
          clear ht f1 f2 hend hjd hb9
          by_cases he : s'.err = 0
          · have he1 : (s'.err != 0) = false := by simp [he]
            have HE := Lib.hid he; clear he
            have hge : m ≤ j := by
              by_cases h : j < m
              · exact absurd ⟨h, HE.out⟩ hlt
              · omega
            clear hlt
            go_wp2
            go_ret
            have e : s.texts = (s', done) := by
              rw [HTT.out, if_neg (by rw [HE.out]; simp), Prod.ext_iff]
              exact ⟨F1.out.symm, F2.out.symm⟩
            have hs0 : s.err = 0 := by
              have h0 : s0.err = 0 := by
                by_cases h : s0.err = 0
                · exact h
                · have h1 := RS.many_end m s0 (.inr h)
                  have h2 := F1.out
                  rw [h1] at h2
                  have h3 : s' = s0 := h2
                  rw [← h3] at h
                  exact absurd HE.out h
              have h3 := HH.out
              rcases HNC.out with ⟨h4, _⟩ | ⟨h4, _⟩
              · rw [h3] at h0
                split at h0
                · cases h0
                · exact absurd h0 h4
              · exact h4
            rw [e]
            have fin := HB9.out.put0 s'.rest
            rw [hs0, ← HE.out] at fin
            refine ⟨⟨aoL, capL, by rw [HJD.out]; rfl, ?_⟩, fin, Kept.setCell (S := fun k => k = b) (p := ⟨b, 0, none⟩) (HKP.out.mono (fun _ _ h => h.elim)) (fun _ => rfl) _⟩
            have := owns_base (base' := w.heap.size) (owns_kept HO.out (Kept.setCell (p := ⟨b, 0, none⟩) (Kept.refl (fun k => k = b) wr) (fun _ => rfl) (.string (bs s'.rest))) (fun k hk e => by have := (owns_lt HO.out k hk).1; omega)) (fun k hk => by have := (owns_lt HO.out k hk).1; omega)
            rwa [← HJD.out] at this
          · have he1 : (s'.err != 0) = true := by simp [he]
            have he2 : (s'.err == 0) = false := by simp [he]
            clear hlt
            have e : s.texts = (⟨s.rest, s'.err⟩, []) := by rw [HTT.out, if_pos he]
            have E := Lib.hid e; clear e he
            by_cases hjm : j < m
            all_goals
              go_wp2
              go_ret
              rw [E.out]
              exact ⟨⟨none, 0, rfl, World.ownsRow_nil _ _ _ _⟩, HB9.out.put1 _, Kept.setCell (S := fun k => k = b) (p := ⟨b, 1, none⟩) (HKP.out.mono (fun _ _ h => h.elim)) (fun _ => rfl) _⟩

end Go.Proofs.YtjnpmbdehalmpaaGreat
