/-
  CONTRACTS of the reference's Reader.
-/
import Derived.Test.YtomdhljhjeeakaaRt
import Derived.RegionTactic
namespace Go.Proofs.Ytomdhljhjeeakaa
open Go.RowKit Go.Mk

theorem wrap_u64_in (n : Nat) (h : n < 18446744073709551616) : IntKind.u64.wrap (n : Int) = (n : Int) := by rw [IntKind.wrap_u64]; omega

theorem val_wrap (n : Nat) (x : UInt8) (h : n * 256 + 256 ≤ 18446744073709551616) : IntKind.u64.wrap ((n : Int) * 256 + IntKind.u64.wrap (x.toNat : Int)) = ((n * 256 + x.toNat : Nat) : Int) := by
  have h1 := x.toNat_lt
  rw [wrap_u64_in _ (by omega), show (n : Int) * 256 + (x.toNat : Int) = ((n * 256 + x.toNat : Nat) : Int) by omega, wrap_u64_in _ (by omega)]

set_option maxHeartbeats 400000 in
theorem value_any (l : List UInt8) (w : World) (hl : l.length ≤ 8) :
    Calls Try.prog 72 #[.string (bs l)] w fun e w' => e = .returned (.int .u64 (natB l)) ∧ w = w' := by
  have es : (bs l).size = l.length := rfl
  have hs : (bs l).size ≤ 8 := hl
  have ES := Lib.hid es; clear es
  go_enter Try.func72, Try.ntmps72
  go_wp2
  go_loopg [3, 4] l.length (fun k n c wr => ∃ j, k = l.length - j ∧ j ≤ l.length ∧ c = .int .i64 (j : Int) ∧ n = .int .u64 (natB (l.take j)) ∧ w = wr)
  case atStart => exact ⟨0, rfl, Nat.zero_le _, rfl, rfl, rfl⟩
  case round =>
    obtain ⟨j, hk, hj, rfl, rfl, rfl⟩ := hrel
    have HK := Lib.hid hk; clear hk
    by_cases hlt : j < l.length
    · have hlt2 : j < (bs l).size := hlt
      generalize hn : natB (l.take j) = n
      have hn2 := natB_lt (l.take j)
      have hn3 : (256 : Nat) ^ (l.take j).length ≤ 256 ^ 7 := Nat.pow_le_pow_right (by omega) (by simp; omega)
      rw [hn] at hn2
      have hn4 : n * 256 + 256 ≤ 18446744073709551616 := by have : (256 : Nat) ^ 7 = 72057594037927936 := rfl; omega
      have HN := Lib.hid hn; clear hn hn2 hn3
      have HWW := Lib.hid (val_wrap n (bs l)[j] hn4)
      go_wp2
      go_roundg (l.length - (j + 1))
      case measure => have := HK.out; omega
      case rel =>
        refine ⟨j + 1, rfl, by omega, by go_num, ?_, rfl⟩
        rw [HWW.out]
        congr 2
        rw [List.take_add_one, List.getElem?_eq_getElem hlt, Option.toList_some, natB_snoc, HN.out]
        rfl
    · have hge : (bs l).size ≤ j := by have := ES.out; omega
      go_wp2
      go_ret
      exact ⟨by rw [List.take_of_length_le (by omega)]; rfl, rfl⟩

/-- The reference's Reader at block b. -/
structure Mr (w : World) (b : Nat) (s : RS) : Prop where
  c0 : w.cell? ⟨b, 0, none⟩ = some (.string (bs s.rest))
  c1 : w.cell? ⟨b, 1, none⟩ = some (.int .i64 s.err)
  f0 : w.frozen? ⟨b, 0, none⟩ = false
  f1 : w.frozen? ⟨b, 1, none⟩ = false

theorem Mr.lt {w : World} {b : Nat} {s : RS} (h : Mr w b s) : b < w.heap.size := World.block_lt_of_cell? _ _ h.c0
theorem Mr.put0 {w : World} {b : Nat} {s : RS} (h : Mr w b s) (l : List UInt8) : Mr (w.setCell ⟨b, 0, none⟩ (.string (bs l))) b ⟨l, s.err⟩ := by
  refine ⟨World.cell?_setCell_same _ _ _ h.c0, ?_, ?_, ?_⟩
  · rw [World.cell?_setCell_other _ _ _ _ (by simp)]; exact h.c1
  · rw [World.frozen?_setCell]; exact h.f0
  · rw [World.frozen?_setCell]; exact h.f1
theorem Mr.put1 {w : World} {b : Nat} {s : RS} (h : Mr w b s) (e : Int) : Mr (w.setCell ⟨b, 1, none⟩ (.int .i64 e)) b ⟨s.rest, e⟩ := by
  refine ⟨?_, World.cell?_setCell_same _ _ _ h.c1, ?_, ?_⟩
  · rw [World.cell?_setCell_other _ _ _ _ (by simp)]; exact h.c0
  · rw [World.frozen?_setCell]; exact h.f0
  · rw [World.frozen?_setCell]; exact h.f1
theorem Mr.kept {S : Nat → Prop} {w w' : World} {b : Nat} {s : RS} (h : Mr w b s) (hk : Kept S w w') (hb : ¬ S b) : Mr w' b s := by
  have hlt := h.lt
  exact ⟨(hk.cell (p := ⟨b, 0, none⟩) hlt hb).trans h.c0, (hk.cell (p := ⟨b, 1, none⟩) hlt hb).trans h.c1, (hk.frozen (p := ⟨b, 0, none⟩) hlt hb).trans h.f0, (hk.frozen (p := ⟨b, 1, none⟩) hlt hb).trans h.f1⟩

def MrPost (w : World) (b : Nat) (v : Value) (s' : RS) (e : Ending) (w' : World) : Prop := e = .returned v ∧ Mr w' b s' ∧ Kept (fun k => k = b) w w'

theorem bs_takeM (l : List UInt8) (k : Nat) : (bs l).extract 0 k = bs (l.take k) := by
  apply ByteArray.ext
  simp [bs, ByteArray.data_extract]
theorem bs_drop (l : List UInt8) (k : Nat) : (bs l).extract k (bs l).size = bs (l.drop k) := by
  apply ByteArray.ext
  simp [bs, ByteArray.data_extract, ByteArray.size]
  exact List.take_of_length_le (by simp)

set_option maxHeartbeats 400000 in
theorem mnum_any (b : Nat) (s : RS) (w : World) (h : Mr w b s) (hl : s.rest.length ≤ 1099511627776) :
    Calls Try.prog 55 #[.pointer (some ⟨b, 0, none⟩)] w (MrPost w b (.int .i64 s.num.2) s.num.1) := by
  have c0 := h.c0
  have c1 := h.c1
  have f0 := h.f0
  have f1 := h.f1
  have H := Lib.hid h; clear h
  have es : (bs s.rest).size = s.rest.length := rfl
  by_cases he : s.err = 0
  · have he1 : (s.err != 0) = false := by simp [he]
    by_cases h4 : s.rest.length < 4
    · have e : s.num = (⟨s.rest, 10⟩, 0) := by simp [RS.num, he, h4]
      have E := Lib.hid e; clear e he
      have z4 : (bs s.rest).size < 4 := h4
      clear es
      go_enter Try.func55, Try.ntmps55
      go_wp2
      go_ret
      rw [E.out]
      exact ⟨rfl, H.out.put1 10, Kept.setCell (p := ⟨b, 1, none⟩) (Kept.refl (fun k => k = b) w) (fun _ => rfl) _⟩
    · have z4 : ¬ (bs s.rest).size < 4 := h4
      have hlt := natB_lt (s.rest.take 4)
      rw [show (s.rest.take 4).length = 4 by simp; omega] at hlt
      have hv := value_any (s.rest.take 4) w (by simp; omega)
      generalize hn : natB (s.rest.take 4) = n at *
      have hlt' : n < 4294967296 := hlt
      have HV := Lib.hid hv; have HN := Lib.hid hn; have HE := Lib.hid he; clear hv hn he hlt
      have bt := bs_takeM s.rest 4
      have bd := bs_drop s.rest 4
      have BT := Lib.hid bt; have BD := Lib.hid bd; have ES := Lib.hid es; clear bt bd es
      by_cases hb31 : 2147483647 < n
      · have e : s.num = (⟨s.rest, 11⟩, 0) := by simp [RS.num, HE.out, h4, HN.out, hb31]
        have E := Lib.hid e; clear e
        go_enter Try.func55, Try.ntmps55
        go_wp2_with fail
        rw [BT.out]
        refine HV.out.mono ?_
        rintro e w1 ⟨rfl, rfl⟩
        go_wp2
        go_ret
        rw [E.out]
        exact ⟨rfl, H.out.put1 11, Kept.setCell (p := ⟨b, 1, none⟩) (Kept.refl (fun k => k = b) w) (fun _ => rfl) _⟩
      · have e : s.num = ((⟨s.rest.drop 4, 0⟩ : RS), (n : Int)) := by simp [RS.num, HE.out, h4, HN.out, hb31]
        have E := Lib.hid e; clear e
        have fin := H.out.put0 (s.rest.drop 4)
        rw [HE.out] at fin
        have FIN := Lib.hid fin; clear fin
        go_enter Try.func55, Try.ntmps55
        go_wp2_with fail
        rw [BT.out]
        refine HV.out.mono ?_
        rintro e w1 ⟨rfl, rfl⟩
        go_wp2
        go_ret
        rw [E.out, BD.out]
        exact ⟨rfl, FIN.out, Kept.setCell (p := ⟨b, 0, none⟩) (Kept.refl (fun k => k = b) w) (fun _ => rfl) _⟩
  · have he1 : (s.err != 0) = true := by simp [he]
    have e : s.num = (s, 0) := by simp [RS.num, he]
    have E := Lib.hid e; clear e es
    go_enter Try.func55, Try.ntmps55
    go_wp2
    go_ret
    rw [E.out]
    exact ⟨rfl, H.out, Kept.refl _ _⟩

end Go.Proofs.Ytomdhljhjeeakaa
