/-
  CONTRACTS of package name: Var, Always; strings.ContainsRune at the binary characters; isBinary.
-/
import Derived.Test.YtofpnlmlenffnaaDoorNa
import Derived.Laws.Runes
import Derived.WalkMore
import Derived.Scope
import Derived.BigQuiet
import Derived.Deep.RegionWith
import Derived.Deep.QuietTactic
namespace Go.Proofs.YtofpnlmlenffnaaDoor
open Go.RowKit Go.Mk

theorem clash {p : Prop} (b : Bool) (h : b = true) (h' : b = false) : p := by rw [h] at h'; cases h'

theorem ext_ibyte (s : ByteArray) (c : Int) (w : World) : (callFunc 65 #[.string s, .int .u8 c]).run Tryd.prog w = .ok (.value (.int .i64 (firstIdx s c.toNat.toUInt8))) w := by
  rw [run_callFunc_extern Tryd.func65 (by kernel_rfl) (by kernel_rfl) (by kernel_rfl) (e := Extern.BytealgIndexByte.indexByte) (by kernel_rfl), run_indexByte_string]
  rfl

theorem ibyte_any (s : ByteArray) (c : Int) (w : World) : Calls Tryd.prog 34 #[.string s, .int .u8 c] w fun e w' => e = .returned (.int .i64 (firstIdx s c.toNat.toUInt8)) ∧ w = w' := by
  have hx := ext_ibyte s c
  go_enter Tryd.func34, Tryd.ntmps34
  go_wp2
  go_ret
  exact ⟨rfl, rfl⟩

theorem valid_any (c : Int) (w : World) : Calls Tryd.prog 96 #[.int .i32 c] w fun e w' => e = .returned (.bool (Utf8.valid c)) ∧ w = w' := by
  rw [validRune_eq]
  go_enter Tryd.func96, Tryd.ntmps96
  go_wp2
  all_goals
    go_ret
    refine ⟨?_, rfl⟩
    simp [validRune]
    try omega

theorem marks_ascii : ∀ b ∈ marks, b.toNat < 128 := by decide
theorem marks_at (j : Nat) (h : j < (bs marks).size) : ((bs marks)[j]'h).toNat < 128 := marks_ascii _ (List.getElem_mem (l := marks) h)

set_option maxHeartbeats 1000000 in
set_option maxRecDepth 100000 in
theorem irune_err (w : World) : Calls Tryd.prog 92 #[.string (bs marks), .int .i32 65533] w fun e w' => e = .returned (.int .i64 (-1)) ∧ Kept (fun _ => False) w w' := by
  have hsz : (bs marks).size = 12 := rfl
  have HM := Lib.hid marks_at
  generalize bs marks = s at *
  go_enter Tryd.func92, Tryd.ntmps92
  go_wp2
  go_loopg [] 12 (fun k wr => ∃ j, k = 12 - j ∧ j ≤ 12 ∧ wr.heap[w.heap.size]? = some (.stringIter s j) ∧ Kept (fun _ => False) w wr)
  case atStart => exact ⟨0, rfl, Nat.zero_le _, World.iter_heap w _ 0, (Kept.refl _ w).alloc _⟩
  case round =>
    obtain ⟨j, hkj, hj, hit, hkp⟩ := hrel
    have HK := Lib.hid hkj; have HKP := Lib.hid hkp; have HIT := Lib.hid hit; clear hkj hkp hit
    by_cases hlt : j < 12
    · have hlt' : j < s.size := by rw [hsz]; exact hlt
      have ha := HM.out j hlt'
      have hnx : ∀ ty, (Instr.next (.pointer (some ⟨w.heap.size, 0, none⟩)) true ty).run Tryd.prog wr = _ := fun ty => Lib.run_next_ascii_at wr w.heap.size s j ty HIT.out hlt' ha
      have HIT2 := Lib.hid (Lib.iterAt_heap wr w.heap.size s j (j + 1) HIT.out)
      have HKP2 := Lib.hid (kept_iterAt HKP.out (Nat.le_refl _) s (j + 1))
      have hne : (((s[j]'hlt').toNat : Int) == 65533) = false := by rw [beq_eq_false_iff_ne]; omega
      generalize wr.iterAt w.heap.size s (j + 1) = w2 at *
      generalize ((s[j]'hlt').toNat : Int) = c at *
      go_wp2
      go_roundg (12 - (j + 1))
      case measure => have := HK.out; omega
      case rel => exact ⟨j + 1, rfl, by omega, HIT2.out, HKP2.out⟩
    · obtain rfl : j = 12 := by omega
      have hnx : ∀ ty, (Instr.next (.pointer (some ⟨w.heap.size, 0, none⟩)) true ty).run Tryd.prog wr = _ := fun ty => Lib.run_next_end_at wr w.heap.size s 12 ty HIT.out (by rw [hsz]; omega)
      go_wp2
      go_ret
      exact ⟨rfl, HKP.out⟩

set_option maxHeartbeats 1000000 in
set_option maxRecDepth 100000 in
/-- strings.IndexRune of what is no ASCII, in a text of ASCII. -/
theorem irune_high (r : Int) (w : World) (h : 128 ≤ r) : Calls Tryd.prog 92 #[.string (bs marks), .int .i32 r] w fun e w' => e = .returned (.int .i64 (-1)) ∧ Kept (fun _ => False) w w' := by
  have h0 : ¬ r < 128 := by omega
  by_cases he : r = 65533
  · subst he
    exact irune_err w
  · have hne : (r == 65533) = false := by rw [beq_eq_false_iff_ne]; exact he
    have HV := Lib.hid (valid_any r w)
    cases hv : Utf8.valid r with
    | false =>
      rw [hv] at HV
      go_enter Tryd.func92, Tryd.ntmps92
      go_wp2_with fail
      refine HV.out.mono ?_
      rintro e w1 ⟨rfl, rfl⟩
      go_wp2
      go_ret
      exact ⟨rfl, Kept.refl _ _⟩
    | true =>
      rw [hv] at HV
      obtain ⟨s2, s4, sl⟩ := encode_facts r hv h
      have hcv := fun (w : World) (src dst : TypeId) => run_convert_int_string (P := Tryd.prog) w src dst .i32 r
      have hI := fun (a e : Nat) => ibyte_any ((bs marks).extract a e)
      have hF := fun (a e : Nat) (c : UInt8) => firstIdx_ascii (bs marks) a e c marks_ascii
      have HM := Lib.hid marks_at; have HI := Lib.hid hI; have HF := Lib.hid hF; have HE := Lib.hid sl; clear hI hF sl
      have hsz : (bs marks).size = 12 := rfl
      generalize Utf8.encode r = E at *
      generalize bs marks = s at *
      obtain hn | hn | hn : E.size = 2 ∨ E.size = 3 ∨ E.size = 4 := by omega
      · go_enter Tryd.func92, Tryd.ntmps92
        go_wp2_with fail
        refine HV.out.mono ?_
        rintro e w1 ⟨rfl, rfl⟩
        go_wp2_with fail
        go_step3
        go_wp2_with fail
        go_loopg [9] 1 (fun k c wr => c = .int .i64 1 ∧ wr = w)
        case atStart => exact ⟨rfl, rfl⟩
        case round =>
          obtain ⟨rfl, rfl⟩ := hrel
          have i1 : 1 < E.size := by omega
          have i2 : 1 < s.size := by omega
          have e1 : 128 ≤ (E[1]'i1).toNat := by
            have := HE.out (by omega)
            simp only [hn] at this
            exact this
          have e2 := HM.out 1 i2
          have e3 : (((s[1]'i2).toNat : Int) == ((E[1]'i1).toNat : Int)) = false := by rw [beq_eq_false_iff_ne]; omega
          have e4 : (((s[1]'i2).toNat : Int) != ((E[1]'i1).toNat : Int)) = true := by simp [bne, e3]
          have HX := Lib.hid (HI.out 2 12 ((E[1]'i1).toNat : Int))
          have e5 : Hid (firstIdx (s.extract 2 12) (((E[1]'i1).toNat : Int).toNat.toUInt8) = -1) := HF.out 2 12 _ (by
            rw [Int.toNat_natCast, show ((E[1]'i1).toNat.toUInt8) = (E[1]'i1) from UInt8.ofNat_toNat]
            exact e1)
          go_wp2_with fail
          go_step3
          go_wp2_with fail
          go_quiet (fail)
          go_wp2_with fail
          go_region_with (go_at_call 34; refine (HX.out _).mono ?_; rintro e w1 ⟨rfl, rfl⟩; rw [e5.out])
          all_goals go_wp2_with fail
          all_goals
            simp only [Exit.noGoto, Exit.inBlock, Exit.then]
            go_ret
            exact ⟨rfl, ⟨rfl, rfl, rfl, Nat.le_refl _, fun _ _ _ => rfl⟩⟩
      · go_enter Tryd.func92, Tryd.ntmps92
        go_wp2_with fail
        refine HV.out.mono ?_
        rintro e w1 ⟨rfl, rfl⟩
        go_wp2_with fail
        go_step3
        go_wp2_with fail
        go_loopg [9] 1 (fun k c wr => c = .int .i64 2 ∧ wr = w)
        case atStart => exact ⟨rfl, rfl⟩
        case round =>
          obtain ⟨rfl, rfl⟩ := hrel
          have i1 : 2 < E.size := by omega
          have i2 : 2 < s.size := by omega
          have e1 : 128 ≤ (E[2]'i1).toNat := by
            have := HE.out (by omega)
            simp only [hn] at this
            exact this
          have e2 := HM.out 2 i2
          have e3 : (((s[2]'i2).toNat : Int) == ((E[2]'i1).toNat : Int)) = false := by rw [beq_eq_false_iff_ne]; omega
          have e4 : (((s[2]'i2).toNat : Int) != ((E[2]'i1).toNat : Int)) = true := by simp [bne, e3]
          have HX := Lib.hid (HI.out 3 12 ((E[2]'i1).toNat : Int))
          have e5 : Hid (firstIdx (s.extract 3 12) (((E[2]'i1).toNat : Int).toNat.toUInt8) = -1) := HF.out 3 12 _ (by
            rw [Int.toNat_natCast, show ((E[2]'i1).toNat.toUInt8) = (E[2]'i1) from UInt8.ofNat_toNat]
            exact e1)
          go_wp2_with fail
          go_step3
          go_wp2_with fail
          go_quiet (fail)
          go_wp2_with fail
          go_region_with (go_at_call 34; refine (HX.out _).mono ?_; rintro e w1 ⟨rfl, rfl⟩; rw [e5.out])
          all_goals go_wp2_with fail
          all_goals
            simp only [Exit.noGoto, Exit.inBlock, Exit.then]
            go_ret
            exact ⟨rfl, ⟨rfl, rfl, rfl, Nat.le_refl _, fun _ _ _ => rfl⟩⟩
      · go_enter Tryd.func92, Tryd.ntmps92
        go_wp2_with fail
        refine HV.out.mono ?_
        rintro e w1 ⟨rfl, rfl⟩
        go_wp2_with fail
        go_step3
        go_wp2_with fail
        go_loopg [9] 1 (fun k c wr => c = .int .i64 3 ∧ wr = w)
        case atStart => exact ⟨rfl, rfl⟩
        case round =>
          obtain ⟨rfl, rfl⟩ := hrel
          have i1 : 3 < E.size := by omega
          have i2 : 3 < s.size := by omega
          have e1 : 128 ≤ (E[3]'i1).toNat := by
            have := HE.out (by omega)
            simp only [hn] at this
            exact this
          have e2 := HM.out 3 i2
          have e3 : (((s[3]'i2).toNat : Int) == ((E[3]'i1).toNat : Int)) = false := by rw [beq_eq_false_iff_ne]; omega
          have e4 : (((s[3]'i2).toNat : Int) != ((E[3]'i1).toNat : Int)) = true := by simp [bne, e3]
          have HX := Lib.hid (HI.out 4 12 ((E[3]'i1).toNat : Int))
          have e5 : Hid (firstIdx (s.extract 4 12) (((E[3]'i1).toNat : Int).toNat.toUInt8) = -1) := HF.out 4 12 _ (by
            rw [Int.toNat_natCast, show ((E[3]'i1).toNat.toUInt8) = (E[3]'i1) from UInt8.ofNat_toNat]
            exact e1)
          go_wp2_with fail
          go_step3
          go_wp2_with fail
          go_quiet (fail)
          go_wp2_with fail
          go_region_with (go_at_call 34; refine (HX.out _).mono ?_; rintro e w1 ⟨rfl, rfl⟩; rw [e5.out])
          all_goals go_wp2_with fail
          all_goals
            simp only [Exit.noGoto, Exit.inBlock, Exit.then]
            go_ret
            exact ⟨rfl, ⟨rfl, rfl, rfl, Nat.le_refl _, fun _ _ _ => rfl⟩⟩

set_option maxHeartbeats 1000000 in
set_option maxRecDepth 100000 in
theorem irune_low (c : Int) (w : World) (h0 : 0 ≤ c) (h1 : c < 128) : Calls Tryd.prog 92 #[.string (bs marks), .int .i32 c] w fun e w' => e = .returned (.int .i64 (firstIdx (bs marks) c.toNat.toUInt8)) ∧ w = w' := by
  have HB := Lib.hid (ibyte_any (bs marks) c)
  generalize firstIdx (bs marks) c.toNat.toUInt8 = r at *
  go_enter Tryd.func92, Tryd.ntmps92
  go_wp2_with (go_at_call 34; refine (HB.out _).mono ?_; rintro e w1 ⟨rfl, rfl⟩)
  go_ret
  exact ⟨rfl, rfl⟩

/-- A character of binary selectors. -/
def mrkI (c : Int) : Bool := decide (c < 128) && marks.contains c.toNat.toUInt8

set_option maxHeartbeats 400000 in
theorem crune_any (c : Int) (w : World) (h0 : 0 ≤ c) : Calls Tryd.prog 87 #[.string (bs marks), .int .i32 c] w fun e w' => e = .returned (.bool (mrkI c)) ∧ Kept (fun _ => False) w w' := by
  by_cases h1 : c < 128
  · have HB := Lib.hid (irune_low c w h0 h1)
    have e : mrkI c = decide (0 ≤ firstIdx (bs marks) c.toNat.toUInt8) := by
      rw [firstIdx_nonneg, mrkI, decide_eq_true h1, Bool.true_and, bs_toList, List.contains_eq_any_beq]
      congr 1
      funext x
      exact Bool.beq_comm ..
    rw [e]
    generalize firstIdx (bs marks) c.toNat.toUInt8 = r at *
    clear e
    go_enter Tryd.func87, Tryd.ntmps87
    go_wp2_with (go_at_call 92; refine HB.out.mono ?_; rintro e w1 ⟨rfl, rfl⟩)
    go_ret
    exact ⟨rfl, Kept.refl _ _⟩
  · have HB := Lib.hid (irune_high c w (by omega))
    have e : mrkI c = false := by rw [mrkI, decide_eq_false h1, Bool.false_and]
    rw [e]
    go_enter Tryd.func87, Tryd.ntmps87
    go_wp2_with (go_at_call 92; refine HB.out.mono ?_; rintro e w1 ⟨rfl, hk⟩)
    go_ret
    exact ⟨rfl, hk⟩

theorem nmrk_any (c : Int) (w : World) (h0 : 0 ≤ c) : Calls Tryd.prog 86 #[.int .i32 c] w fun e w' => e = .returned (.bool (mrkI c)) ∧ Kept (fun _ => False) w w' := by
  have HB := Lib.hid (crune_any c w h0)
  generalize mrkI c = r at *
  go_enter Tryd.func86, Tryd.ntmps86
  go_wp2_with (go_at_call 87; refine HB.out.mono ?_; rintro e w1 ⟨rfl, hk⟩)
  go_ret
  exact ⟨rfl, hk⟩

theorem mrkI_128 (c : Int) (h : 128 ≤ c) : mrkI c = false := by rw [mrkI, decide_eq_false (by omega), Bool.false_and]
theorem mrk_fun : (fun b : UInt8 => mrkI (b.toNat : Int)) = fun b => marks.contains b := by
  funext b
  unfold mrkI
  rw [Int.toNat_natCast, show b.toNat.toUInt8 = b from UInt8.ofNat_toNat]
  cases h : marks.contains b with
  | false => rw [Bool.and_false]
  | true =>
    have := marks_ascii b (List.contains_iff_mem.1 h)
    rw [Bool.and_true, decide_eq_true_iff]
    omega
theorem mrk_ev (l : List UInt8) : evL mrkI l = l.all marks.contains := by
  unfold evL
  rw [mrk_fun]

set_option maxHeartbeats 400000 in
theorem nbi_any (l : List UInt8) (w : World) : Calls Tryd.prog 74 #[.string (bs l)] w fun e w' => e = .returned (.bool (isBi l)) ∧ Kept (fun _ => False) w w' := by
  cases l with
  | nil =>
    go_enter Tryd.func74, Tryd.ntmps74
    go_wp2
    go_ret
    exact ⟨rfl, Kept.refl _ _⟩
  | cons c t =>
    obtain ⟨h1, h2, h3, h4⟩ := txt_cons c t
    unfold isBi
    rw [← mrk_ev]
    by_cases h40 : 2 < (c :: t).length
    · have e : lenIn (c :: t) 2 = false := by simp [lenIn] at *; omega
      rw [e, Bool.false_and]
      rw [← bs_size] at h40
      have h41 : (2 : Int) < ((bs (c :: t)).size : Int) := by omega
      clear h40 e
      generalize bs (c :: t) = s at *
      go_enter Tryd.func74, Tryd.ntmps74
      go_wp2
      go_ret
      exact ⟨rfl, Kept.refl _ _⟩
    · have e : lenIn (c :: t) 2 = true := by simp [lenIn] at *; omega
      rw [e, Bool.true_and]
      have h41 : ((bs (c :: t)).size : Int) ≤ 2 := by rw [bs_size]; omega
      have HE := Lib.hid (every_any 86 mrkI (c :: t) w Tryd.call86 (fun c w h _ => nmrk_any c w h) mrkI_128)
      clear h40 e
      generalize evL mrkI (c :: t) = r at *
      generalize bs (c :: t) = s at *
      go_enter Tryd.func74, Tryd.ntmps74
      go_wp2_with fail
      refine HE.out.mono ?_
      rintro e w1 ⟨rfl, hk⟩
      go_wp2
      go_ret
      exact ⟨rfl, hk⟩

end Go.Proofs.YtofpnlmlenffnaaDoor
