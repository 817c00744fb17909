/-
  Lemmas towards the claim of this folder: contracts of the functions that the law reaches; joined texts.
-/
import Derived.Test.YtjnpmbdehalmpaaGreatNa
import Derived.Laws.Runes
import Derived.WalkMore
import Derived.Scope
import Derived.BigQuiet
import Derived.Deep.RegionWith
import Derived.Deep.QuietTactic
import Derived.Test.YtjnpmbdehalmpaaGreatRows
import Derived.Test.YtjnpmbdehalmpaaGreatGMk
/-
  CONTRACTS of package name: Var, Always; strings.ContainsRune at the binary characters; isBinary.
-/
namespace Go.Proofs.YtjnpmbdehalmpaaGreat
open Go.RowKit Go.Mk

theorem clash {p : Prop} (b : Bool) (h : b = true) (h' : b = false) : p := by rw [h] at h'; cases h'

set_option maxHeartbeats 400000 in
theorem nalw_any (l : List UInt8) (w : World) : Calls Tryz.prog 113 #[.string (bs l)] w fun e w' => e = .returned (.bool (builtins.contains l)) ∧ Kept (fun _ => False) w w' := by
  have hl := bs_list l
  go_enter Tryz.func113, Tryz.ntmps113
  go_wp2
  all_goals clear hl
  all_goals
    first
      | (refine clash _ (by assumption) (by assumption))
      | (go_ret
         have E : builtins.contains l = true := by simp only [builtins, List.contains_cons, *, Bool.true_or, Bool.or_true]
         exact ⟨by rw [E]; rfl, Kept.refl _ _⟩)
      | (go_ret
         have E : builtins.contains l = false := by simp only [builtins, List.contains_cons, *, Bool.or_false, List.contains_nil]
         exact ⟨by rw [E]; rfl, Kept.refl _ _⟩)

set_option maxHeartbeats 400000 in
theorem nvar_any (l : List UInt8) (w : World) : Calls Tryz.prog 114 #[.string (bs l)] w fun e w' => e = .returned (.bool (isVa l)) ∧ Kept (fun _ => False) w w' := by
  have hl := bs_list l
  have HU := Lib.hid (nun_any l w)
  go_enter Tryz.func114, Tryz.ntmps114
  go_wp2_with (go_at_call 128; refine HU.out.mono ?_; rintro e w1 ⟨rfl, hk⟩)
  all_goals clear hl
  all_goals
    first
      | (refine clash _ (by assumption) (by assumption))
      | (go_ret
         have E : resv.contains l = true := by simp only [resv, List.contains_cons, *, Bool.true_or, Bool.or_true]
         exact ⟨by rw [isVa, E]; simp, Kept.refl _ _⟩)
      | (go_ret
         have E : resv.contains l = false := by simp only [resv, List.contains_cons, *, Bool.or_false, List.contains_nil]
         exact ⟨by rw [isVa, E]; simp, by assumption⟩)

theorem ext_ibyte (s : ByteArray) (c : Int) (w : World) : (callFunc 147 #[.string s, .int .u8 c]).run Tryz.prog w = .ok (.value (.int .i64 (firstIdx s c.toNat.toUInt8))) w := by
  rw [run_callFunc_extern Tryz.func147 (by kernel_rfl) (by kernel_rfl) (by kernel_rfl) (e := Extern.BytealgIndexByte.indexByte) (by kernel_rfl), run_indexByte_string]
  rfl

theorem ibyte_any (s : ByteArray) (c : Int) (w : World) : Calls Tryz.prog 142 #[.string s, .int .u8 c] w fun e w' => e = .returned (.int .i64 (firstIdx s c.toNat.toUInt8)) ∧ w = w' := by
  have hx := ext_ibyte s c
  go_enter Tryz.func142, Tryz.ntmps142
  go_wp2
  go_ret
  exact ⟨rfl, rfl⟩

theorem valid_any (c : Int) (w : World) : Calls Tryz.prog 143 #[.int .i32 c] w fun e w' => e = .returned (.bool (Utf8.valid c)) ∧ w = w' := by
  rw [validRune_eq]
  go_enter Tryz.func143, Tryz.ntmps143
  go_wp2
  all_goals
    go_ret
    refine ⟨?_, rfl⟩
    simp [validRune]
    try omega

theorem marks_ascii : ∀ b ∈ marks, b.toNat < 128 := by decide
theorem marks_at (j : Nat) (h : j < (bs marks).size) : ((bs marks)[j]'h).toNat < 128 := marks_ascii _ (List.getElem_mem (l := marks) h)

set_option maxHeartbeats 1000000 in
set_option maxRecDepth 100000 in
theorem irune_err (w : World) : Calls Tryz.prog 141 #[.string (bs marks), .int .i32 65533] w fun e w' => e = .returned (.int .i64 (-1)) ∧ Kept (fun _ => False) w w' := by
  have hsz : (bs marks).size = 12 := rfl
  have HM := Lib.hid marks_at
  generalize bs marks = s at *
  go_enter Tryz.func141, Tryz.ntmps141
  go_wp2
  go_loopg [] 12 (fun k wr => ∃ j, k = 12 - j ∧ j ≤ 12 ∧ wr.heap[w.heap.size]? = some (.stringIter s j) ∧ Kept (fun _ => False) w wr)
  case atStart => exact ⟨0, rfl, Nat.zero_le _, World.iter_heap w _ 0, (Kept.refl _ w).alloc _⟩
  case round =>
    obtain ⟨j, hkj, hj, hit, hkp⟩ := hrel
    have HK := Lib.hid hkj; have HKP := Lib.hid hkp; have HIT := Lib.hid hit; clear hkj hkp hit
    by_cases hlt : j < 12
    · have hlt' : j < s.size := by rw [hsz]; exact hlt
      have ha := HM.out j hlt'
      have hnx : ∀ ty, (Instr.next (.pointer (some ⟨w.heap.size, 0, none⟩)) true ty).run Tryz.prog wr = _ := fun ty => Lib.run_next_ascii_at wr w.heap.size s j ty HIT.out hlt' ha
      have HIT2 := Lib.hid (Lib.iterAt_heap wr w.heap.size s j (j + 1) HIT.out)
      have HKP2 := Lib.hid (kept_iterAt HKP.out (Nat.le_refl _) s (j + 1))
      have hne : (((s[j]'hlt').toNat : Int) == 65533) = false := by rw [beq_eq_false_iff_ne]; omega
      generalize wr.iterAt w.heap.size s (j + 1) = w2 at *
      generalize ((s[j]'hlt').toNat : Int) = c at *
      go_wp2
      go_roundg (12 - (j + 1))
      case measure => have := HK.out; omega
      case rel => exact ⟨j + 1, rfl, by omega, HIT2.out, HKP2.out⟩
    · obtain rfl : j = 12 := by omega
      have hnx : ∀ ty, (Instr.next (.pointer (some ⟨w.heap.size, 0, none⟩)) true ty).run Tryz.prog wr = _ := fun ty => Lib.run_next_end_at wr w.heap.size s 12 ty HIT.out (by rw [hsz]; omega)
      go_wp2
      go_ret
      exact ⟨rfl, HKP.out⟩

set_option maxHeartbeats 1000000 in
set_option maxRecDepth 100000 in
/-- strings.IndexRune of what is no ASCII, in a text of ASCII. -/
theorem irune_high (r : Int) (w : World) (h : 128 ≤ r) : Calls Tryz.prog 141 #[.string (bs marks), .int .i32 r] w fun e w' => e = .returned (.int .i64 (-1)) ∧ Kept (fun _ => False) w w' := by
  have h0 : ¬ r < 128 := by omega
  by_cases he : r = 65533
  · subst he
    exact irune_err w
  · have hne : (r == 65533) = false := by rw [beq_eq_false_iff_ne]; exact he
    have HV := Lib.hid (valid_any r w)
    cases hv : Utf8.valid r with
    | false =>
      rw [hv] at HV
      go_enter Tryz.func141, Tryz.ntmps141
      go_wp2_with fail
      refine HV.out.mono ?_
      rintro e w1 ⟨rfl, rfl⟩
      go_wp2
      go_ret
      exact ⟨rfl, Kept.refl _ _⟩
    | true =>
      rw [hv] at HV
      obtain ⟨s2, s4, sl⟩ := encode_facts r hv h
      have hcv := fun (w : World) (src dst : TypeId) => run_convert_int_string (P := Tryz.prog) w src dst .i32 r
      have hI := fun (a e : Nat) => ibyte_any ((bs marks).extract a e)
      have hF := fun (a e : Nat) (c : UInt8) => firstIdx_ascii (bs marks) a e c marks_ascii
      have HM := Lib.hid marks_at; have HI := Lib.hid hI; have HF := Lib.hid hF; have HE := Lib.hid sl; clear hI hF sl
      have hsz : (bs marks).size = 12 := rfl
      generalize Utf8.encode r = E at *
      generalize bs marks = s at *
      obtain hn | hn | hn : E.size = 2 ∨ E.size = 3 ∨ E.size = 4 := by omega
      · go_enter Tryz.func141, Tryz.ntmps141
        go_wp2_with fail
        refine HV.out.mono ?_
        rintro e w1 ⟨rfl, rfl⟩
        go_wp2_with fail
        go_step3
        go_wp2_with fail
        go_loopg [9] 1 (fun k c wr => c = .int .i64 1 ∧ wr = w)
        case atStart => exact ⟨rfl, rfl⟩
        case round =>
          obtain ⟨rfl, rfl⟩ := hrel
          have i1 : 1 < E.size := by omega
          have i2 : 1 < s.size := by omega
          have e1 : 128 ≤ (E[1]'i1).toNat := by
            have := HE.out (by omega)
            simp only [hn] at this
            exact this
          have e2 := HM.out 1 i2
          have e3 : (((s[1]'i2).toNat : Int) == ((E[1]'i1).toNat : Int)) = false := by rw [beq_eq_false_iff_ne]; omega
          have e4 : (((s[1]'i2).toNat : Int) != ((E[1]'i1).toNat : Int)) = true := by simp [bne, e3]
          have HX := Lib.hid (HI.out 2 12 ((E[1]'i1).toNat : Int))
          have e5 : Hid (firstIdx (s.extract 2 12) (((E[1]'i1).toNat : Int).toNat.toUInt8) = -1) := HF.out 2 12 _ (by
            rw [Int.toNat_natCast, show ((E[1]'i1).toNat.toUInt8) = (E[1]'i1) from UInt8.ofNat_toNat]
            exact e1)
          go_wp2_with fail
          go_step3
          go_wp2_with fail
          go_quiet (fail)
          go_wp2_with fail
          go_region_with (go_at_call 142; refine (HX.out _).mono ?_; rintro e w1 ⟨rfl, rfl⟩; rw [e5.out])
          all_goals go_wp2_with fail
          all_goals
            simp only [Exit.noGoto, Exit.inBlock, Exit.then]
            go_ret
            exact ⟨rfl, ⟨rfl, rfl, rfl, Nat.le_refl _, fun _ _ _ => rfl⟩⟩
      · go_enter Tryz.func141, Tryz.ntmps141
        go_wp2_with fail
        refine HV.out.mono ?_
        rintro e w1 ⟨rfl, rfl⟩
        go_wp2_with fail
        go_step3
        go_wp2_with fail
        go_loopg [9] 1 (fun k c wr => c = .int .i64 2 ∧ wr = w)
        case atStart => exact ⟨rfl, rfl⟩
        case round =>
          obtain ⟨rfl, rfl⟩ := hrel
          have i1 : 2 < E.size := by omega
          have i2 : 2 < s.size := by omega
          have e1 : 128 ≤ (E[2]'i1).toNat := by
            have := HE.out (by omega)
            simp only [hn] at this
            exact this
          have e2 := HM.out 2 i2
          have e3 : (((s[2]'i2).toNat : Int) == ((E[2]'i1).toNat : Int)) = false := by rw [beq_eq_false_iff_ne]; omega
          have e4 : (((s[2]'i2).toNat : Int) != ((E[2]'i1).toNat : Int)) = true := by simp [bne, e3]
          have HX := Lib.hid (HI.out 3 12 ((E[2]'i1).toNat : Int))
          have e5 : Hid (firstIdx (s.extract 3 12) (((E[2]'i1).toNat : Int).toNat.toUInt8) = -1) := HF.out 3 12 _ (by
            rw [Int.toNat_natCast, show ((E[2]'i1).toNat.toUInt8) = (E[2]'i1) from UInt8.ofNat_toNat]
            exact e1)
          go_wp2_with fail
          go_step3
          go_wp2_with fail
          go_quiet (fail)
          go_wp2_with fail
          go_region_with (go_at_call 142; refine (HX.out _).mono ?_; rintro e w1 ⟨rfl, rfl⟩; rw [e5.out])
          all_goals go_wp2_with fail
          all_goals
            simp only [Exit.noGoto, Exit.inBlock, Exit.then]
            go_ret
            exact ⟨rfl, ⟨rfl, rfl, rfl, Nat.le_refl _, fun _ _ _ => rfl⟩⟩
      · go_enter Tryz.func141, Tryz.ntmps141
        go_wp2_with fail
        refine HV.out.mono ?_
        rintro e w1 ⟨rfl, rfl⟩
        go_wp2_with fail
        go_step3
        go_wp2_with fail
        go_loopg [9] 1 (fun k c wr => c = .int .i64 3 ∧ wr = w)
        case atStart => exact ⟨rfl, rfl⟩
        case round =>
          obtain ⟨rfl, rfl⟩ := hrel
          have i1 : 3 < E.size := by omega
          have i2 : 3 < s.size := by omega
          have e1 : 128 ≤ (E[3]'i1).toNat := by
            have := HE.out (by omega)
            simp only [hn] at this
            exact this
          have e2 := HM.out 3 i2
          have e3 : (((s[3]'i2).toNat : Int) == ((E[3]'i1).toNat : Int)) = false := by rw [beq_eq_false_iff_ne]; omega
          have e4 : (((s[3]'i2).toNat : Int) != ((E[3]'i1).toNat : Int)) = true := by simp [bne, e3]
          have HX := Lib.hid (HI.out 4 12 ((E[3]'i1).toNat : Int))
          have e5 : Hid (firstIdx (s.extract 4 12) (((E[3]'i1).toNat : Int).toNat.toUInt8) = -1) := HF.out 4 12 _ (by
            rw [Int.toNat_natCast, show ((E[3]'i1).toNat.toUInt8) = (E[3]'i1) from UInt8.ofNat_toNat]
            exact e1)
          go_wp2_with fail
          go_step3
          go_wp2_with fail
          go_quiet (fail)
          go_wp2_with fail
          go_region_with (go_at_call 142; refine (HX.out _).mono ?_; rintro e w1 ⟨rfl, rfl⟩; rw [e5.out])
          all_goals go_wp2_with fail
          all_goals
            simp only [Exit.noGoto, Exit.inBlock, Exit.then]
            go_ret
            exact ⟨rfl, ⟨rfl, rfl, rfl, Nat.le_refl _, fun _ _ _ => rfl⟩⟩

set_option maxHeartbeats 1000000 in
set_option maxRecDepth 100000 in
theorem irune_low (c : Int) (w : World) (h0 : 0 ≤ c) (h1 : c < 128) : Calls Tryz.prog 141 #[.string (bs marks), .int .i32 c] w fun e w' => e = .returned (.int .i64 (firstIdx (bs marks) c.toNat.toUInt8)) ∧ w = w' := by
  have HB := Lib.hid (ibyte_any (bs marks) c)
  generalize firstIdx (bs marks) c.toNat.toUInt8 = r at *
  go_enter Tryz.func141, Tryz.ntmps141
  go_wp2_with (go_at_call 142; refine (HB.out _).mono ?_; rintro e w1 ⟨rfl, rfl⟩)
  go_ret
  exact ⟨rfl, rfl⟩

/-- A character of binary selectors. -/
def mrkI (c : Int) : Bool := decide (c < 128) && marks.contains c.toNat.toUInt8

set_option maxHeartbeats 400000 in
theorem crune_any (c : Int) (w : World) (h0 : 0 ≤ c) : Calls Tryz.prog 139 #[.string (bs marks), .int .i32 c] w fun e w' => e = .returned (.bool (mrkI c)) ∧ Kept (fun _ => False) w w' := by
  by_cases h1 : c < 128
  · have HB := Lib.hid (irune_low c w h0 h1)
    have e : mrkI c = decide (0 ≤ firstIdx (bs marks) c.toNat.toUInt8) := by
      rw [firstIdx_nonneg, mrkI, decide_eq_true h1, Bool.true_and, bs_toList, List.contains_eq_any_beq]
      congr 1
      funext x
      exact Bool.beq_comm ..
    rw [e]
    generalize firstIdx (bs marks) c.toNat.toUInt8 = r at *
    clear e
    go_enter Tryz.func139, Tryz.ntmps139
    go_wp2_with (go_at_call 141; refine HB.out.mono ?_; rintro e w1 ⟨rfl, rfl⟩)
    go_ret
    exact ⟨rfl, Kept.refl _ _⟩
  · have HB := Lib.hid (irune_high c w (by omega))
    have e : mrkI c = false := by rw [mrkI, decide_eq_false h1, Bool.false_and]
    rw [e]
    go_enter Tryz.func139, Tryz.ntmps139
    go_wp2_with (go_at_call 141; refine HB.out.mono ?_; rintro e w1 ⟨rfl, hk⟩)
    go_ret
    exact ⟨rfl, hk⟩

theorem nmrk_any (c : Int) (w : World) (h0 : 0 ≤ c) : Calls Tryz.prog 138 #[.int .i32 c] w fun e w' => e = .returned (.bool (mrkI c)) ∧ Kept (fun _ => False) w w' := by
  have HB := Lib.hid (crune_any c w h0)
  generalize mrkI c = r at *
  go_enter Tryz.func138, Tryz.ntmps138
  go_wp2_with (go_at_call 139; refine HB.out.mono ?_; rintro e w1 ⟨rfl, hk⟩)
  go_ret
  exact ⟨rfl, hk⟩

theorem mrkI_128 (c : Int) (h : 128 ≤ c) : mrkI c = false := by rw [mrkI, decide_eq_false (by omega), Bool.false_and]
theorem mrk_fun : (fun b : UInt8 => mrkI (b.toNat : Int)) = fun b => marks.contains b := by
  funext b
  unfold mrkI
  rw [Int.toNat_natCast, show b.toNat.toUInt8 = b from UInt8.ofNat_toNat]
  cases h : marks.contains b with
  | false => rw [Bool.and_false]
  | true =>
    have := marks_ascii b (List.contains_iff_mem.1 h)
    rw [Bool.and_true, decide_eq_true_iff]
    omega
theorem mrk_ev (l : List UInt8) : evL mrkI l = l.all marks.contains := by
  unfold evL
  rw [mrk_fun]

set_option maxHeartbeats 400000 in
theorem nbi_any (l : List UInt8) (w : World) : Calls Tryz.prog 130 #[.string (bs l)] w fun e w' => e = .returned (.bool (isBi l)) ∧ Kept (fun _ => False) w w' := by
  cases l with
  | nil =>
    go_enter Tryz.func130, Tryz.ntmps130
    go_wp2
    go_ret
    exact ⟨rfl, Kept.refl _ _⟩
  | cons c t =>
    obtain ⟨h1, h2, h3, h4⟩ := txt_cons c t
    unfold isBi
    rw [← mrk_ev]
    by_cases h40 : 2 < (c :: t).length
    · have e : lenIn (c :: t) 2 = false := by simp [lenIn] at *; omega
      rw [e, Bool.false_and]
      rw [← bs_size] at h40
      have h41 : (2 : Int) < ((bs (c :: t)).size : Int) := by omega
      clear h40 e
      generalize bs (c :: t) = s at *
      go_enter Tryz.func130, Tryz.ntmps130
      go_wp2
      go_ret
      exact ⟨rfl, Kept.refl _ _⟩
    · have e : lenIn (c :: t) 2 = true := by simp [lenIn] at *; omega
      rw [e, Bool.true_and]
      have h41 : ((bs (c :: t)).size : Int) ≤ 2 := by rw [bs_size]; omega
      have HE := Lib.hid (every_any 138 mrkI (c :: t) w Tryz.call138 (fun c w h _ => nmrk_any c w h) mrkI_128)
      clear h40 e
      generalize evL mrkI (c :: t) = r at *
      generalize bs (c :: t) = s at *
      go_enter Tryz.func130, Tryz.ntmps130
      go_wp2_with fail
      refine HE.out.mono ?_
      rintro e w1 ⟨rfl, hk⟩
      go_wp2
      go_ret
      exact ⟨rfl, hk⟩

end Go.Proofs.YtjnpmbdehalmpaaGreat

/-
  Rows of strings.
-/
namespace Go.Proofs.YtjnpmbdehalmpaaGreat
open Go.RowKit Go.Mk

theorem Tryz.infoStr : (Tryz.prog.info? 9).map (fun i => (i.zero, i.size, i.bytes)) = some (some (.string ⟨#[]⟩), 1, 16) := by kernel_rfl

def strs (l : List (List UInt8)) : List Value := l.map (fun t => .string (bs t))

theorem strs_one (l : List (List UInt8)) : ∀ u ∈ strs l, u.oneCell' = true := by
  intro u hu
  obtain ⟨_, _, rfl⟩ := List.mem_map.1 hu
  rfl

theorem strs_len (l : List (List UInt8)) : (strs l).length = l.length := by simp [strs]
theorem strs_app (l m : List (List UInt8)) : strs (l ++ m) = strs l ++ strs m := by simp [strs]

end Go.Proofs.YtjnpmbdehalmpaaGreat

/-
  CONTRACT of slices.Clone on bytes.
-/
namespace Go.Proofs.YtjnpmbdehalmpaaGreat
open Go.RowKit Go.Mk

theorem Tryz.infoByte : (Tryz.prog.info? 5).map (fun i => (i.zero, i.size, i.bytes)) = some (some (.int .u8 0), 1, 1) := by kernel_rfl

set_option maxHeartbeats 400000 in
/-- slices.Clone of bytes: nil, or a row of the call's own. -/
theorem clone_any (ao : Option Addr) (cap : Nat) (l : List UInt8) (B : Nat) (w : World) (hL : Lies w B ao (l.map bv)) (hl : l.length ≤ 1099511627776) :
    Calls Tryz.prog 69 #[.slice ao l.length cap] w fun e w' => ∃ ao' cap', e = .returned (.slice ao' l.length cap') ∧ w'.ownsRow w.heap.size 5 1 (.slice ao' l.length cap') l.length (l.map bv) ∧ Below w.heap.size w w' := by
  obtain ⟨i0, hi, hz0, hz1, hz2⟩ := info_parts Tryz.infoByte
  have hnil := fun (w : World) (a : Option Addr) (n c : Nat) => run_eql_nil_any (P := Tryz.prog) w 28 5 a n c 0 0 Tryz.underlying28
  have HL := Lib.hid hL; clear hL
  cases ao with
  | none =>
    have h0 : l = [] := by
      by_cases h : l = []
      · exact h
      · obtain ⟨_, _, h', _⟩ := HL.out (by simpa using h)
        cases h'
    subst h0
    go_enter Tryz.func69, Tryz.ntmps69
    go_wp2
    go_ret
    exact ⟨none, 0, rfl, World.ownsRow_nil _ _ _ _, Below.refl _ _⟩
  | some a =>
    go_enter Tryz.func69, Tryz.ntmps69
    go_wp2_with (at_builtin; refine wpList_app _ rfl (.tmp 5) (.tmp 6) 28 28 rfl 5 i0 (.int .u8 0) 1 1 Tryz.underlying28 hi hz0 hz1 hz2 rfl (.slice (some ⟨w.heap.size, 0, none⟩) 0 0) 0 [] rfl ?own (.slice (some a) l.length cap) l.length (l.map bv) rfl ?src ?b1 ?b2 ?next)
    case own => exact World.ownsRow_made w _ 0 (Nat.zero_le _) (by unfold maxLen; omega) rfl
    case src => exact src_lies Tryz.underlying28 (HL.out.kept (S := fun _ => False) ((Kept.refl _ w).alloc _) (fun _ _ _ h => h)) cap (bv_one l) l.length (by simp)
    case b1 => unfold maxLen; omega
    case b2 => omega
    case next =>
      intro v' w' ho hg hb _
      obtain ⟨ao', cap', rfl⟩ := owns_slice ho
      try simp only [Nat.zero_add, List.nil_append] at ho hb
      try simp only [Nat.zero_add]
      have hbl : Below w.heap.size w w' := ((Below.refl _ _).alloc (Nat.le_refl _) _).grown hg (by simp) (fun k h => by cases h; exact Nat.le_refl _)
      have ho2 := owns_base (base' := w.heap.size) ho (fun k hk => by
        rcases hb with hb | hb
        · rw [hb] at hk; cases hk; exact Nat.le_refl _
        · rw [hb] at hk; cases hk; simp)
      have HO := Lib.hid ho2; clear ho2 ho hg hb
      go_wp2
      go_ret
      exact ⟨ao', cap', rfl, HO.out, hbl⟩

end Go.Proofs.YtjnpmbdehalmpaaGreat
