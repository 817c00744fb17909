/-
  CONTRACT of strings.ReplaceAll (the library's own, at this program), a quote for two; scan.Quote.
-/
import Derived.Test.YtofpnlmlenffnaaDoorCt
import Derived.Test.YtofpnlmlenffnaaDoorPzb
import Derived.Shelf.Strings.Replace
import Derived.Lib.SplitLaws
namespace Go.Mk

theorem index_one (c : UInt8) : ∀ (l : List UInt8), c ∉ l → Lib.index l [c] = -1
  | [], _ => rfl
  | b :: l, h => by
    have h1 : ¬ c = b := fun e => h (by simp [e])
    have h2 := index_one c l (fun e => h (by simp [e]))
    rw [Lib.index, h2]
    have : ([c].isPrefixOf (b :: l)) = false := by simp [List.isPrefixOf, h1]
    rw [this]
    rfl

theorem index_at (c : UInt8) : ∀ (p r : List UInt8), c ∉ p → Lib.index (p ++ c :: r) [c] = (p.length : Int)
  | [], r, _ => by
    rw [List.nil_append, Lib.index]
    simp
  | b :: p, r, h => by
    have h1 : ¬ c = b := fun e => h (by simp [e])
    have h2 := index_at c p r (fun e => h (by simp [e]))
    rw [List.cons_append, Lib.index, h2]
    have : ([c].isPrefixOf (b :: (p ++ c :: r))) = false := by simp [List.isPrefixOf, h1]
    rw [this]
    have h3 : (((p.length : Int)) == -1) = false := by
      rw [beq_eq_false_iff_ne]
      omega
    rw [h3]
    simp

theorem dblL_app (p r : List UInt8) (h : (39 : UInt8) ∉ p) : dblL (p ++ r) = p ++ dblL r := by
  induction p with
  | nil => rfl
  | cons b p ih =>
    have h1 : ¬ b = 39 := fun e => h (by simp [e])
    rw [List.cons_append, dblL, if_neg h1, ih (fun e => h (by simp [e]))]
    rfl

theorem split_39 : ∀ (l : List UInt8), (39 : UInt8) ∈ l → ∃ p r, l = p ++ 39 :: r ∧ (39 : UInt8) ∉ p
  | [], h => by simp at h
  | b :: l, h => by
    by_cases hb : b = 39
    · exact ⟨[], l, by rw [hb]; rfl, by simp⟩
    · obtain ⟨p, r, e, hp⟩ := split_39 l (by
        rcases List.mem_cons.1 h with h | h
        · exact (hb h.symm).elim
        · exact h)
      refine ⟨b :: p, r, by rw [e]; rfl, fun hm => ?_⟩
      rcases List.mem_cons.1 hm with hm | hm
      · exact hb hm.symm
      · exact hp hm

theorem repl_dbl : ∀ (n : Nat) (l : List UInt8), l.count 39 = n → Lib.replaceK [39] [39, 39] n l = dblL l
  | 0, l, h => by
    have hm : (39 : UInt8) ∉ l := List.count_eq_zero.1 h
    have := dblL_app l [] hm
    rw [List.append_nil] at this
    rw [Lib.replaceK, this]
    simp [dblL]
  | n + 1, l, h => by
    obtain ⟨p, r, rfl, hp⟩ := split_39 l (List.count_pos_iff.1 (by omega))
    have hc : r.count 39 = n := by
      rw [List.count_append, List.count_cons_self, List.count_eq_zero.2 hp] at h
      omega
    rw [Lib.replaceK_hit _ _ _ _ p.length (index_at 39 p r hp), dblL_app p _ hp, dblL, if_pos rfl, ← repl_dbl n r hc]
    have e1 : (p ++ 39 :: r).take p.length = p := by simp
    have e2 : (p ++ 39 :: r).drop (p.length + ([39] : List UInt8).length) = r := by
      rw [← List.drop_drop]
      simp
    rw [e1, e2]
    simp

theorem replaceAll_dbl (l : List UInt8) : Lib.replaceAll l [39] [39, 39] = dblL l := by
  unfold Lib.replaceAll Lib.replace Lib.replaceNum
  rw [if_neg (by decide), if_pos (by omega), Lib.count_one, repl_dbl _ l rfl]

end Go.Mk
namespace Go.Proofs.YtofpnlmlenffnaaDoor
open Go.RowKit Go.Mk

def replRen : Go.Shelf.Ren := ⟨fun | 138 => 44 | 143 => 46 | 154 => 30 | 155 => 20 | 165 => 45 | 166 => 47 | 169 => 49 | 195 => 59 | 197 => 48 | 217 => 51 | 218 => 60 | 219 => 63 | 224 => 79 | 225 => 78 | 240 => 61 | 241 => 62 | 260 => 64 | 266 => 65 | 267 => 80 | 276 => 76 | 277 => 77 | 314 => 88 | n => n,
  fun | 0 => 0 | 3 => 3 | 4 => 4 | 5 => 5 | 9 => 9 | 20 => 20 | 21 => 21 | 37 => 45 | 46 => 79 | 51 => 91 | 70 => 59 | 72 => 61 | 75 => 64 | 76 => 65 | 80 => 69 | 105 => 67 | 119 => 80 | 127 => 57 | 138 => 82 | 139 => 83 | 146 => 92 | 164 => 75 | n => n, fun | 1 => 0 | 3 => 1 | 4 => 2 | n => n⟩

theorem replLays : Go.Proofs.Lays.n155 Tryd.prog replRen := {
  mixed := by kernel_rfl
  f138 := Tryd.func44.trans (congrArg some (by kernel_rfl))
  f143 := Tryd.func46.trans (congrArg some (by kernel_rfl))
  f154 := Tryd.func30.trans (congrArg some (by kernel_rfl))
  f155 := Tryd.func20.trans (congrArg some (by kernel_rfl))
  f165 := Tryd.func45.trans (congrArg some (by kernel_rfl))
  f166 := Tryd.func47.trans (congrArg some (by kernel_rfl))
  f169 := Tryd.func49.trans (congrArg some (by kernel_rfl))
  f195 := Tryd.func59.trans (congrArg some (by kernel_rfl))
  f197 := Tryd.func48.trans (congrArg some (by kernel_rfl))
  f217 := Tryd.func51.trans (congrArg some (by kernel_rfl))
  f218 := Tryd.func60.trans (congrArg some (by kernel_rfl))
  f219 := Tryd.func63.trans (congrArg some (by kernel_rfl))
  f224 := Tryd.func79.trans (congrArg some (by kernel_rfl))
  f225 := Tryd.func78.trans (congrArg some (by kernel_rfl))
  f240 := Tryd.func61.trans (congrArg some (by kernel_rfl))
  f241 := Tryd.func62.trans (congrArg some (by kernel_rfl))
  f260 := Tryd.func64.trans (congrArg some (by kernel_rfl))
  f266 := Tryd.func65.trans (congrArg some (by kernel_rfl))
  f267 := Tryd.func80.trans (congrArg some (by kernel_rfl))
  f276 := Tryd.func76.trans (congrArg some (by kernel_rfl))
  f277 := Tryd.func77.trans (congrArg some (by kernel_rfl))
  f314 := Tryd.func88.trans (congrArg some (by kernel_rfl))
  t0 := Tryd.underlying0
  a0 := Tryd.isAgg0
  z0 := Tryd.sizeOf0
  v0 := Tryd.zeroValue0
  t3 := Tryd.underlying3
  a3 := Tryd.isAgg3
  z3 := Tryd.sizeOf3
  v3 := Tryd.zeroValue3
  t4 := Tryd.underlying4
  a4 := Tryd.isAgg4
  z4 := Tryd.sizeOf4
  v4 := Tryd.zeroValue4
  t5 := Tryd.underlying5
  a5 := Tryd.isAgg5
  z5 := Tryd.sizeOf5
  v5 := Tryd.zeroValue5
  t9 := Tryd.underlying9
  a9 := Tryd.isAgg9
  z9 := Tryd.sizeOf9
  v9 := Tryd.zeroValue9
  t20 := Tryd.underlying20
  a20 := Tryd.isAgg20
  z20 := Tryd.sizeOf20
  v20 := Tryd.zeroValue20
  t21 := Tryd.underlying21
  a21 := Tryd.isAgg21
  z21 := Tryd.sizeOf21
  v21 := Tryd.zeroValue21
  t37 := Tryd.underlying45
  a37 := Tryd.isAgg45
  z37 := Tryd.sizeOf45
  v37 := Tryd.zeroValue45
  t46 := Tryd.underlying79
  a46 := Tryd.isAgg79
  z46 := Tryd.sizeOf79
  v46 := Tryd.zeroValue79
  t51 := Tryd.underlying91
  a51 := Tryd.isAgg91
  z51 := Tryd.sizeOf91
  v51 := Tryd.zeroValue91
  t70 := Tryd.underlying59
  a70 := Tryd.isAgg59
  z70 := Tryd.sizeOf59
  v70 := Tryd.zeroValue59
  t72 := Tryd.underlying61
  a72 := Tryd.isAgg61
  z72 := Tryd.sizeOf61
  v72 := Tryd.zeroValue61
  t75 := Tryd.underlying64
  a75 := Tryd.isAgg64
  z75 := Tryd.sizeOf64
  v75 := Tryd.zeroValue64
  t76 := Tryd.underlying65
  a76 := Tryd.isAgg65
  z76 := Tryd.sizeOf65
  v76 := Tryd.zeroValue65
  t105 := Tryd.underlying67
  a105 := Tryd.isAgg67
  z105 := Tryd.sizeOf67
  v105 := Tryd.zeroValue67
  t119 := Tryd.underlying80
  a119 := Tryd.isAgg80
  z119 := Tryd.sizeOf80
  t127 := Tryd.underlying57
  a127 := Tryd.isAgg57
  z127 := Tryd.sizeOf57
  v127 := Tryd.zeroValue57
  t138 := Tryd.underlying82
  a138 := Tryd.isAgg82
  z138 := Tryd.sizeOf82
  v138 := Tryd.zeroValue82
  t139 := Tryd.underlying83
  a139 := Tryd.isAgg83
  z139 := Tryd.sizeOf83
  v139 := Tryd.zeroValue83
  t146 := Tryd.underlying92
  a146 := Tryd.isAgg92
  z146 := Tryd.sizeOf92
  v146 := Tryd.zeroValue92
  t164 := Tryd.underlying75
  a164 := Tryd.isAgg75
  z164 := Tryd.sizeOf75
  v164 := Tryd.zeroValue75
  g1 := by kernel_rfl
  g3 := by kernel_rfl
  g4 := by kernel_rfl }

theorem replExtra : Builder.Extra Tryd.prog replRen where
  sizeBuilder := by kernel_rfl
  liesBuilder := by kernel_rfl
  t5 := Tryd.underlying5
  a5 := Tryd.isAgg5
  z5 := Tryd.sizeOf5
  v5 := Tryd.zeroValue5
  infoByte := by kernel_rfl
  cellsByte := by kernel_rfl
  sizeByte := by kernel_rfl
  neB5 := by decide

theorem srepl_any (l : List UInt8) (w : World) (hm : MaxAt w) (hl : l.length ≤ 1000000) :
    Calls Tryd.prog 20 #[.string (bs l), .string ⟨#[39]⟩, .string ⟨#[39, 39]⟩] w fun e w' => e = .returned (.string (bs (dblL l))) ∧ Kept (fun _ => False) w w' := by
  obtain ⟨m, hm⟩ := hm
  have hc : Lib.countB (bs l) ⟨#[39]⟩ = l.count 39 := Lib.count_one 39 l
  have hcl : l.count (39 : UInt8) ≤ l.length := List.count_le_length
  refine (Any.strings_ReplaceAll replLays replExtra (bs l) ⟨#[39]⟩ ⟨#[39, 39]⟩ m w (by rw [bs_size]; omega) hm (Nat.le_refl _) (by rw [hc, bs_size, show (⟨#[39, 39]⟩ : ByteArray).size = 2 from rfl]; omega)).mono ?_
  rintro e w' ⟨rfl, hb⟩
  refine ⟨?_, kept_of_below hb⟩
  rw [bs_toList, show (⟨#[39]⟩ : ByteArray).data.toList = [39] from rfl, show (⟨#[39, 39]⟩ : ByteArray).data.toList = [39, 39] from rfl, replaceAll_dbl]
  rfl

set_option maxHeartbeats 1000000 in
theorem dquoteM_any (l : List UInt8) (w : World) (hm : MaxAt w) (hl : l.length ≤ 1000000) :
    Calls Tryd.prog 13 #[.string (bs l)] w fun e w' => e = .returned (.string (bs (quoteL l))) ∧ Kept (fun _ => False) w w' := by
  have HC := Lib.hid (srepl_any l w hm hl)
  have HQL := Lib.hid (show bs (quoteL l) = bs [39] ++ bs (dblL l) ++ bs [39] by rw [bs_append, bs_append]; rfl)
  have hdl := dbl_len l
  have z1 : (bs [39]).size = 1 := rfl
  have z2 : (bs (dblL l)).size ≤ 2000000 := by rw [bs_size]; omega
  have e39 : (⟨#[39]⟩ : ByteArray) = bs [39] := rfl
  generalize quoteL l = Q at *
  clear hdl hm
  go_enter Tryd.func13, Tryd.ntmps13
  go_wp2_with fail
  refine HC.out.mono ?_
  rintro e w1 ⟨rfl, k1⟩
  have K1 := Lib.hid k1; clear k1
  go_wp2
  go_ret
  exact ⟨by rw [HQL.out]; rfl, K1.out⟩

end Go.Proofs.YtofpnlmlenffnaaDoor
