/-
  Lemmas towards the claim of this folder: contracts of the functions that the law reaches; joined texts.
-/
import Derived.Test.YtofpnlmlenffnaaDoorR12m
/-
  The reference of layer 12: Quote.
-/
namespace Go.Proofs.YtofpnlmlenffnaaDoor
open Go.RowKit Go.Mk

/-- Octets under way. -/
structure Bq (w : World) (v : Value) (xs : List UInt8) (wx : World) : Prop where
  own : wx.ownsRow w.heap.size 5 1 v xs.length (xs.map bv)
  k : Kept (fun _ => False) w wx

theorem Bq.app {w : World} {v v' : Value} {xs : List UInt8} {wx wz wy : World} (h : Bq w v xs wx) (b : UInt8) (hz : Kept (fun _ => False) wx wz)
    (ho : wy.ownsRow 0 5 1 v' (xs.length + 1) (xs.map bv ++ [bv b])) (hg : wz.grownBy wy v.ownBlock) (hb : v'.ownBlock = v.ownBlock ∨ v'.ownBlock = some wz.heap.size) : Bq w v' (xs ++ [b]) wy := by
  have hlt := owns_lt h.own
  have hrow : ∀ k, v'.ownBlock = some k → w.heap.size ≤ k := fun k hk => by
    rcases hb with hb | hb
    · rw [hb] at hk; exact (hlt k hk).1
    · rw [hb] at hk; cases hk; exact Nat.le_trans h.k.size hz.size
  have k4 : Kept (fun k => v.ownBlock = some k) wx wy := Kept.grown (hz.mono (fun _ _ h => h.elim)) hg (fun k hk _ => hk)
  refine ⟨?_, h.k.trans k4 (fun i hi h1 => by have := (hlt i h1).1; omega)⟩
  have ho5 := owns_base (base' := w.heap.size) ho hrow
  rw [List.length_append, List.map_append]
  exact ho5

set_option maxHeartbeats 2000000 in
set_option maxRecDepth 100000 in
theorem r12quote_any (l : List UInt8) (w : World) (hl : l.length ≤ 1000000) :
    Calls Tryd.prog 14 #[.string (bs l)] w fun e w' => e = .returned (.string (bs (quoteL l))) ∧ Kept (fun _ => False) w w' := by
  obtain ⟨i0, hi, hz0, hz1, hz2⟩ := info_parts Tryd.infoByte
  have hs : (bs l).size = l.length := bs_size l
  have HQL := Lib.hid (show bs (quoteL l) = bs [39] ++ bs (dblL l) ++ bs [39] by rw [bs_append, bs_append]; rfl)
  generalize quoteL l = Q at *
  go_enter Tryd.func14, Tryd.ntmps14
  go_wp2
  go_loopg [3, 4] l.length (fun k u v wr => ∃ j : Nat, k = l.length - j ∧ v = .int .i64 (j : Int) ∧ j ≤ l.length ∧ Bq w u (dblL (l.take j)) wr)
  case atStart => exact ⟨0, rfl, rfl, Nat.zero_le _, World.ownsRow_nil _ _ _ _, Kept.refl _ _⟩
  case round =>
    obtain ⟨j, hk, rfl, hj, hq⟩ := hrel
    have HK := Lib.hid hk; have HQ := Lib.hid hq
    clear hk hq
    have hdl := dbl_len (l.take j)
    rw [List.length_take] at hdl
    have hdl2 : (dblL (l.take j)).length ≤ 2000000 := by omega
    by_cases hlt : j < l.length
    · have hlt1 : (j : Int) < ((bs l).size : Int) := by omega
      have hgj : ∀ h : j < (bs l).size, (((bs l)[j]'h).toNat : Int) = ((l[j]'hlt).toNat : Int) := fun h => by rw [bs_get l j hlt]
      have HT := Lib.hid (show dblL (l.take (j + 1)) = dblL (l.take j) ++ (if l[j]'hlt = 39 then [39, 39] else [l[j]'hlt]) by
        rw [List.take_add_one, List.getElem?_eq_getElem hlt, Option.toList_some, dblL_snoc])
      by_cases hc : l[j]'hlt = 39
      · rw [if_pos hc] at HT
        rw [hc] at hgj
        have hgj2 : ∀ h : j < (bs l).size, (((bs l)[j]'h).toNat : Int) = 39 := hgj
        clear hgj hc hdl
        generalize dblL (l.take j) = acc at *
        go_wp2_with (at_builtin; refine wpList_app _ rfl (.tmp 15) (.tmp 16) 45 45 rfl 5 i0 (.int .u8 0) 1 1 Tryd.underlying45 hi hz0 hz1 hz2 rfl _ _ _ rfl ((owns_base (base' := 0) HQ.out.own (fun _ _ => Nat.zero_le _)).alloc _) (.slice (some ⟨wr.heap.size, 0, none⟩) 1 1) 1 [.int .u8 39] rfl (src_one Tryd.underlying45 wr _ _ rfl) ?b1 ?b2 ?next)
        case b1 => unfold maxLen; omega
        case b2 => omega
        case next =>
          intro v' w4 ho4 hg4 hb4 _
          have Q4 := Lib.hid (HQ.out.app 39 ((Kept.refl (fun _ => False) wr).alloc _) ho4 hg4 (by first | exact hb4 | (rw [World.size_alloc]; exact hb4)))
          have hal : (acc ++ [(39 : UInt8)]).length ≤ 2000001 := by simp; omega
          clear ho4 hg4 hb4
          go_wp2_with (at_builtin; refine wpList_app _ rfl (.tmp 18) (.tmp 22) 45 45 rfl 5 i0 (.int .u8 0) 1 1 Tryd.underlying45 hi hz0 hz1 hz2 rfl _ _ _ rfl ((owns_base (base' := 0) Q4.out.own (fun _ _ => Nat.zero_le _)).alloc _) (.slice (some ⟨w4.heap.size, 0, none⟩) 1 1) 1 [.int .u8 39] rfl (src_one Tryd.underlying45 w4 _ _ rfl) ?c1 ?c2 ?next2)
          case c1 => unfold maxLen; omega
          case c2 => omega
          case next2 =>
            intro v5 w5 ho5 hg5 hb5 _
            have Q5 := Lib.hid (Q4.out.app 39 ((Kept.refl (fun _ => False) w4).alloc _) (by rw [List.length_append, List.map_append, List.append_assoc]; exact ho5) hg5 (by first | exact hb5 | (rw [World.size_alloc]; exact hb5)))
            clear ho5 hg5 hb5
            go_wp2
            go_roundg (l.length - (j + 1))
            case measure => have := HK.out; omega
            case rel => exact ⟨j + 1, rfl, by go_num, by omega, by rw [HT.out, show acc ++ [39, 39] = acc ++ [39] ++ [39] by simp]; exact Q5.out⟩
      · rw [if_neg hc] at HT
        have hy2 : ¬ ((l[j]'hlt).toNat : Int) = 39 := fun h => hc (UInt8.toNat_inj.1 (by have : (39 : UInt8).toNat = 39 := rfl; omega))
        have hbv : bv (l[j]'hlt) = .int .u8 ((l[j]'hlt).toNat : Int) := rfl
        generalize l[j]'hlt = c at *
        generalize (c.toNat : Int) = y at *
        have hy3 : (y == 39) = false := by simpa using hy2
        have HBV := Lib.hid hbv
        clear hc hdl hbv
        generalize dblL (l.take j) = acc at *
        go_wp2_with (at_builtin; refine wpList_app _ rfl (.tmp 18) (.tmp 22) 45 45 rfl 5 i0 (.int .u8 0) 1 1 Tryd.underlying45 hi hz0 hz1 hz2 rfl _ _ _ rfl ((owns_base (base' := 0) HQ.out.own (fun _ _ => Nat.zero_le _)).alloc _) (.slice (some ⟨wr.heap.size, 0, none⟩) 1 1) 1 [.int .u8 y] rfl (src_one Tryd.underlying45 wr _ _ rfl) ?b1 ?b2 ?next)
        case b1 => unfold maxLen; omega
        case b2 => omega
        case next =>
          intro v' w4 ho4 hg4 hb4 _
          have Q4 := Lib.hid (HQ.out.app c ((Kept.refl (fun _ => False) wr).alloc _) (by rw [HBV.out]; exact ho4) hg4 (by first | exact hb4 | (rw [World.size_alloc]; exact hb4)))
          clear ho4 hg4 hb4
          go_wp2
          go_roundg (l.length - (j + 1))
          case measure => have := HK.out; omega
          case rel => exact ⟨j + 1, rfl, by go_num, by omega, by rw [HT.out]; exact Q4.out⟩
    · obtain rfl : j = l.length := by omega
      have hq := HQ.out
      rw [List.take_length] at hq hdl2
      have HQ5 := Lib.hid hq
      obtain ⟨ao, cap, rfl⟩ := owns_slice hq.own
      have hcv := run_string_of wr 45 9 5 Tryd.underlying45 Tryd.underlying5 Tryd.underlying9 cap (dblL l).length rfl (owns_lies hq.own)
      have z1 : (bs [39]).size = 1 := rfl
      have z2 : (bs (dblL l)).size ≤ 2000000 := by rw [bs_size]; exact hdl2
      clear hdl hq
      have e39 : (⟨#[39]⟩ : ByteArray) = bs [39] := rfl
      go_wp2
      go_ret
      exact ⟨by rw [HQL.out]; rfl, HQ5.out.k⟩

end Go.Proofs.YtofpnlmlenffnaaDoor

/-
  The reference of layer 12: Same, of lists that are alike.
-/
namespace Go.Proofs.YtofpnlmlenffnaaDoor
open Go.RowKit Go.Mk

def eqT (pl : Bool) (a b : TK) : Prop := a.k = b.k ∧ a.x = b.x ∧ a.n = b.n ∧ (pl = true → a.at_ = b.at_)

theorem Ts.keep {w w' : World} {B : Nat} {ao : Option Addr} {ts : List TK} (h : Ts w B ao ts) (hk : Kept (fun _ => False) w w') : Ts w' B ao ts := Lies.kept h hk (fun _ _ _ h => h)

set_option maxHeartbeats 4000000 in
set_option maxRecDepth 100000 in
theorem r12same_yes (aa ba : Option Addr) (ac bc : Nat) (A B : List TK) (N M : Nat) (w : World) (hA : Ts w N aa A) (hB : Ts w M ba B) (pl : Bool) (hl : A.length = B.length) (he : ∀ j (h : j < A.length) (h' : j < B.length), eqT pl A[j] B[j]) (hn : A.length ≤ 1000000) :
    Calls Tryd.prog 11 #[.slice aa A.length ac, .slice ba B.length bc, .bool pl] w fun e w' => e = .returned (.bool true) ∧ Kept (fun _ => False) w w' := by
  have HA := Lib.hid hA; have HB := Lib.hid hB; have HE := Lib.hid he
  rw [← hl]
  have HL := Lib.hid hl
  clear hA hB he hl
  go_enter Tryd.func11, Tryd.ntmps11
  go_wp2
  go_loopg [7] A.length (fun k v wr => ∃ j : Nat, k = A.length - j ∧ v = .int .i64 (j : Int) ∧ j ≤ A.length ∧ Kept (fun _ => False) w wr)
  case atStart => exact ⟨0, rfl, rfl, Nat.zero_le _, Kept.refl _ _⟩
  case round =>
    obtain ⟨j, hk, rfl, hj, hq⟩ := hrel
    have HK := Lib.hid hk; have HQ := Lib.hid hq
    clear hk hq
    by_cases hlt : j < A.length
    · have hltB : j < B.length := by have := HL.out; omega
      obtain ⟨b1, o1, rfl, _, hc1⟩ := (HA.out.keep (Kept.drew HQ.out)).at (by intro h; rw [h] at hlt; simp at hlt)
      obtain ⟨b2, o2, rfl, _, hc2⟩ := (HB.out.keep (Kept.drew HQ.out)).at (by intro h; rw [h] at hltB; simp at hltB)
      obtain ⟨x0, x1, x2, x3⟩ := hc1 j hlt
      obtain ⟨y0, y1, y2, y3⟩ := hc2 j hltB
      obtain ⟨q1, q2, q3, q4⟩ := HE.out j hlt hltB
      have i1 : (j : Int) < (A.length : Int) := by omega
      clear hc1 hc2
      generalize A[j] = s at *
      generalize B[j] = t at *
      obtain ⟨sk, sx, sn, sa⟩ := s
      obtain ⟨tk, tx, tn, ta⟩ := t
      dsimp only at x0 x1 x2 x3 y0 y1 y2 y3 q1 q2 q3 q4
      subst q1 q2 q3
      have e1 : (sk != sk) = false := by simp
      have e3 : (sn != sn) = false := by simp
      have K1 := Lib.hid (Kept.drew HQ.out)
      cases pl with
      | true =>
        obtain rfl := q4 rfl
        go_wp2_with fail
        go_region
        all_goals go_wp2
        all_goals go_roundg (A.length - (j + 1))
        case measure => have := HK.out; omega
        case rel => exact ⟨j + 1, rfl, by go_num, by omega, K1.out⟩
      | false =>
        clear q4
        go_wp2_with fail
        go_region
        all_goals go_wp2
        all_goals go_roundg (A.length - (j + 1))
        case measure => have := HK.out; omega
        case rel => exact ⟨j + 1, rfl, by go_num, by omega, K1.out⟩
    · obtain rfl : j = A.length := by omega
      go_wp2
      go_ret
      exact ⟨rfl, HQ.out⟩

end Go.Proofs.YtofpnlmlenffnaaDoor
