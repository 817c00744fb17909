/-
  The reference of layer 12: Token, where a string begins.
-/
import Derived.Test.YtofpnlmlenffnaaDoorR12d
import Derived.Test.YtofpnlmlenffnaaDoorGPz9
namespace Go.Proofs.YtofpnlmlenffnaaDoor
open Go.RowKit Go.Mk

theorem owns_off' {w : World} {base : Nat} {e : TypeId} {size n cap : Nat} {ao : Option Addr} {xs : List Value} (h : w.ownsRow base e size (.slice ao n cap) n xs) (hn : n ≠ 0) : ∃ g, ao = some ⟨g, 0, none⟩ ∧ base ≤ g := by
  rcases h.2 with ⟨_, h2⟩ | ⟨g, c, cur, hv, hb, _⟩
  · exact (hn h2).elim
  · cases hv; exact ⟨g, rfl, hb⟩

theorem lett39 : ltrI 39 = false := rfl
theorem dig39 : digI 39 = false := rfl

set_option maxHeartbeats 4000000 in
set_option maxRecDepth 100000 in
theorem r12tok_str (l : List UInt8) (a : Nat) (w : World) (ha : a < l.length) (hc : (l[a]'ha) = 39) (hl : l.length ≤ 1000000) :
    Calls Tryd.prog 15 #[.string (bs l), .int .i64 (a : Int)] w (TkP w a (tokL (l.drop a))) := by
  obtain ⟨i0, hi, hz0, hz1, hz2⟩ := info_parts Tryd.infoByte
  have hs : (bs l).size = l.length := bs_size l
  have j0 : (a : Int) < ((bs l).size : Int) := by omega
  have hgj : ∀ h : a < (bs l).size, (((bs l)[a]'h).toNat : Int) = 39 := fun h => by rw [bs_get l a ha, hc]; rfl
  have HL := Lib.hid (r12let_any 39)
  rw [lett39] at HL
  have HD := Lib.hid (r12dig_any 39)
  rw [dig39] at HD
  rw [tok_str ha hc]
  obtain ⟨wA, hwA⟩ : ∃ wA, (w.alloc (.cells #[.int .i64 0, .string ⟨#[]⟩, .int .i64 0, .int .i64 0] 35)).alloc (.cells #[.int .i64 0, .string ⟨#[]⟩, .int .i64 0, .int .i64 (a : Int)] 35) = wA := ⟨_, rfl⟩
  have Q0 := Lib.hid (tq_new w a)
  rw [hwA] at Q0
  clear hc
  obtain ⟨R, hR⟩ : ∃ R, Go.Mk.strL (l.drop (a + 1)) = R := ⟨_, rfl⟩
  rw [hR]
  have HR := Lib.hid hR
  clear hR
  have hne : ¬ w.heap.size = w.heap.size + 1 := by omega
  go_enter Tryd.func15, Tryd.ntmps15
  go_wp2_with fail
  refine (HL.out _).mono ?_
  rintro e w1 ⟨rfl, rfl⟩
  go_wp2_with fail
  refine (HD.out _).mono ?_
  rintro e w1 ⟨rfl, rfl⟩
  go_wp2
  clear hgj j0 hwA
  go_loopg [10, 11] (l.length - (a + 1)) (fun k u v wr => ∃ (acc : List UInt8) (n m : Nat), m = a + 1 + n ∧ k = l.length - m ∧ v = .int .i64 (m : Int) ∧ m ≤ l.length ∧ acc.length ≤ n ∧ wr.ownsRow (w.heap.size + 2) 5 1 u acc.length (acc.map bv) ∧ strAt acc n (l.drop m) = R ∧ Tq w ⟨0, [], 0, (a : Int)⟩ wr)
  case atStart => exact ⟨[], 0, a + 1, rfl, rfl, by simp, by omega, Nat.le_refl _, World.ownsRow_nil _ _ _ _, by rw [strAt_zero]; exact HR.out, Q0.out⟩
  case round =>
    obtain ⟨acc, n, m, hm, hk, rfl, hml, hal, ho, hst, hq⟩ := hrel
    have HM := Lib.hid hm; have HK := Lib.hid hk; have HAL := Lib.hid hal; have HO := Lib.hid ho; have HST := Lib.hid hst; have HQ := Lib.hid hq
    clear hm hk hal ho hst hq
    obtain ⟨⟨r0, r1, r2, r3, g0, g1, g2, g3⟩, ⟨c0, c1, c2, c3, f0, f1, f2, f3⟩, _, _⟩ := HQ.out
    dsimp only at c0 c1 c2 c3
    by_cases hlt : m < l.length
    · have hlt1 : (m : Int) < ((bs l).size : Int) := by omega
      have hgm : ∀ h : m < (bs l).size, (((bs l)[m]'h).toNat : Int) = ((l[m]'hlt).toNat : Int) := fun h => by rw [bs_get l m hlt]
      have hdc := drop_cons l m hlt
      have k3 : (m : Int) + 1 ≤ ((bs l).size : Int) := by omega
      by_cases hy : l[m]'hlt = 39
      · have hy2 : ((l[m]'hlt).toNat : Int) = 39 := by rw [hy]; rfl
        rw [hy2] at hgm
        rw [hy] at hdc
        have HLI := Lib.hid (show ∀ W : World, Kept (fun k => k = w.heap.size + 1) wr W → (convert 45 9 u10).run Tryd.prog W = .ok (.string (bs acc)) W from fun W hk => by
          obtain ⟨ao, cap, rfl⟩ := owns_slice HO.out
          exact run_string_of W 45 9 5 Tryd.underlying45 Tryd.underlying5 Tryd.underlying9 cap acc.length rfl ((owns_lies HO.out).kept hk (fun hn b hb e => by
            obtain ⟨g, off, e1, _, _⟩ := owns_lies HO.out hn
            obtain ⟨g', hg'⟩ := owns_off' HO.out (by intro h0; exact hn (by rw [List.eq_nil_of_length_eq_zero h0]; rfl))
            rw [hg'.1] at hb
            cases hb
            dsimp only at e
            omega)))
        have hcv := HLI.out (wr.setCell ⟨w.heap.size + 1, 0, none⟩ (.int .i64 5)) (Kept.setCell (S := fun k => k = w.heap.size + 1) (p := ⟨w.heap.size + 1, 0, none⟩) (Kept.refl _ wr) (fun _ => rfl) _)
        by_cases hend : m + 1 = l.length
        · have HRR := Lib.hid (show R = some (acc, n + 1) by rw [← HST.out, hdc]; exact strAt_end acc n (by rw [List.drop_eq_nil_of_le (by omega)]; simp))
          have he1 : (m : Int) + 1 = ((bs l).size : Int) := by omega
          have HEND := Lib.hid hend
          obtain rfl := HRR.out
          clear hend hdc hy hy2
          go_wp2
          have hd := HQ.out.fin 5 acc
          refine bodyPost_ret (results_box2 rfl rfl (load_tk hd.1)) rfl ?_
          exact tkp_some hd.2 (by have := HM.out; have := HEND.out; omega)
        · have hm1 : m + 1 < l.length := by omega
          have he1 : ¬ (m : Int) + 1 = ((bs l).size : Int) := by omega
          have he2 : (m : Int) + 1 < ((bs l).size : Int) := by omega
          have hgn : ∀ h : m + 1 < (bs l).size, (((bs l)[m + 1]'h).toNat : Int) = ((l[m + 1]'hm1).toNat : Int) := fun h => by rw [bs_get l (m + 1) hm1]
          have hdc2 := drop_cons l (m + 1) hm1
          by_cases hz : l[m + 1]'hm1 = 39
          · have hz2 : ((l[m + 1]'hm1).toNat : Int) = 39 := by rw [hz]; rfl
            rw [hz2] at hgn
            rw [hz] at hdc2
            have HS2 := Lib.hid (show strAt (acc ++ [39]) (n + 2) (l.drop (m + 2)) = R by rw [← strAt_two acc n, ← hdc2, ← hdc]; exact HST.out)
            have hacc := HAL.out
            have hmn : n ≤ m := by have := HM.out; omega
            have k4 : (m : Int) + 2 ≤ ((bs l).size : Int) := by omega
            clear hend hdc hdc2 hy hy2 hz hz2 hcv
            go_wp2_with (at_builtin; refine wpList_app _ rfl (.tmp 133) (.tmp 137) 45 45 rfl 5 i0 (.int .u8 0) 1 1 Tryd.underlying45 hi hz0 hz1 hz2 rfl _ _ _ rfl ((owns_base (base' := 0) HO.out (fun _ _ => Nat.zero_le _)).alloc _) (.slice (some ⟨wr.heap.size, 0, none⟩) 1 1) 1 [.int .u8 39] rfl (src_one Tryd.underlying45 wr _ _ rfl) ?b1 ?b2 ?next)
            case b1 => unfold maxLen; omega
            case b2 => omega
            case next =>
              intro v' w4 ho4 hg4 hb4 _
              have hrow : ∀ k, v'.ownBlock = some k → w.heap.size + 2 ≤ k := fun k hk => by
                rcases hb4 with hb4 | hb4
                · rw [hb4] at hk; exact (owns_lt HO.out k hk).1
                · rw [hb4] at hk; cases hk; have := HQ.out.sz; simp; omega
              have k4 : Kept (fun k => w.heap.size + 2 ≤ k) wr w4 := Kept.grown ((Kept.refl _ wr).alloc _) hg4 (fun k hk _ => (owns_lt HO.out k hk).1)
              have HO5 := Lib.hid (show w4.ownsRow (w.heap.size + 2) 5 1 v' (acc ++ [39]).length ((acc ++ [(39 : UInt8)]).map bv) from by
                rw [List.length_append, List.map_append]
                exact owns_base (base' := w.heap.size + 2) ho4 hrow)
              have Q4 := Lib.hid (HQ.out.kept k4 (fun _ h => h))
              clear ho4 hg4 hb4 hrow k4
              go_wp2
              go_roundg (l.length - (m + 2))
              case measure => have := HK.out; omega
              case rel => exact ⟨acc ++ [39], n + 2, m + 2, by have := HM.out; omega, rfl, by go_num, by omega, by simp; have := HAL.out; omega, HO5.out, HS2.out, Q4.out⟩
          · have hz2 : ¬ ((l[m + 1]'hm1).toNat : Int) = 39 := fun h => hz (UInt8.toNat_inj.1 (by have : (39 : UInt8).toNat = 39 := rfl; omega))
            have HRR := Lib.hid (show R = some (acc, n + 1) by rw [← HST.out, hdc]; exact strAt_end acc n (by rw [hdc2]; intro h; exact hz (Option.some.inj h)))
            obtain rfl := HRR.out
            generalize ((l[m + 1]'hm1).toNat : Int) = zi at *
            have hz3 : (zi == 39) = false := by simpa using hz2
            have hz4 : (zi != 39) = true := by simpa using hz2
            clear hend hdc hdc2 hy hy2 hz
            go_wp2
            have hd := HQ.out.fin 5 acc
            refine bodyPost_ret (results_box2 rfl rfl (load_tk hd.1)) rfl ?_
            exact tkp_some (E := m + 1) hd.2 (by have := HM.out; omega)
      · have hy2 : ¬ ((l[m]'hlt).toNat : Int) = 39 := fun h => hy (UInt8.toNat_inj.1 (by have : (39 : UInt8).toNat = 39 := rfl; omega))
        have HS2 := Lib.hid (show strAt (acc ++ [l[m]'hlt]) (n + 1) (l.drop (m + 1)) = R by rw [← strAt_other acc n _ hy, ← hdc]; exact HST.out)
        have hbv : bv (l[m]'hlt) = .int .u8 ((l[m]'hlt).toNat : Int) := rfl
        generalize l[m]'hlt = y at *
        generalize hyi : (y.toNat : Int) = yi at *
        have hy3 : (yi == 39) = false := by simpa using hy2
        have hacc := HAL.out
        have hmn : n ≤ m := by have := HM.out; omega
        have HBV := Lib.hid hbv
        clear hy hdc hyi hbv
        go_wp2_with (at_builtin; refine wpList_app _ rfl (.tmp 133) (.tmp 137) 45 45 rfl 5 i0 (.int .u8 0) 1 1 Tryd.underlying45 hi hz0 hz1 hz2 rfl _ _ _ rfl ((owns_base (base' := 0) HO.out (fun _ _ => Nat.zero_le _)).alloc _) (.slice (some ⟨wr.heap.size, 0, none⟩) 1 1) 1 [.int .u8 yi] rfl (src_one Tryd.underlying45 wr _ _ rfl) ?b1 ?b2 ?next)
        case b1 => unfold maxLen; omega
        case b2 => omega
        case next =>
          intro v' w4 ho4 hg4 hb4 _
          have hrow : ∀ k, v'.ownBlock = some k → w.heap.size + 2 ≤ k := fun k hk => by
            rcases hb4 with hb4 | hb4
            · rw [hb4] at hk; exact (owns_lt HO.out k hk).1
            · rw [hb4] at hk; cases hk; have := HQ.out.sz; simp; omega
          have k4 : Kept (fun k => w.heap.size + 2 ≤ k) wr w4 := Kept.grown ((Kept.refl _ wr).alloc _) hg4 (fun k hk _ => (owns_lt HO.out k hk).1)
          have HO5 := Lib.hid (show w4.ownsRow (w.heap.size + 2) 5 1 v' (acc ++ [y]).length ((acc ++ [y]).map bv) from by
            rw [List.length_append, List.map_append]
            have h := owns_base (base' := w.heap.size + 2) ho4 hrow
            rw [← HBV.out] at h
            exact h)
          have Q4 := Lib.hid (HQ.out.kept k4 (fun _ h => h))
          clear ho4 hg4 hb4 hrow k4
          go_wp2
          go_roundg (l.length - (m + 1))
          case measure => have := HK.out; omega
          case rel => exact ⟨acc ++ [y], n + 1, m + 1, by have := HM.out; omega, rfl, by go_num, by omega, by simp; exact HAL.out, HO5.out, HS2.out, Q4.out⟩
    · have hge : ¬ (m : Int) < ((bs l).size : Int) := by omega
      obtain rfl : R = none := by rw [← HST.out, List.drop_eq_nil_of_le (by omega), strAt_nil]
      go_wp2
      have hd := HQ.out.done
      refine bodyPost_ret (results_box2 rfl rfl (load_tk hd.1)) rfl ?_
      exact tkp_no hd.2

end Go.Proofs.YtofpnlmlenffnaaDoor
