/-
  Lemmas towards the claim of this folder: contracts of the functions that the law reaches; joined texts.
-/
import Derived.Test.YtjnpmbdehalmpaaGreatRows
import Derived.Test.YtjnpmbdehalmpaaGreatGMk
import Derived.Test.YtjnpmbdehalmpaaGreatRd
import Derived.Test.YtjnpmbdehalmpaaGreatGSr
/-
  CONTRACT of the reference of layer 1: Rest.
-/
namespace Go.Proofs.YtjnpmbdehalmpaaGreat
open Go.RowKit Go.Mk

theorem tmod_bd (a : Int) (n : Nat) (h1 : 1 ≤ n) : -(n : Int) < a.tmod n ∧ a.tmod n < n := by
  refine ⟨?_, Int.tmod_lt_of_pos _ (by omega)⟩
  rcases Int.le_total 0 a with h | h
  · have := Int.tmod_nonneg (n : Int) h
    omega
  · have h3 := Int.tmod_lt_of_pos (-a) (show (0 : Int) < n by omega)
    rw [Int.neg_tmod] at h3
    omega
theorem rest_nn (a : Int) (n : Nat) (h1 : 1 ≤ n) (h2 : n ≤ 2147483647) : 0 ≤ (wrap64 (a.tmod n + n)).tmod n ∧ (wrap64 (a.tmod n + n)).tmod n < n := by
  have h := tmod_bd a n h1
  have e : wrap64 (a.tmod n + n) = a.tmod n + n := by unfold wrap64; omega
  rw [e]
  exact ⟨Int.tmod_nonneg _ (by omega), Int.tmod_lt_of_pos _ (by omega)⟩
theorem rest_eq (a : Int) (n : Nat) (h1 : 1 ≤ n) (h2 : n ≤ 2147483647) : (wrap64 (a.tmod n + n)).tmod n = (((wrap64 (a.tmod n + n)).tmod n).toNat : Int) := by
  have := rest_nn a n h1 h2
  omega
theorem rest_lt (a : Int) (n : Nat) (h1 : 1 ≤ n) (h2 : n ≤ 2147483647) : ((wrap64 (a.tmod n + n)).tmod n).toNat < n := by
  have := rest_nn a n h1 h2
  omega

end Go.Proofs.YtjnpmbdehalmpaaGreat

/-
  CONTRACT of the Reader's Texts.
-/
namespace Go.Proofs.YtjnpmbdehalmpaaGreat
open Go.RowKit Go.Mk

set_option maxHeartbeats 400000 in
set_option maxRecDepth 100000 in
theorem rtexts_any' (D : Nat → Prop) (b : Nat) (ao : Option Addr) (cap : Nat) (s : RS) (w : World) (hD : ∀ k, D k → k < w.heap.size) (h : Rd w D b ao cap s) :
    Calls Tryz.prog 78 #[.pointer (some ⟨b, 0, none⟩)] w (RtPost w D b s.texts.2 s.texts.1) := by
  obtain ⟨i0, hi, hz0, hz1, hz2⟩ := info_parts Tryz.infoStr
  have c0 := h.c0
  have hbw := h.lt
  have H := Lib.hid h; clear h
  have HD := Lib.hid hD; clear hD
  have hnc := s.num_cases
  have ht : s.texts = if (RS.many s.num.2.toNat s.head).1.err ≠ 0 then (⟨s.rest, (RS.many s.num.2.toNat s.head).1.err⟩, []) else RS.many s.num.2.toNat s.head := rfl
  have hh : s.head = if s.num.1.tooMany s.num.2 then ⟨s.num.1.rest, 10⟩ else s.num.1 := rfl
  have HT := Lib.hid ht; have HNC := Lib.hid hnc; have HH := Lib.hid hh; clear ht hnc hh
  have hc := rnum_any' D b ao cap s w H.out
  generalize s.num = q at *
  obtain ⟨s1, n⟩ := q
  have HC := Lib.hid hc; clear hc
  go_enter Tryz.func78, Tryz.ntmps78
  go_wp2_with fail
  refine HC.out.mono ?_
  rintro e w1 ⟨rfl, ⟨ao1, cap1, h1⟩, k1⟩
  have d0 := h1.c0
  have d1 := h1.c1
  have g0 := h1.f0
  have g1 := h1.f1
  have H1 := Lib.hid h1; have K1 := Lib.hid k1; clear h1 k1
  go_upto_region 3 with fail
  go_cut [30] (fun v wx => v = .bool (s1.tooMany n) ∧ w1 = wx)
  case first =>
    by_cases he : s1.err = 0
    · have he1 : (s1.err == 0) = true := by simp [he]
      by_cases hA : 1000000 < n
      · have e : s1.tooMany n = true := by simp [RS.tooMany, he, hA]
        have E := Lib.hid e; clear e he
        have hA' : decide (1000000 < n) = true := by simp [hA]
        go_wp2_with fail
        go_meet
        case rel => exact ⟨by rw [E.out], rfl⟩
      · have hA' : decide (1000000 < n) = false := by simp [hA]
        by_cases hB : (s1.rest.length : Int) < n
        · have e : s1.tooMany n = true := by simp [RS.tooMany, he, hB]
          have E := Lib.hid e; clear e he
          go_wp2_with fail
          go_meet
          case rel => exact ⟨by rw [E.out], rfl⟩
        · have e : s1.tooMany n = false := by simp [RS.tooMany, he, hA, hB]
          have E := Lib.hid e; clear e he
          go_wp2_with fail
          go_meet
          case rel => exact ⟨by rw [E.out], rfl⟩
    · have he1 : (s1.err == 0) = false := by simp [he]
      have e : s1.tooMany n = false := by simp [RS.tooMany, he]
      have E := Lib.hid e; clear e he
      go_wp2_with fail
      go_meet
      case rel => exact ⟨by rw [E.out], rfl⟩
  case rest =>
    obtain ⟨rfl, rfl⟩ := hcut
    go_upto_if 30 with fail
    go_cut [] (fun wx => (∃ ao2 cap2, Rd wx D b ao2 cap2 s.head) ∧ Kept (fun k => k = b) w wx)
    case first =>
      by_cases hB : s1.tooMany n = true
      · have hh := HH.out
        rw [if_pos hB] at hh
        have HHH := Lib.hid hh; clear hh
        rw [hB]
        go_wp2_with fail
        go_meet
        case rel => exact ⟨⟨ao1, cap1, by rw [HHH.out]; exact H1.out.fail 10⟩, Kept.setCell (p := ⟨b, 1, none⟩) K1.out (fun _ => rfl) _⟩
      · have hB1 : s1.tooMany n = false := by simpa using hB
        have hh := HH.out
        rw [if_neg hB] at hh
        have HHH := Lib.hid hh; clear hh hB
        rw [hB1]
        go_wp2_with fail
        go_meet
        case rel => exact ⟨⟨ao1, cap1, by rw [HHH.out]; exact H1.out⟩, K1.out⟩
    case rest =>
      clear d0 d1 g0 g1
      obtain ⟨⟨ao2, cap2, h2⟩, k2⟩ := hcut
      have hn : 0 ≤ n ∧ n ≤ 2147483647 := by
        rcases HNC.out with ⟨_, hq⟩ | ⟨_, _, m, hm, hq⟩
        · simp only [Prod.mk.injEq] at hq; omega
        · simp only [Prod.mk.injEq] at hq; omega
      obtain ⟨hn0, hn1⟩ := hn
      obtain ⟨m, rfl⟩ := Int.eq_ofNat_of_zero_le hn0
      rw [Int.toNat_natCast] at HT
      generalize s.head = s0 at *
      have H2 := Lib.hid h2; have K2 := Lib.hid k2; clear h2 k2
      go_wp2
      go_loopg [5, 6] m (fun k l c wr => ∃ j s' done, k = m - j ∧ j ≤ m ∧ c = .int .i64 (j : Int) ∧ wr.ownsRow w.heap.size 9 1 l j (strs done) ∧ (∃ ao' cap', Rd wr D b ao' cap' s') ∧ (RS.many (m - j) s').1 = (RS.many m s0).1 ∧ done ++ (RS.many (m - j) s').2 = (RS.many m s0).2 ∧ Kept (fun k => k = b) w wr)
      case atStart => exact ⟨0, s0, [], rfl, Nat.zero_le _, rfl, World.ownsRow_nil _ _ _ _, ⟨_, _, H2.out⟩, rfl, rfl, K2.out⟩
      case round =>
        obtain ⟨j, s', done, hk, hj, rfl, hown, ⟨ao', cap', hr⟩, hm1, hm2, hkp⟩ := hrel
        have e0 := hr.c0
        have e1 := hr.c1
        have q0 := hr.f0
        have HK := Lib.hid hk; have HO := Lib.hid hown; have HR := Lib.hid hr; have HM1 := Lib.hid hm1; have HM2 := Lib.hid hm2; have HKP := Lib.hid hkp
        clear hk hown hr hm1 hm2 hkp
        by_cases hlt : j < m ∧ s'.err = 0
        · obtain ⟨hlt, he⟩ := hlt
          have he1 : (s'.err == 0) = true := by simp [he]
          have HE := Lib.hid he; clear he
          go_wp2_with fail
          refine (rtext_any' D b ao' cap' s' wr HR.out).mono ?_
          rintro e w3 ⟨rfl, ⟨ao3, cap3, h3⟩, k3⟩
          have ho3 := owns_base (base' := 0) (owns_kept HO.out k3 (fun k hk e => by have := (owns_lt HO.out k hk).1; omega)) (fun _ _ => Nat.zero_le _)
          have hlo := owns_lt HO.out
          have hz3 := HKP.out.size
          have hz4 := k3.size
          have H3 := Lib.hid h3; have K3 := Lib.hid k3; have HLO := Lib.hid hlo; have HO3 := Lib.hid ho3; clear h3 k3 hlo ho3
          go_wp2_with (at_builtin; refine wpList_app _ rfl (.tmp 46) (.tmp 49) 22 22 rfl 9 i0 (.string ⟨#[]⟩) 1 16 Tryz.underlying22 hi hz0 hz1 hz2 rfl _ _ _ rfl (HO3.out.alloc _) (.slice (some ⟨w3.heap.size, 0, none⟩) 1 1) 1 [.string (bs s'.text.2)] rfl (src_one Tryz.underlying22 w3 _ _ rfl) ?b1 ?b2 ?next)
          case b1 => unfold maxLen; omega
          case b2 => omega
          case next =>
            intro v' w4 ho4 hg4 hb4 _
            obtain ⟨ao4, cap4, rfl⟩ := owns_slice ho4
            have hrow : ∀ k, (Value.slice ao4 (j + 1) cap4).ownBlock = some k → w.heap.size ≤ k := fun k hk => by
              rcases hb4 with hb4 | hb4
              · rw [hb4] at hk; exact (HLO.out k hk).1
              · rw [hb4] at hk; cases hk; omega
            have k4 : Kept (fun k => w.heap.size ≤ k) w3 w4 := Kept.grown ((Kept.refl _ w3).alloc _) hg4 (fun k hk _ => (HLO.out k hk).1)
            have k5 : Kept (fun k => k = b) w w4 := (HKP.out.trans K3.out (fun _ _ h => h)).trans k4 (fun i hi h => absurd h (by omega))
            have hrd := H3.out.kept k4 (by omega) (fun k _ hk h => by have := HD.out k hk; omega)
            have hsplit : (RS.many (m - (j + 1)) s'.text.1).1 = (RS.many m s0).1 ∧ (done ++ [s'.text.2]) ++ (RS.many (m - (j + 1)) s'.text.1).2 = (RS.many m s0).2 := by
              have h1 := HM1.out
              have h2 := HM2.out
              rw [show m - j = (m - (j + 1)) + 1 by omega] at h1 h2
              simp only [RS.many, HE.out, ne_eq, not_true_eq_false, if_false] at h1 h2
              exact ⟨h1, by simpa using h2⟩
            have HS := Lib.hid hsplit; have HRD := Lib.hid hrd; have K5 := Lib.hid k5; have HROW := Lib.hid hrow
            have ho5 := owns_base (base' := w.heap.size) ho4 hrow
            have HO5 := Lib.hid ho5
            clear hsplit hrd k5 k4 ho4 hg4 hb4 hrow ho5
            go_wp2
            go_roundg (m - (j + 1))
            case measure => have := HK.out; omega
            case rel => exact ⟨j + 1, s'.text.1, done ++ [s'.text.2], rfl, by omega, by go_num, by simpa [strs] using HO5.out, ⟨_, _, HRD.out⟩, HS.out.1, HS.out.2, K5.out⟩
        · have hend : RS.many (m - j) s' = (s', []) := by
            apply RS.many_end
            by_cases h : j < m
            · exact .inr (fun e => hlt ⟨h, e⟩)
            · exact .inl (by omega)
          have f1 := HM1.out
          have f2 := HM2.out
          rw [hend] at f1 f2
          simp only [List.append_nil] at f2
          have hjd : done.length = j := by have := HO.out.1; simpa [strs] using this
          obtain ⟨aoL, capL, rfl⟩ := owns_slice HO.out
          have ht := HT.out
          rw [← f1] at ht
          have HTT := Lib.hid ht; have F2 := Lib.hid f2; have F1 := Lib.hid f1; have HJD := Lib.hid hjd
          clear ht f1 f2 hend hjd
          by_cases he : s'.err = 0
          · have he1 : (s'.err != 0) = false := by simp [he]
            have HE := Lib.hid he; clear he
            have hge : m ≤ j := by
              by_cases h : j < m
              · exact absurd ⟨h, HE.out⟩ hlt
              · omega
            clear hlt
            go_wp2
            go_ret
            have e : s.texts = (s', done) := by
              rw [HTT.out, if_neg (by rw [HE.out]; simp), Prod.ext_iff]
              exact ⟨F1.out.symm, F2.out.symm⟩
            rw [e]
            refine ⟨⟨aoL, capL, by rw [HJD.out]; rfl, ?_⟩, ⟨_, _, HR.out⟩, HKP.out⟩
            have := HO.out
            rwa [← HJD.out] at this
          · have he1 : (s'.err != 0) = true := by simp [he]
            have he2 : (s'.err == 0) = false := by simp [he]
            clear hlt
            have e : s.texts = (⟨s.rest, s'.err⟩, []) := by rw [HTT.out, if_pos he]
            have E := Lib.hid e; clear e he
            have FIN := Lib.hid (H.out.back HR.out HKP.out)
            by_cases hjm : j < m
            all_goals
              go_wp2
              go_ret
              rw [E.out]
              exact ⟨⟨none, 0, rfl, World.ownsRow_nil _ _ _ _⟩, ⟨_, _, FIN.out⟩, Kept.setCell (p := ⟨b, 0, none⟩) HKP.out (fun _ => rfl) _⟩

set_option maxHeartbeats 400000 in
theorem open_any (ao : Option Addr) (cap : Nat) (l : List UInt8) (B : Nat) (w : World) (hL : Lies w B ao (l.map bv)) (hl : l.length ≤ 1099511627776) :
    Calls Tryz.prog 74 #[.slice ao l.length cap] w fun e w' => ∃ b ao' cap', e = .returned (.pointer (some ⟨b, 0, none⟩)) ∧ w.heap.size ≤ b ∧ b < w'.heap.size ∧ Rd w' (fun k => w.heap.size ≤ k ∧ k < b) b ao' cap' ⟨l, 0⟩ ∧ Below w.heap.size w w' := by
  have HL := Lib.hid hL; clear hL
  go_enter Tryz.func74, Tryz.ntmps74
  go_wp2_with fail
  refine (clone_any ao cap l B w HL.out hl).mono ?_
  rintro e w1 ⟨ao', cap', rfl, ho, hb⟩
  have hz := hb.size
  have hlt := owns_lt ho
  have hls := owns_lies ho
  have hmx : l.length ≤ cap' ∧ cap' ≤ maxLen := by
    rcases ho.2 with ⟨h1, h2⟩ | ⟨g, c, cur, h1, _, _, h2, h3, _⟩
    · injection h1 with _ e2 e3; rw [e2, e3]; exact ⟨Nat.le_refl _, Nat.zero_le _⟩
    · injection h1 with _ e2 e3; rw [e3]; exact ⟨h2, h3⟩
  have HO := Lib.hid ho; have HB := Lib.hid hb; have HLT := Lib.hid hlt; have HLS := Lib.hid hls; have HMX := Lib.hid hmx
  clear ho hb hlt hls hmx
  go_wp2
  go_ret
  refine ⟨w1.heap.size, ao', cap', rfl, hz, by simp, ⟨by simp, by simp, by simp, by simp, HMX.out.1, HMX.out.2, ?_, ?_, by simp⟩, HB.out.alloc hz _⟩
  · exact (HLS.out.kept (S := fun _ => False) ((Kept.refl _ w1).alloc _) (fun _ _ _ h => h)).mono (by simp)
  · intro hn a ha
    exact HLT.out a.block (by rw [ha]; rfl)

end Go.Proofs.YtjnpmbdehalmpaaGreat

/-
  WHAT IS WRITTEN IS READ BACK: plain facts on the encodings.
-/
namespace Go.Proofs.YtjnpmbdehalmpaaGreat
open Go.RowKit Go.Mk

theorem natB_fold (k u n : Nat) : (bigB k u).foldl (fun n x => n * 256 + x.toNat) n = n * 256 ^ k + u % 256 ^ k := by
  induction k generalizing n with
  | zero => simp [bigB, Nat.mod_one]
  | succ k ih =>
    rw [bigB, List.foldl_cons, ih]
    have h1 : (UInt8.ofNat (u / 256 ^ k)).toNat = u / 256 ^ k % 256 := by simp
    rw [h1, Nat.pow_succ, Nat.mod_mul, Nat.add_mul, Nat.mul_assoc, Nat.mul_comm 256 (256 ^ k), Nat.add_assoc]
    congr 1
    rw [Nat.mul_comm (u / 256 ^ k % 256), Nat.add_comm]
theorem natB_bigB (k u : Nat) : natB (bigB k u) = u % 256 ^ k := by
  unfold natB
  rw [natB_fold]; simp

theorem take_big (k u : Nat) (t : List UInt8) : (bigB k u ++ t).take k = bigB k u ∧ (bigB k u ++ t).drop k = t := by
  have := bigB_length k u
  exact ⟨List.take_left' this, List.drop_left' this⟩

theorem read_num (n : Nat) (t : List UInt8) (h : n ≤ 2147483647) : (⟨bigB 4 n ++ t, 0⟩ : RS).num = (⟨t, 0⟩, (n : Int)) := by
  obtain ⟨e1, e2⟩ := take_big 4 n t
  have e3 : natB (bigB 4 n) = n := by rw [natB_bigB]; exact Nat.mod_eq_of_lt (by omega)
  unfold RS.num
  have hl : ¬ (bigB 4 n ++ t).length < 4 := by simp [bigB_length]
  have hb : ¬ 2147483647 < n := by omega
  simp only [e1, e2, e3, hl, hb, ne_eq, not_true_eq_false, if_false]

theorem asU64_back (n : Int) (h1 : -9223372036854775808 ≤ n) (h2 : n ≤ 9223372036854775807) : wrap64 (asU64 n : Int) = n := by
  have : (asU64 n : Int) = n % 18446744073709551616 := by
    rw [← asU64_eq, IntKind.wrap_u64]
  rw [this]
  unfold wrap64
  omega

theorem read_int (n : Int) (t : List UInt8) (h1 : -9223372036854775808 ≤ n) (h2 : n ≤ 9223372036854775807) : (⟨bigB 8 (asU64 n) ++ t, 0⟩ : RS).int = (⟨t, 0⟩, n) := by
  obtain ⟨e1, e2⟩ := take_big 8 (asU64 n) t
  have e3 : natB (bigB 8 (asU64 n)) = asU64 n := by
    rw [natB_bigB]; exact Nat.mod_eq_of_lt (asU64_lt n)
  unfold RS.int
  have hl : ¬ (bigB 8 (asU64 n) ++ t).length < 8 := by simp [bigB_length]
  simp only [e1, e2, e3, hl, ne_eq, not_true_eq_false, if_false, asU64_back n h1 h2]

theorem read_text (x t : List UInt8) (h : x.length ≤ 2147483647) : (⟨encT x ++ t, 0⟩ : RS).text = (⟨t, 0⟩, x) := by
  have e : (⟨encT x ++ t, 0⟩ : RS).num = (⟨x ++ t, 0⟩, (x.length : Int)) := by
    rw [encT, List.append_assoc]
    exact read_num _ _ h
  have hl : ¬ (x ++ t).length < x.length := by simp
  unfold RS.text
  simp only [e, Int.toNat_natCast, hl, ne_eq, not_true_eq_false, if_false, List.take_left', List.drop_left']

theorem read_many (l : List (List UInt8)) (t : List UInt8) (h : ∀ x ∈ l, x.length ≤ 2147483647) : RS.many l.length ⟨(l.map encT).flatten ++ t, 0⟩ = (⟨t, 0⟩, l) := by
  induction l with
  | nil => rfl
  | cons x l ih =>
    have e := read_text x ((l.map encT).flatten ++ t) (h x List.mem_cons_self)
    have e2 := ih (fun y hy => h y (List.mem_cons_of_mem _ hy))
    simp only [List.map_cons, List.flatten_cons, List.append_assoc, List.length_cons, RS.many, e, e2, ne_eq, not_true_eq_false, if_false]

theorem read_texts (l : List (List UInt8)) (t : List UInt8) (hl : l.length ≤ 1000000) (h : ∀ x ∈ l, x.length ≤ 2147483647) : (⟨encL l ++ t, 0⟩ : RS).texts = (⟨t, 0⟩, l) := by
  have e : (⟨encL l ++ t, 0⟩ : RS).num = (⟨(l.map encT).flatten ++ t, 0⟩, (l.length : Int)) := by
    rw [encL, List.append_assoc]
    exact read_num _ _ (by omega)
  have hs : l.length ≤ sumL l := by
    clear e hl h
    induction l with
    | nil => simp
    | cons x l ih => simp [sumL] at *; omega
  have ht : (⟨encL l ++ t, 0⟩ : RS).head = ⟨(l.map encT).flatten ++ t, 0⟩ := by
    unfold RS.head RS.tooMany
    rw [e]
    have : ¬ (1000000 < (l.length : Int) ∨ ((((l.map encT).flatten ++ t).length : Nat) : Int) < (l.length : Int)) := by
      simp only [List.length_append, flat_len]; omega
    simp only [this, and_false, decide_false, Bool.false_eq_true, if_false]
  unfold RS.texts
  rw [ht, e, Int.toNat_natCast, read_many l t h]
  simp

end Go.Proofs.YtjnpmbdehalmpaaGreat
