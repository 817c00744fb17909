/-
  CONTRACTS of the reference of layer 3: Crash.
-/
import Derived.Test.YtobikgcoekiboaaR3b
import Derived.Deep.CutBlock
import Derived.Deep.DeepCutAuto
namespace Go.Proofs.Ytobikgcoekiboaa
open Go.RowKit Go.Mk

set_option maxRecDepth 100000 in
set_option maxHeartbeats 4000000 in
theorem rcrash_any {w : World} {rb n : Nat} {sure : List UInt8} {ws : List Wt} {pv : Value} {left : Int} (h : RkAt w rb n sure ws pv left) (ao : Option Addr) (kcap : Nat) (ks : List Bool) (hL : Lies w w.heap.size ao (ks.map .bool)) (hn : ks ≠ [] → ∀ a, ao = some a → a.block ≠ rb) (torn octets : Int)
    (hob : -9223372036854775808 ≤ octets ∧ octets ≤ 9223372036854775807) (hw : ws.length ≤ 1000000) (hkl : ks.length ≤ 1000000) :
    Calls Try.prog 21 #[.pointer (some ⟨rb, 0, none⟩), .slice ao ks.length kcap, .int .i64 torn, .int .i64 octets] w fun e w' => (∃ v, e = .returned v) ∧
      RkAt w' rb n (crash ks torn (octs octets) 0 ws sure) [] (.slice none 0 0) (-1) ∧ Kept (fun k => k = rb) w w' := by
  obtain ⟨pa, pcap, rfl⟩ := owns_slice h.own
  have hn2 := h.n2
  have H := Lib.hid h; have HL := Lib.hid hL; have HN := Lib.hid hn; clear h hL hn
  go_enter Try.func21, Try.ntmps21
  go_upto_if 13 with fail
  go_cut [8] (fun v wx => v = .int .i64 (max octets 0) ∧ w = wx)
  case first =>
    by_cases h0 : octets < 0
    · have e : max octets 0 = 0 := by omega
      have E := Lib.hid e; clear e
      go_wp2_with fail
      go_meet
      case rel => exact ⟨by rw [E.out], rfl⟩
    · have e : max octets 0 = octets := by omega
      have E := Lib.hid e; clear e
      go_wp2_with fail
      go_meet
      case rel => exact ⟨by rw [E.out], rfl⟩
  case rest =>
    obtain ⟨rfl, rfl⟩ := hcut
    obtain ⟨mo, hmo⟩ : ∃ mo, max octets 0 = mo := ⟨_, rfl⟩
    rw [hmo]
    have hoc : octs octets = (min mo 64).toNat := by rw [← hmo]; rfl
    have hm0 : 0 ≤ mo := by omega
    have HMO := Lib.hid hmo; have HOC := Lib.hid hoc; clear hmo hoc
    go_upto_if 15 with fail
    go_cut [8] (fun v wx => v = .int .i64 ((octs octets : Nat) : Int) ∧ w = wx)
    case first =>
      by_cases h0 : 64 < mo
      · have e : ((octs octets : Nat) : Int) = 64 := by rw [HOC.out]; omega
        have E := Lib.hid e; clear e
        go_wp2_with fail
        go_meet
        case rel => exact ⟨by rw [E.out], rfl⟩
      · have e : ((octs octets : Nat) : Int) = mo := by rw [HOC.out]; omega
        have E := Lib.hid e; clear e
        go_wp2_with fail
        go_meet
        case rel => exact ⟨by rw [E.out], rfl⟩
    case rest =>
      obtain ⟨rfl, rfl⟩ := hcut
      have hol := octs_le octets
      clear HMO HOC hm0
      obtain ⟨o, ho⟩ : ∃ o, octs octets = o := ⟨_, rfl⟩
      rw [ho] at hol ⊢
      have HO := Lib.hid ho; clear ho
      go_wp2_with fail
      go_loopg [9] ws.length (fun q v9 wr => ∃ (j : Nat) (cur : List UInt8), q = ws.length - j ∧ j ≤ ws.length ∧ v9 = .int .i64 (j : Int) ∧ Hid (RkAt wr rb n cur ws (.slice pa ws.length pcap) left) ∧ Hid (crash ks torn o j (ws.drop j) cur = crash ks torn o 0 ws sure) ∧ Hid (Kept (fun k => k = rb) w wr))
      case atStart => exact ⟨0, sure, rfl, Nat.zero_le _, rfl, H, Lib.hid rfl, Lib.hid (Kept.refl _ _)⟩
      case round =>
        obtain ⟨j, cur, hq, hj, rfl, hr, hst, hk⟩ := hrel
        have HQ := Lib.hid hq; clear hq
        have hc1 := hr.out.c1
        by_cases hlt : j < ws.length
        · have HLT := Lib.hid hlt
          obtain ⟨g, cap, hpv, hg, hA, hB⟩ := hr.out.waits j hlt
          cases hpv
          have hok := hr.out.ok ws[j] (List.getElem_mem hlt)
          have hdr : ws.drop j = ws[j] :: ws.drop (j + 1) := List.drop_eq_getElem_cons hlt
          have hst1 := hst.out
          rw [hdr, crash] at hst1
          generalize ws[j] = x at *
          have hcl := hr.out.len
          have hxk : (x.k : Int) ≤ 65536 := by have := hok.1; omega
          have hm1 : wrap64 (64 * (x.k : Int)) = 64 * (x.k : Int) := by unfold wrap64; omega
          have hm2 : IntKind.i64.wrap (64 * (x.k : Int)) = 64 * (x.k : Int) := by rw [IntKind.wrap_i64]; omega
          have hka : Kept (fun _ => False) wr (wr.alloc (.cells #[.int .i64 x.k, .string (bs x.b)] 92)) := (Kept.refl _ wr).alloc _
          have e0 : (wr.alloc (.cells #[.int .i64 x.k, .string (bs x.b)] 92)).cell? ⟨rb, 0, none⟩ = some (.string (bs cur)) := (hka.cell (p := ⟨rb, 0, none⟩) hr.out.lt (fun h => h)).trans hr.out.c0
          have e1 : (wr.alloc (.cells #[.int .i64 x.k, .string (bs x.b)] 92)).cell? ⟨wr.heap.size, 0, none⟩ = some (.int .i64 x.k) := World.cell?_alloc_new wr _ _ 0
          have e2 : (wr.alloc (.cells #[.int .i64 x.k, .string (bs x.b)] 92)).cell? ⟨wr.heap.size, 1, none⟩ = some (.string (bs x.b)) := World.cell?_alloc_new wr _ _ 1
          have HX0 := Lib.hid (hr.out.kept hka (fun h => h) (fun _ _ h => h)); have HK0 := Lib.hid (hk.out.trans hka (S := fun k => k = rb) (fun _ _ h => h.elim))
          have HKA := Lib.hid hka; clear hka
          have hxl : (bs x.b).size = 64 := by rw [bs_size, hok.2]
          by_cases ht : (j : Int) = torn
          · have hs1 : crash1 ks torn o j x cur = lay cur x.k (x.b.take o) := by unfold crash1; rw [if_pos ht]
            rw [hs1] at hst1
            have htl : (x.b.take o).length ≤ 64 := by rw [List.length_take]; omega
            have hll := lay_length (l := cur) (k := x.k) (b := x.b.take o) (by rw [hcl]; have := hok.1; omega)
            have hlay := fun (W : World) => lay_any cur (x.b.take o) x.k W (by rw [hcl]; have := hok.1; omega) (by rw [hcl]; omega)
            have bt := bs_take' x.b o
            have hob2 : (o : Int) ≤ 64 := by omega
            generalize lay cur x.k (x.b.take o) = nx at *
            generalize bs (x.b.take o) = TB at *
            have HST := Lib.hid hst1; have HLL := Lib.hid (hll.trans hcl); have HLAY := Lib.hid hlay
            clear hst1 hll hlay hok hdr hst hs1 htl
            subst ht
            go_wp2_with fail
            go_region_with (go_at_call 55; refine (HLAY.out _).mono ?_; rintro e w2 ⟨rfl, k2⟩; have kw2 := (HKA.out.trans (Mk.Kept.of_drew k2) (S := fun _ => False) (fun _ _ h => h)); have hr2 := hr.out.kept kw2 (fun h => h) (fun _ _ h => h); have q0 := hr2.c0; have qf := hr2.f0; have HX2 := Lib.hid (hr2.setSure nx HLL.out); have K2 := Lib.hid (Kept.setCell (p := ⟨rb, 0, none⟩) (hk.out.trans kw2 (S := fun k => k = rb) (fun _ _ h => h.elim)) (fun _ => rfl) (.string (bs nx))); clear k2 kw2 hr2)
            all_goals go_wp2
            all_goals go_roundg (ws.length - (j + 1))
            all_goals first
              | (have := HQ.out; have := HLT.out; omega)
              | exact ⟨j + 1, nx, rfl, HLT.out, by go_num, HX2, Lib.hid HST.out, K2⟩
          · have htb : ((j : Int) == torn) = false := by simpa using ht
            by_cases hjk : j < ks.length
            · obtain ⟨kb, ko, rfl, hkb, hkc⟩ := HL.out (by intro h; rw [List.map_eq_nil_iff] at h; rw [h] at hjk; simp at hjk)
              have hkg := HN.out (by intro h; rw [h] at hjk; simp at hjk) _ rfl
              have hkc0 := hkc j (.bool ks[j]) (by simp [hjk])
              have hkcr := (hk.out.cell (p := ⟨kb, ko + j, none⟩) hkb (by exact hkg)).trans hkc0
              have hkc1 : (wr.alloc (.cells #[.int .i64 x.k, .string (bs x.b)] 92)).cell? ⟨kb, ko + j, none⟩ = some (.bool ks[j]) := (HKA.out.cell (p := ⟨kb, ko + j, none⟩) (World.block_lt_of_cell? _ _ hkcr) (fun h => h)).trans hkcr
              have hgk : ks[j]? = some ks[j] := List.getElem?_eq_getElem hjk
              clear hkc hkc0 hkcr hkb
              cases hkj : ks[j] with
              | true =>
                rw [hkj] at hkc1 hgk
                have hs1 : crash1 ks torn o j x cur = lay cur x.k x.b := by unfold crash1; rw [if_neg ht, if_pos hgk]
                rw [hs1] at hst1
                have hll := lay_length (l := cur) (k := x.k) (b := x.b) (by rw [hcl, hok.2]; have := hok.1; omega)
                have hlay := fun (W : World) => lay_any cur x.b x.k W (by rw [hcl, hok.2]; have := hok.1; omega) (by rw [hcl]; omega)
                generalize lay cur x.k x.b = nx at *
                have HST := Lib.hid hst1; have HLL := Lib.hid (hll.trans hcl); have HLAY := Lib.hid hlay
                clear hst1 hll hlay hok hdr hst hs1 hgk hkj hkg ht
                go_wp2_with fail
                go_region_with (go_at_call 55; refine (HLAY.out _).mono ?_; rintro e w2 ⟨rfl, k2⟩; have kw2 := (HKA.out.trans (Mk.Kept.of_drew k2) (S := fun _ => False) (fun _ _ h => h)); have hr2 := hr.out.kept kw2 (fun h => h) (fun _ _ h => h); have q0 := hr2.c0; have qf := hr2.f0; have HX2 := Lib.hid (hr2.setSure nx HLL.out); have K2 := Lib.hid (Kept.setCell (p := ⟨rb, 0, none⟩) (hk.out.trans kw2 (S := fun k => k = rb) (fun _ _ h => h.elim)) (fun _ => rfl) (.string (bs nx))); clear k2 kw2 hr2)
                all_goals go_wp2
                all_goals go_roundg (ws.length - (j + 1))
                all_goals first
                  | (have := HQ.out; have := HLT.out; omega)
                  | exact ⟨j + 1, nx, rfl, HLT.out, by go_num, HX2, Lib.hid HST.out, K2⟩
              | false =>
                rw [hkj] at hkc1 hgk
                have hs1 : crash1 ks torn o j x cur = cur := by unfold crash1; rw [if_neg ht, if_neg (by rw [hgk]; simp)]
                rw [hs1] at hst1
                have HST := Lib.hid hst1
                clear hst1 hok hdr hst hs1 hgk hkj hkg ht
                go_wp2
                go_roundg (ws.length - (j + 1))
                case measure => have := HQ.out; have := HLT.out; omega
                case rel => exact ⟨j + 1, cur, rfl, HLT.out, by go_num, HX0, Lib.hid HST.out, HK0⟩
            · have hgk : ks[j]? = none := List.getElem?_eq_none (by omega)
              have hs1 : crash1 ks torn o j x cur = cur := by unfold crash1; rw [if_neg ht, if_neg (by rw [hgk]; simp)]
              rw [hs1] at hst1
              have HST := Lib.hid hst1
              clear hst1 hok hdr hst hs1 hgk ht
              go_wp2
              go_roundg (ws.length - (j + 1))
              case measure => have := HQ.out; have := HLT.out; omega
              case rel => exact ⟨j + 1, cur, rfl, HLT.out, by go_num, HX0, Lib.hid HST.out, HK0⟩
        · obtain rfl : j = ws.length := by omega
          have hst2 := hst.out
          rw [List.drop_length] at hst2
          have hst3 : cur = crash ks torn o 0 ws sure := hst2
          have h1 := hr.out
          have h2 := h1.setWaits (.slice none 0 0) [] (by simp) (World.ownsRow_nil _ _ _ _) (by simp [Value.ownBlock])
          have h3 := h2.setLeft (-1) (by omega)
          rw [hst3] at h3
          have c1 := h1.c1
          have f1 := h1.f1
          have c2 := h2.c2
          have f2 := h2.f2
          have H3 := Lib.hid h3; clear h1 h2 h3 hst2 hst3
          go_wp2
          go_end0
          exact ⟨⟨_, rfl⟩, by rw [HO.out]; exact H3.out, Kept.setCell (p := ⟨rb, 2, none⟩) (Kept.setCell (p := ⟨rb, 1, none⟩) hk.out (fun _ => rfl) _) (fun _ => rfl) _⟩

end Go.Proofs.Ytobikgcoekiboaa
