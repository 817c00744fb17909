/-
  CONTRACTS of package diff: Keys, Turn.
-/
import Derived.Test.YtecjecdgjmipcaaGreatGEe
import Derived.Test.YtecjecdgjmipcaaGreatR9b
import Derived.Test.YtecjecdgjmipcaaGreatGDl
import Derived.Deep.RegionHeldLaw
namespace Go.Proofs.YtecjecdgjmipcaaGreat
open Go.RowKit Go.Mk Go.Maps

set_option maxHeartbeats 1000000 in
set_option maxRecDepth 100000 in
theorem dkeys9_any (pa : Option Addr) (pc : Nat) (p : List EE) (B : Nat) (w : World) (hE : Es w B pa p) (hL : ∀ e ∈ p, Len9 e) (hn : p.length ≤ 10000) :
    Calls Tryz.prog 18 #[.slice pa p.length pc] w fun e w' => ∃ ao cap, e = .returned (.slice ao p.length cap) ∧ Lies w' w'.heap.size ao (strs (p.map EE.key)) ∧ Kept (fun _ => False) w w' := by
  obtain ⟨i0, hi, hz0, hz1, hz2⟩ := info_parts Tryz.infoStr
  have HE := Lib.hid hE; have HL := Lib.hid hL
  clear hE hL
  go_enter Tryz.func18, Tryz.ntmps18
  go_wp2
  go_loopg [3, 8] p.length (fun k v c wr => ∃ j, k = p.length - j ∧ j ≤ p.length ∧ c = .int .i64 (j : Int) ∧ wr.ownsRow w.heap.size 9 1 v j (strs ((p.map EE.key).take j)) ∧ Kept (fun _ => False) w wr)
  case atStart => exact ⟨0, rfl, Nat.zero_le _, rfl, World.ownsRow_nil _ _ _ _, Kept.refl _ _⟩
  case round =>
    obtain ⟨j, hk, hj, rfl, hown, hq⟩ := hrel
    have HK := Lib.hid hk; have HO := Lib.hid hown; have HQ := Lib.hid hq
    clear hk hown hq
    by_cases hlt : j < p.length
    · obtain ⟨b, off, rfl, hb, hc⟩ := HE.out.row (by intro h; rw [h] at hlt; simp at hlt)
      obtain ⟨c0, c1, c2⟩ := (hc j hlt).kept HQ.out (fun h => h)
      have htk : strs ((p.map EE.key).take j) ++ [.string (bs p[j].key)] = strs ((p.map EE.key).take (j + 1)) := by
        unfold strs
        rw [List.take_add_one, List.getElem?_eq_getElem (by simpa using hlt), Option.toList_some, List.map_append, List.getElem_map]
        rfl
      have hxl := (HL.out p[j] (List.getElem_mem hlt)).key
      have i1 : (j : Int) < (p.length : Int) := by omega
      clear hc
      generalize p[j] = x at *
      obtain ⟨key, ⟨oao, ocap, oes⟩, ⟨nao, ncap, nes⟩⟩ := x
      dsimp only at c0 c1 c2 htk hxl
      have HS := Lib.hid (fun w => sclone_any key w (by omega))
      have HT := Lib.hid htk; clear htk hxl
      have HA := Lib.hid ((Kept.refl (fun _ => False) wr).alloc (.cells #[.string (bs key), .slice oao oes.length ocap, .slice nao nes.length ncap] 42))
      go_wp2_with fail
      refine (HS.out _).mono ?_
      rintro e w3 ⟨rfl, k3⟩
      have k3' := HA.out.trans k3 (fun _ _ h => h)
      have ho3 := owns_base (base' := 0) (owns_kept HO.out k3' (fun _ _ h => h)) (fun _ _ => Nat.zero_le _)
      have HLO := Lib.hid (owns_lt HO.out)
      have Q3 := Lib.hid (HQ.out.trans k3' (fun _ _ h => h))
      have hz3 := Q3.out.size
      have HO3 := Lib.hid ho3; clear ho3 k3 k3' c0 c1 c2
      go_wp2_with (at_builtin; refine wpList_app _ rfl (.tmp 12) (.tmp 16) 39 39 rfl 9 i0 (.string ⟨#[]⟩) 1 16 Tryz.underlying39 hi hz0 hz1 hz2 rfl _ _ _ rfl (HO3.out.alloc _) (.slice (some ⟨w3.heap.size, 0, none⟩) 1 1) 1 [.string (bs key)] rfl (src_one Tryz.underlying39 w3 _ _ rfl) ?b1 ?b2 ?next)
      case b1 => unfold maxLen; omega
      case b2 => omega
      case next =>
        intro v' w4 ho4 hg4 hb4 _
        have hrow : ∀ k, v'.ownBlock = some k → w.heap.size ≤ k := fun k hk => by
          rcases hb4 with hb4 | hb4
          · rw [hb4] at hk; exact (HLO.out k hk).1
          · rw [hb4] at hk; cases hk; omega
        have k4 : Kept (fun k => w.heap.size ≤ k) w3 w4 := Kept.grown ((Kept.refl _ w3).alloc _) hg4 (fun k hk _ => (HLO.out k hk).1)
        have HO5 := Lib.hid (owns_base (base' := w.heap.size) ho4 hrow)
        have Q4 := Lib.hid (show Kept (fun _ => False) w w4 from Q3.out.trans k4 (fun i hi h => by omega))
        clear ho4 hg4 hb4 hrow k4
        go_wp2
        go_roundg (p.length - (j + 1))
        case measure => have := HK.out; omega
        case rel => exact ⟨j + 1, rfl, by omega, by go_num, by rw [← HT.out]; exact HO5.out, Q4.out⟩
    · obtain rfl : j = p.length := by omega
      have ho := HO.out
      rw [List.take_of_length_le (by simp)] at ho
      obtain ⟨aoL, capL, rfl⟩ := owns_slice ho
      have HOO := Lib.hid ho; clear ho hlt
      go_wp2
      go_ret
      exact ⟨aoL, capL, rfl, owns_lies HOO.out, HQ.out⟩

/-- The cells of an edit's box. -/
abbrev ceB (b : Nat) (k : List UInt8) (u v : Value) (w : World) : Prop := w.cell? ⟨b, 0, none⟩ = some (.string (bs k)) ∧ w.cell? ⟨b, 1, none⟩ = some u ∧ w.cell? ⟨b, 2, none⟩ = some v

theorem ceB_kept {S : Nat → Prop} {b : Nat} {k : List UInt8} {u v : Value} {w w' : World} (h : ceB b k u v w) (hk : Kept S w w') (hb : ¬ S b) : ceB b k u v w' := by
  have hlt := World.block_lt_of_cell? _ _ h.1
  exact ⟨(hk.cell (p := ⟨b, 0, none⟩) hlt hb).trans h.1, (hk.cell (p := ⟨b, 1, none⟩) hlt hb).trans h.2.1, (hk.cell (p := ⟨b, 2, none⟩) hlt hb).trans h.2.2⟩

theorem ceB_new (w : World) (k : List UInt8) (u v : Value) (t : TypeId) : ceB w.heap.size k u v (w.alloc (.cells #[.string (bs k), u, v] t)) := by
  have h := fun j => World.cell?_alloc_new w #[.string (bs k), u, v] t j
  exact ⟨h 0, h 1, h 2⟩

theorem turn_take {p : List EE} {j : Nat} (h : j < p.length) : turnP ((eds p).take (j + 1)) = turnP ((eds p).take j) ++ [turnE (edE p[j])] := by
  rw [eds_take p j h]
  unfold turnP
  rw [List.map_append]
  rfl

set_option maxHeartbeats 2000000 in
set_option maxRecDepth 100000 in
theorem dturn9_any (pa : Option Addr) (pc : Nat) (p : List EE) (B : Nat) (w : World) (hE : Es w B pa p) (hL : ∀ e ∈ p, Len9 e) (hn : p.length ≤ 10000) :
    Calls Tryz.prog 17 #[.slice pa p.length pc] w (EsQ w (turnP (eds p)))   := by
  obtain ⟨i0, hi, hz0, hz1, hz2⟩ := info_parts Tryz.infoEdit
  have HE := Lib.hid hE; have HL := Lib.hid hL
  clear hE hL
  go_enter Tryz.func17, Tryz.ntmps17
  go_wp2
  go_loopg [3, 8] p.length (fun k v c wr => ∃ j q, k = p.length - j ∧ j ≤ p.length ∧ c = .int .i64 (j : Int) ∧ eds q = turnP ((eds p).take j) ∧ Pa9 w v q wr)
  case atStart => exact ⟨0, [], rfl, Nat.zero_le _, rfl, rfl, Pa9.nil _ _ (Kept.refl _ _)⟩
  case round =>
    obtain ⟨j, q, hk, hj, rfl, hq, hpa⟩ := hrel
    have HK := Lib.hid hk; have HQ := Lib.hid hq; have HP := Lib.hid hpa
    clear hk hq hpa
    by_cases hlt : j < p.length
    · obtain ⟨b, off, rfl, hb, hc⟩ := HE.out.row (by intro h; rw [h] at hlt; simp at hlt)
      obtain ⟨c0, c1, c2⟩ := (hc j hlt).kept HP.out.k (fun h => h)
      have HTK := Lib.hid (turn_take hlt)
      have HLN := Lib.hid (HL.out p[j] (List.getElem_mem hlt))
      have HLI := Lib.hid (HE.out.lies p[j] (List.getElem_mem hlt))
      have hql : q.length ≤ 10000 := by have := congrArg List.length HQ.out; rw [eds_len, turn_len, List.length_take, eds_len] at this; omega
      have i1 : (j : Int) < (p.length : Int) := by omega
      clear hc
      generalize p[j] = x at *
      obtain ⟨key, ⟨oao, ocap, oes⟩, ⟨nao, ncap, nes⟩⟩ := x
      dsimp only at c0 c1 c2
      have HS := Lib.hid (fun w => sclone_any key w (by have := HLN.out.key; dsimp only at this; omega))
      have HDN := Lib.hid (fun (wx : World) (h : Kept (fun _ => False) w wx) => odefs_any ⟨nao, ncap, nes⟩ B wx (HLI.out.2.keep h) HLN.out.new HLN.out.nn)
      have HDO := Lib.hid (fun (wx : World) (h : Kept (fun _ => False) w wx) => odefs_any ⟨oao, ocap, oes⟩ B wx (HLI.out.1.keep h) HLN.out.old HLN.out.no)
      have KA := Lib.hid (Kept.drew ((Kept.refl (fun _ => False) wr).alloc (.cells #[.string (bs key), .slice oao oes.length ocap, .slice nao nes.length ncap] 42)))
      have hS : ceB wr.heap.size key (.slice oao oes.length ocap) (.slice nao nes.length ncap) (wr.alloc (.cells #[.string (bs key), .slice oao oes.length ocap, .slice nao nes.length ncap] 42)).drew := ceB_new wr key _ _ _
      have HLT := Lib.hid (owns_lt HP.out.own)
      have HZA := Lib.hid (show wr.heap.size < (wr.alloc (.cells #[.string (bs key), .slice oao oes.length ocap, .slice nao nes.length ncap] 42)).drew.heap.size by simp)
      go_upto_region 5 with fail
      go_region_held_law (ceB wr.heap.size key (.slice oao oes.length ocap) (.slice nao nes.length ncap)) (with_reducible assumption) (first
        | (refine step_app rfl (.tmp 12) (.tmp 23) 31 31 rfl 42 i0 (.agg #[.string ⟨#[]⟩, .slice none 0 0, .slice none 0 0]) 3 64 Tryz.underlying31 hi hz0 hz1 hz2 rfl u3 q.length (cellsP q) rfl ((owns_base (base' := 0) (owns_kept HP.out.own K3.out (fun _ _ h => h)) (fun _ _ => Nat.zero_le _)).alloc _) (.slice (some ⟨w3.heap.size, 0, none⟩) 1 1) 1 (cellsP1 ⟨key, tn, tq⟩) rfl (src_ed w3 ⟨key, tn, tq⟩ _) (by unfold maxLen; omega) (by omega) ?_; intro ao5 cap5 w5 ho5 hg5 hb5; have hS5 := ceB_kept hS4 (kept_of_grown hg5.out) (fun h => by have := (HLT.out _ h).2; omega); have P5 := Lib.hid ((HP.out.keep K3.out).app ⟨key, tn, tq⟩ ⟨FN3.out.apart (fun k hk => (HLT.out k hk).2), FO.out.apart (fun k hk => (HLT.out k hk).2)⟩ ((Kept.refl (fun _ => False) w3).alloc _) ho5.out hg5.out hb5.out); clear ho5 hg5 hb5)
        | (go_at_call 50; refine (HS.out _).mono ?_; rintro e w1 ⟨rfl, k1⟩; have K1 := Lib.hid (KA.out.trans k1 (fun _ _ h => h)); have hS1 := ceB_kept hS k1 (fun h => h); clear k1)
        | (go_at_call_of 51 (Value.slice nao nes.length ncap); refine (HDN.out _ (HP.out.k.trans K1.out (fun _ _ h => h))).mono ?_; rintro e w2 ⟨tn, rfl, etn, ftn, k2⟩; have K2 := Lib.hid (K1.out.trans k2 (fun _ _ h => h)); have hS2 := ceB_kept hS1 k2 (fun h => h); have FN := Lib.hid (ftn.down K1.out.size); have EN := Lib.hid etn; clear k2 ftn etn)
        | (go_at_call_of 51 (Value.slice oao oes.length ocap); refine (HDO.out _ (HP.out.k.trans K2.out (fun _ _ h => h))).mono ?_; rintro e w3 ⟨tq, rfl, eto, fto, k3⟩; have K3 := Lib.hid (K2.out.trans k3 (fun _ _ h => h)); have hS3 := ceB_kept hS2 k3 (fun h => h); have FO := Lib.hid (fto.down K2.out.size); have FN3 := Lib.hid (FN.out.keep k3); have EO := Lib.hid eto; clear k3 fto eto;
           have hS4 := ceB_kept hS3 ((Kept.refl (fun _ => False) w3).alloc (.cells #[.string (bs key), .slice tn.ao tn.es.length tn.cap, .slice tq.ao tq.es.length tq.cap] 42)) (fun h => h)))
      all_goals go_wp2
      all_goals go_roundg (p.length - (j + 1))
      case measure => have := HK.out; omega
      case rel => exact ⟨j + 1, _, rfl, by omega, by go_num, by rw [HTK.out, ← HQ.out]; simp only [eds, List.map_append, List.map_cons, List.map_nil, edE, turnE, EN.out, EO.out], P5.out⟩
    · obtain rfl : j = p.length := by omega
      have hq := HQ.out
      rw [← eds_len p, List.take_length] at hq
      have HX := Lib.hid hq
      obtain ⟨ao', cap', rfl⟩ := owns_slice HP.out.own
      clear hq hlt
      go_wp2
      go_ret
      exact ⟨ao', cap', q, rfl, HX.out, owns_es HP.out.own (fun e he => ⟨(HP.out.sd e he).1.sd, (HP.out.sd e he).2.sd⟩), HP.out.k⟩

end Go.Proofs.YtecjecdgjmipcaaGreat
