/-
  OctetBack: what is written is read as it was, whatever stands behind it.
-/
import Derived.Test.YteomlamclppoeaaFp
import Derived.Test.YteomlamclppoeaaSm
import Derived.Deep.DeepCutAuto
import Derived.Deep.CutBlock
import Derived.Deep.RegionWith
namespace Go.Proofs.Yteomlamclppoeaa
open Go.RowKit Go.Mk

set_option maxHeartbeats 800000 in
set_option maxRecDepth 100000 in
theorem back_small (fa : Option Addr) (fc : Nat) (fs : List FD) (ma : Option Addr) (mc : Nat) (more : List UInt8) (w : World) (h : Flds w w.heap.size fa fs) (hM : Lies w w.heap.size ma (more.map bv)) (hs : smallB fs = true) (hm : more.length ≤ 200) :
    Calls Try.prog 5 #[.slice fa fs.length fc, .slice ma more.length mc] w fun e w' => e = .returned (.bool true) ∧ Below w.heap.size w w' := by
  obtain ⟨i0, hi, iz0, iz1, iz2⟩ := info_parts Try.infoByte
  have H := Lib.hid h; have HM := Lib.hid hM; clear h hM
  have hlen : fs.length ≤ 20 := by simp [smallB] at hs; exact hs.1
  have hsm : ∀ f ∈ fs, f.small = true := by simp [smallB] at hs; exact hs.2
  have HSM := Lib.hid hsm; clear hsm
  go_enter Try.func5, Try.ntmps5
  go_wp2_with fail
  refine (awake_any w).mono ?_
  rintro e w1 ⟨rfl, b1⟩
  have H1 := Lib.hid (H.out.below b1); have B1 := Lib.hid b1; clear b1
  go_wp2_with fail
  refine (small_any fa fc fs w.heap.size w1 H1.out).mono ?_
  rintro e w2 ⟨rfl, rfl⟩
  have hn := WrF.new w1 (fun k => w.heap.size ≤ k) (fun k h => Nat.le_trans B1.out.size h) 28
  have HN := Lib.hid hn; clear hn
  have hz := B1.out.size
  go_wp2
  go_loopg [6] fs.length (fun k c wr => ∃ j, k = fs.length - j ∧ j ≤ fs.length ∧ c = .int .i64 (j : Int) ∧ WrF wr (fun k => w.heap.size ≤ k) w1.heap.size (bk (fs.take j)) ∧ Below w.heap.size w wr)
  case atStart => exact ⟨0, rfl, Nat.zero_le _, rfl, HN.out, B1.out.alloc hz _⟩
  case round =>
    obtain ⟨j, hk, hj, rfl, hw, hbl⟩ := hrel
    have HK := Lib.hid hk; have HW := Lib.hid hw; have HBL := Lib.hid hbl; clear hk hw hbl
    have hz2 := HBL.out.size
    by_cases hlt : j < fs.length
    · have hsl := bk_len (fs.take j) (fun f hf => HSM.out f (List.mem_of_mem_take hf))
      have hsl2 : (bk (fs.take j)).out.length ≤ 200000 := by simp at hsl; omega
      have hsn := bk_snoc fs j hlt
      have hfl := H.out.below HBL.out
      obtain ⟨b, off, rfl, hbB, hc⟩ := hfl.at_ (by intro e; rw [e] at hlt; simp at hlt)
      obtain ⟨c0, c1, c2, c3⟩ := hc j hlt
      have hst := hfl.strs fs[j] (List.getElem_mem hlt)
      have hsm := HSM.out fs[j] (List.getElem_mem hlt)
      clear hc hfl hsl
      generalize fs[j] = f at *
      generalize bk (fs.take j) = s at *
      have HST := Lib.hid hst; have HSMF := Lib.hid hsm; have HSN := Lib.hid hsn; clear hst hsm hsn
      have hk := (HW.out.in (F' := fun k => w.heap.size ≤ k ∧ k ≠ wr.heap.size) (fun k hk h => ⟨h, by omega⟩)).kept ((Below.refl _ _).alloc (Nat.le_refl _) (.cells #[Value.int IntKind.i64 f.kind, Value.int IntKind.i64 f.n, Value.string f.s, Value.slice f.la f.ls.length f.lc] 31))
      have hbk := HBL.out.alloc hz2 (.cells #[Value.int IntKind.i64 f.kind, Value.int IntKind.i64 f.n, Value.string f.s, Value.slice f.la f.ls.length f.lc] 31)
      have hstk := HST.out.below ((Below.refl w.heap.size wr).alloc hz2 (.cells #[Value.int IntKind.i64 f.kind, Value.int IntKind.i64 f.n, Value.string f.s, Value.slice f.la f.ls.length f.lc] 31))
      have hF : ∀ k, (wr.alloc (.cells #[Value.int IntKind.i64 f.kind, Value.int IntKind.i64 f.n, Value.string f.s, Value.slice f.la f.ls.length f.lc] 31)).heap.size ≤ k → w.heap.size ≤ k ∧ k ≠ wr.heap.size := fun k h => by simp at h; omega
      have HKW := Lib.hid hk; have HBK := Lib.hid hbk; have HSTK := Lib.hid hstk; have HF := Lib.hid hF; clear hk hbk hstk hF
      have kin : ∀ (w3 : World) (s' : WS), WrF w3 (fun k => w.heap.size ≤ k ∧ k ≠ wr.heap.size) w1.heap.size s' → WrF w3 (fun k => w.heap.size ≤ k) w1.heap.size s' := fun _ _ h => h.in (fun _ _ h => h.1)
      have kbl : ∀ (w3 : World), Kept (fun k => w.heap.size ≤ k ∧ k ≠ wr.heap.size) (wr.alloc (.cells #[Value.int IntKind.i64 f.kind, Value.int IntKind.i64 f.n, Value.string f.s, Value.slice f.la f.ls.length f.lc] 31)) w3 → Below w.heap.size w w3 := fun _ h => HBK.out.trans (h.below (by simp; omega) (fun _ h => h.1))
      have KIN := Lib.hid kin; have KBL := Lib.hid kbl; clear kin kbl
      obtain ⟨g1, g2, g3⟩ := small_parts HSMF.out
      have G3 := Lib.hid g3; clear g3
      have fin : ∀ w3, WrF w3 (fun k => w.heap.size ≤ k) w1.heap.size (f.step s) → WrF w3 (fun k => w.heap.size ≤ k) w1.heap.size (bk (fs.take (j + 1))) := fun w3 h => by rw [HSN.out]; exact h
      have FIN := Lib.hid fin; clear fin
      by_cases k0 : f.kind = 0
      · have hk0 : (f.kind == 0) = true := by simp [k0]
        have e : f.step s = s.num f.n := by simp [FD.step, k0]
        have E := Lib.hid e; clear e k0
        go_wp2_with fail
        refine (HKW.out.num HF.out f.n (by omega)).mono ?_
        rintro e w3 ⟨rfl, h3, b3⟩
        have H3 := Lib.hid (KIN.out _ _ h3); have B3 := Lib.hid (KBL.out _ b3); clear h3 b3
        go_wp2
        go_roundg (fs.length - (j + 1))
        case measure => have := HK.out; omega
        case rel => exact ⟨j + 1, rfl, by omega, by go_num, FIN.out _ (by rw [E.out]; exact H3.out), B3.out⟩
      · have hk0 : (f.kind == 0) = false := by simp [k0]
        by_cases k1 : f.kind = 1
        · have hk1 : (f.kind == 1) = true := by simp [k1]
          have e : f.step s = s.int f.n := by simp [FD.step, k1]
          have E := Lib.hid e; clear e k0 k1
          go_wp2_with fail
          refine (HKW.out.int HF.out f.n (by omega)).mono ?_
          rintro e w3 ⟨rfl, h3, b3⟩
          have H3 := Lib.hid (KIN.out _ _ h3); have B3 := Lib.hid (KBL.out _ b3); clear h3 b3
          go_wp2
          go_roundg (fs.length - (j + 1))
          case measure => have := HK.out; omega
          case rel => exact ⟨j + 1, rfl, by omega, by go_num, FIN.out _ (by rw [E.out]; exact H3.out), B3.out⟩
        · have hk1 : (f.kind == 1) = false := by simp [k1]
          by_cases k2 : f.kind = 2
          · have hk2 : (f.kind == 2) = true := by simp [k2]
            have e : f.step s = s.text f.s.data.toList := by simp [FD.step, k2]
            have E := Lib.hid e; clear e k0 k1 k2
            go_wp2_with fail
            refine (HKW.out.text HF.out f.s (by omega) (by omega)).mono ?_
            rintro e w3 ⟨rfl, h3, b3⟩
            have H3 := Lib.hid (KIN.out _ _ h3); have B3 := Lib.hid (KBL.out _ b3); clear h3 b3
            go_wp2
            go_roundg (fs.length - (j + 1))
            case measure => have := HK.out; omega
            case rel => exact ⟨j + 1, rfl, by omega, by go_num, FIN.out _ (by rw [E.out]; exact H3.out), B3.out⟩
          · have hk2 : (f.kind == 2) = false := by simp [k2]
            have e : f.step s = s.texts (strL f.ls) := by simp [FD.step, k0, k1, k2]
            have E := Lib.hid e; clear e k0 k1 k2
            have g4 : ∀ t ∈ f.ls, t.size ≤ 274877906944 := fun t ht => by have := G3.out t ht; omega
            have g6 := sum_le f.ls G3.out
            have G4 := Lib.hid g4; clear g4
            have hna : f.ls ≠ [] → ∀ a, f.la = some a → ¬ (w.heap.size ≤ a.block ∧ a.block ≠ wr.heap.size) := fun hne a ha => by
              obtain ⟨b', o', e', hlt', _⟩ := HSTK.out (by simpa using hne)
              rw [e'] at ha; cases ha; simp; omega
            have HNA := Lib.hid hna; clear hna
            go_wp2_with fail
            refine (HKW.out.texts HF.out f.la f.lc f.ls HSTK.out HNA.out (by omega) (by omega) G4.out).mono ?_
            rintro e w3 ⟨rfl, h3, b3⟩
            have H3 := Lib.hid (KIN.out _ _ h3); have B3 := Lib.hid (KBL.out _ b3); clear h3 b3
            go_wp2
            go_roundg (fs.length - (j + 1))
            case measure => have := HK.out; omega
            case rel => exact ⟨j + 1, rfl, by omega, by go_num, FIN.out _ (by rw [E.out]; exact H3.out), B3.out⟩
    · obtain rfl : j = fs.length := by omega
      have hall := bk_all fs HSM.out
      have hbl := bk_len fs HSM.out
      have hw := HW.out
      rw [List.take_length] at hw
      generalize bk fs = s at *
      have HW := Lib.hid hw; have HALL := Lib.hid hall; clear hw hall
      go_wp2_with fail
      refine HW.out.errs.mono ?_
      rintro e w3 ⟨rfl, rfl⟩
      rcases HALL.out with ⟨he, hout, hgood⟩ | he
      · have he1 : (s.err != 0) = false := by simp [he]
        have HE := Lib.hid he; have HOUT := Lib.hid hout; have HGOOD := Lib.hid hgood; clear he hout hgood
        go_wp2_with fail
        refine (HW.out.bytes (by omega)).mono ?_
        rintro e w4 ⟨ao, cap, rfl, ho, b4⟩
        have hz4 := b4.size
        have ho0 := owns_base (base' := 0) ho (fun _ _ => Nat.zero_le _)
        have hlo := owns_lt ho
        have hM4 := (HM.out.below HBL.out).below (b4.mono hz2)
        have HO0 := Lib.hid ho0; have HLO := Lib.hid hlo; have B4 := Lib.hid b4; have HM4 := Lib.hid hM4; clear ho0 hlo b4 hM4 ho
        go_wp2_with (at_builtin; refine wpList_app _ rfl (.tmp 59) (.tmp 60) 25 25 rfl 5 i0 (.int .u8 0) 1 1 Try.underlying25 hi iz0 iz1 iz2 rfl (.slice ao s.out.length cap) s.out.length _ rfl HO0.out (.slice ma more.length mc) more.length _ rfl (src_lies Try.underlying25 HM4.out mc (bv_one more) more.length (by simp)) ?b1 ?b2 ?next)
        case b1 => unfold maxLen; omega
        case b2 => omega
        case next =>
          intro v' w5 ho5 hg5 hb5 _
          obtain ⟨ao5, cap5, rfl⟩ := owns_slice ho5
          have k5 : Below w.heap.size w w5 := (HBL.out.trans (B4.out.mono hz2)).trans ((Kept.grown (Kept.refl (fun k => w.heap.size ≤ k) w4) hg5 (fun k hk _ => by have := (HLO.out k hk).1; omega)).below (by omega) (fun _ h => h))
          have hl5 := owns_lies ho5
          rw [← List.map_append] at hl5
          have hop := open_any ao5 cap5 (s.out ++ more) w5.heap.size w5 hl5 (by simp; omega)
          rw [List.length_append] at hop
          have hz5 := k5.size
          have HOP := Lib.hid hop; have K5 := Lib.hid k5; clear hop k5 ho5 hg5 hb5 hl5
          go_wp2_with fail
          refine HOP.out.mono ?_
          rintro e w6 ⟨rb, ao6, cap6, rfl, hrb, hrb2, hrd, b6⟩
          have b66 := K5.out.trans (b6.mono hz5)
          rw [HOUT.out] at hrd
          have HRD := Lib.hid hrd; have B6 := Lib.hid b66; clear hrd b6 b66
          go_wp2
          go_loopg [9] fs.length (fun k c wr => ∃ j, k = fs.length - j ∧ j ≤ fs.length ∧ c = .int .i64 (j : Int) ∧ (∃ ao cap, Rd wr (fun k => w5.heap.size ≤ k ∧ k < rb) rb ao cap ⟨((fs.drop j).map FD.encF).flatten ++ more, 0⟩) ∧ Below w.heap.size w wr)
          case atStart => exact ⟨0, rfl, Nat.zero_le _, rfl, ⟨_, _, HRD.out⟩, B6.out⟩
          case round =>
            obtain ⟨j, hk, hj, rfl, ⟨ao7, cap7, hr7⟩, hb7⟩ := hrel
            have hrlt := hr7.lt
            have HK7 := Lib.hid hk; have HR7 := Lib.hid hr7; have HB7 := Lib.hid hb7; clear hk hr7 hb7
            have hz7 := HB7.out.size
            by_cases hlt : j < fs.length
            · have hfl := H.out.below HB7.out
              obtain ⟨b, off, rfl, hbB, hc⟩ := hfl.at_ (by intro e; rw [e] at hlt; simp at hlt)
              obtain ⟨c0, c1, c2, c3⟩ := hc j hlt
              have hst := hfl.strs fs[j] (List.getElem_mem hlt)
              have hsm := HSM.out fs[j] (List.getElem_mem hlt)
              have hgd := HGOOD.out fs[j] (List.getElem_mem hlt)
              have hrg := hfl.rng fs[j] (List.getElem_mem hlt)
              have hdr : ((fs.drop j).map FD.encF).flatten ++ more = fs[j].encF ++ (((fs.drop (j + 1)).map FD.encF).flatten ++ more) := by
                rw [List.drop_eq_getElem_cons hlt, List.map_cons, List.flatten_cons, List.append_assoc]
              have hrf := read_field fs[j] (((fs.drop (j + 1)).map FD.encF).flatten ++ more) hsm hgd hrg
              have hr8 := HR7.out
              rw [hdr] at hr8
              clear hc hfl hdr
              generalize fs[j] = f at *
              generalize ht : ((fs.drop (j + 1)).map FD.encF).flatten ++ more = t at *
              have HT := Lib.hid ht; clear ht
              have hr9 := hr8.kept (S := fun _ => False) ((Kept.refl _ wr).alloc (.cells #[Value.int IntKind.i64 f.kind, Value.int IntKind.i64 f.n, Value.string f.s, Value.slice f.la f.ls.length f.lc] 31)) (fun h => h) (fun _ _ _ h => h)
              have hb9 := HB7.out.alloc hz7 (.cells #[Value.int IntKind.i64 f.kind, Value.int IntKind.i64 f.n, Value.string f.s, Value.slice f.la f.ls.length f.lc] 31)
              have hst9 := hst.below ((Below.refl w.heap.size wr).alloc hz7 (.cells #[Value.int IntKind.i64 f.kind, Value.int IntKind.i64 f.n, Value.string f.s, Value.slice f.la f.ls.length f.lc] 31))
              obtain ⟨g1, g2, g3⟩ := small_parts hsm
              have HRF := Lib.hid hrf; have HR9 := Lib.hid hr9; have HB9 := Lib.hid hb9; have HST9 := Lib.hid hst9; have G3 := Lib.hid g3
              clear hst hsm hgd hrg hrf hr8 hr9 hb9 hst9 g3
              have d1 : (wr.alloc (.cells #[Value.int IntKind.i64 f.kind, Value.int IntKind.i64 f.n, Value.string f.s, Value.slice f.la f.ls.length f.lc] 31)).cell? ⟨wr.heap.size, 1, none⟩ = some (.int .i64 f.n) := by simp
              have d2 : (wr.alloc (.cells #[Value.int IntKind.i64 f.kind, Value.int IntKind.i64 f.n, Value.string f.s, Value.slice f.la f.ls.length f.lc] 31)).cell? ⟨wr.heap.size, 2, none⟩ = some (.string (bs f.s.data.toList)) := by simp; rfl
              have d3 : (wr.alloc (.cells #[Value.int IntKind.i64 f.kind, Value.int IntKind.i64 f.n, Value.string f.s, Value.slice f.la f.ls.length f.lc] 31)).cell? ⟨wr.heap.size, 3, none⟩ = some (.slice f.la f.ls.length f.lc) := by simp
              have kb : ∀ (w3 : World), Kept (fun k => k = rb) (wr.alloc (.cells #[Value.int IntKind.i64 f.kind, Value.int IntKind.i64 f.n, Value.string f.s, Value.slice f.la f.ls.length f.lc] 31)) w3 → Below w.heap.size w w3 := fun _ h => HB9.out.trans (h.below (by simp; omega) (fun _ h => by omega))
              have D1 := Lib.hid d1; have D2 := Lib.hid d2; have D3 := Lib.hid d3; have KB := Lib.hid kb; clear d1 d2 d3 kb
              have hr10 := HR9.out.kept (S := fun _ => False) ((Kept.refl _ (wr.alloc (.cells #[Value.int IntKind.i64 f.kind, Value.int IntKind.i64 f.n, Value.string f.s, Value.slice f.la f.ls.length f.lc] 31))).drew) (fun h => h) (fun _ _ _ h => h)
              have HR10 := Lib.hid hr10; clear hr10
              obtain ⟨q0, q1, q2, q3⟩ := HRF.out
              have Q0 := Lib.hid q0; have Q1 := Lib.hid q1; have Q2 := Lib.hid q2; have Q3 := Lib.hid q3; clear q0 q1 q2 q3
              go_upto_block 5 with fail
              go_cut [11] (fun v wx => v = .bool true ∧ (∃ ao cap, Rd wx (fun k => w5.heap.size ≤ k ∧ k < rb) rb ao cap ⟨t, 0⟩) ∧ Below w.heap.size w wx)
              case first =>
                by_cases k0 : f.kind = 0
                · have hk0 : (f.kind == 0) = true := by simp [k0]
                  have E := Lib.hid (Q0.out k0)
                  clear k0
                  go_wp2_with fail
                  go_region_with (go_at_call 20; go_must (refine (rnum_any' _ rb ao7 cap7 _ _ (by exact HR10.out)).mono ?_; rintro e w3 ⟨rfl, ⟨ao8, cap8, h8⟩, k8⟩; rw [E.out] at h8; rw [E.out]; have k9 := Mk.Kept.of_drew k8; have cN : w3.cell? ⟨wr.heap.size, 1, none⟩ = some (.int .i64 f.n) := (k9.cell (p := ⟨wr.heap.size, 1, none⟩) (by simp) (show ¬ (wr.heap.size = rb) by omega)).trans D1.out; have H8 := Lib.hid h8; have B8 := Lib.hid (KB.out _ k9); clear h8 k8 k9))
                  all_goals
                    go_wp2_with fail
                    go_meet
                    case rel => exact ⟨by simp, ⟨_, _, H8.out⟩, B8.out⟩
                · have hk0 : (f.kind == 0) = false := by simp [k0]
                  by_cases k1 : f.kind = 1
                  · have hk1 : (f.kind == 1) = true := by simp [k1]
                    have E := Lib.hid (Q1.out k1)
                    clear k0 k1
                    go_wp2_with fail
                    go_region_with (go_at_call 22; go_must (refine (rint_any' _ rb ao7 cap7 _ _ (by exact HR10.out)).mono ?_; rintro e w3 ⟨rfl, ⟨ao8, cap8, h8⟩, k8⟩; rw [E.out] at h8; rw [E.out]; have k9 := Mk.Kept.of_drew k8; have cN : w3.cell? ⟨wr.heap.size, 1, none⟩ = some (.int .i64 f.n) := (k9.cell (p := ⟨wr.heap.size, 1, none⟩) (by simp) (show ¬ (wr.heap.size = rb) by omega)).trans D1.out; have H8 := Lib.hid h8; have B8 := Lib.hid (KB.out _ k9); clear h8 k8 k9))
                    all_goals
                      go_wp2_with fail
                      go_meet
                      case rel => exact ⟨by simp, ⟨_, _, H8.out⟩, B8.out⟩
                  · have hk1 : (f.kind == 1) = false := by simp [k1]
                    by_cases k2 : f.kind = 2
                    · have hk2 : (f.kind == 2) = true := by simp [k2]
                      have E := Lib.hid (Q2.out k2)
                      clear k0 k1 k2
                      go_wp2_with fail
                      go_region_with (go_at_call 24; go_must (refine (rtext_any' _ rb ao7 cap7 _ _ (by exact HR10.out)).mono ?_; rintro e w3 ⟨rfl, ⟨ao8, cap8, h8⟩, k8⟩; rw [E.out] at h8; rw [E.out]; have k9 := Mk.Kept.of_drew k8; have cN : w3.cell? ⟨wr.heap.size, 2, none⟩ = some (.string (bs f.s.data.toList)) := (k9.cell (p := ⟨wr.heap.size, 2, none⟩) (by simp) (show ¬ (wr.heap.size = rb) by omega)).trans D2.out; have H8 := Lib.hid h8; have B8 := Lib.hid (KB.out _ k9); clear h8 k8 k9))
                      all_goals
                        go_wp2_with fail
                        go_meet
                        case rel => exact ⟨by (try rw [bs_of]); simp, ⟨_, _, H8.out⟩, B8.out⟩
                    · have hk2 : (f.kind == 2) = false := by simp [k2]
                      have E := Lib.hid (Q3.out k0 k1 k2)
                      clear k0 k1 k2
                      have eS : (strL f.ls).length = f.ls.length := by simp [strL]
                      have eT : strs (strL f.ls) = f.ls.map .string := by simp only [strs, strL, List.map_map]; rfl
                      have ES := Lib.hid eS; have ET := Lib.hid eT; clear eS eT
                      have hD : ∀ k, (w5.heap.size ≤ k ∧ k < rb) → k < (wr.alloc (.cells #[Value.int IntKind.i64 f.kind, Value.int IntKind.i64 f.n, Value.string f.s, Value.slice f.la f.ls.length f.lc] 31)).drew.heap.size := fun k h => by show k < (wr.alloc (.cells #[Value.int IntKind.i64 f.kind, Value.int IntKind.i64 f.n, Value.string f.s, Value.slice f.la f.ls.length f.lc] 31)).heap.size; simp; omega
                      have HD := Lib.hid hD; clear hD
                      go_wp2_with fail
                      go_region_with (first
                        | (go_at_call 27; go_must (refine (rtexts_any' _ rb ao7 cap7 _ _ (by exact HD.out) (by exact HR10.out)).mono ?_; rintro e w3 ⟨⟨aoT, capT, rfl, hoT⟩, ⟨ao8, cap8, h8⟩, k8⟩; rw [E.out] at h8 hoT; rw [E.out, ES.out]; have k9 := Mk.Kept.of_drew k8; have cN : w3.cell? ⟨wr.heap.size, 3, none⟩ = some (.slice f.la f.ls.length f.lc) := (k9.cell (p := ⟨wr.heap.size, 3, none⟩) (by simp) (show ¬ (wr.heap.size = rb) by omega)).trans D3.out; have hS := same_any aoT capT (strL f.ls) f.la f.lc (strL f.ls) w3.heap.size w3 (owns_lies hoT) (by rw [ET.out]; exact (HST9.out.kept k9 (fun hne a ha e => by obtain ⟨b', o', e', hlt', _⟩ := HST9.out hne; rw [e'] at ha; cases ha; simp at e; omega)).mono (by have := k9.size; simp at this; omega)) (by rw [ES.out]; omega) (by rw [ES.out]; omega); rw [ES.out] at hS; have HSS := Lib.hid hS; have H8 := Lib.hid h8; have B8 := Lib.hid (KB.out _ k9); have hz8 := B8.out.size; clear hS h8 k8 k9 hoT))
                        | (go_at_call 26; go_must (refine HSS.out.mono ?_; rintro e w4 ⟨rfl, k10⟩; have h9 := H8.out.kept k10 (fun h => h) (fun _ _ _ h => h); have H9 := Lib.hid h9; have B9 := Lib.hid (B8.out.trans (k10.below (by omega) (fun _ h => h.elim))); clear h9 k10)))
                      all_goals
                        go_wp2_with fail
                        go_meet
                        case rel => exact ⟨by simp, ⟨_, _, H9.out⟩, B9.out⟩
              case rest =>
                obtain ⟨rfl, ⟨ao8, cap8, h8⟩, b8⟩ := hcut
                have H8 := Lib.hid h8; have B8 := Lib.hid b8; clear h8 b8
                go_wp2_with fail
                refine H8.out.errs.mono ?_
                rintro e w9 ⟨rfl, rfl⟩
                go_wp2
                go_roundg (fs.length - (j + 1))
                case measure => have := HK7.out; omega
                case rel => exact ⟨j + 1, rfl, by omega, by go_num, ⟨_, _, by rw [HT.out]; exact H8.out⟩, B8.out⟩
            · obtain rfl : j = fs.length := by omega
              have hr8 := HR7.out
              rw [List.drop_length] at hr8
              have HR8 := Lib.hid hr8; clear hr8
              go_wp2_with fail
              refine HR8.out.left.mono ?_
              rintro e w7 ⟨rfl, rfl⟩
              go_wp2
              go_ret
              exact ⟨by simp, HB7.out⟩
      · have he1 : (s.err != 0) = true := by simp [he]
        have he2 : (s.err == 2) = true := by simp [he]
        have HE := Lib.hid he; clear he
        go_wp2_with fail
        refine HW.out.errs.mono ?_
        rintro e w3 ⟨rfl, rfl⟩
        go_wp2
        go_ret
        exact ⟨rfl, HBL.out⟩

set_option maxHeartbeats 400000 in
set_option maxRecDepth 100000 in
theorem back_big (fa : Option Addr) (fc : Nat) (fs : List FD) (ma : Option Addr) (mc : Nat) (more : List UInt8) (w : World) (h : Flds w w.heap.size fa fs) (hs : smallB fs = false ∨ 200 < more.length) :
    Calls Try.prog 5 #[.slice fa fs.length fc, .slice ma more.length mc] w fun e w' => e = .returned (.bool true) ∧ Below w.heap.size w w' := by
  have H := Lib.hid h; clear h
  have hor : smallB fs = false ∨ (smallB fs = true ∧ 200 < more.length) := by
    cases h : smallB fs <;> simp_all
  clear hs
  rcases hor with hs | ⟨hs, hm⟩
  all_goals
    go_enter Try.func5, Try.ntmps5
    go_wp2_with fail
    refine (awake_any w).mono ?_
    rintro e w1 ⟨rfl, b1⟩
    have H1 := Lib.hid (H.out.below b1); have B1 := Lib.hid b1; clear b1
    go_wp2_with fail
    refine (small_any fa fc fs w.heap.size w1 H1.out).mono ?_
    rintro e w2 ⟨rfl, rfl⟩
    go_wp2_with fail
    refine (awake_any w1).mono ?_
    rintro e w2 ⟨rfl, b2⟩
    have B2 := Lib.hid b2; clear b2
    go_wp2
    go_ret
    exact ⟨rfl, B1.out.trans (B2.out.mono B1.out.size)⟩

theorem back_any (fa : Option Addr) (fc : Nat) (fs : List FD) (ma : Option Addr) (mc : Nat) (more : List UInt8) (w : World) (h : Flds w w.heap.size fa fs) (hM : Lies w w.heap.size ma (more.map bv)) :
    Calls Try.prog 5 #[.slice fa fs.length fc, .slice ma more.length mc] w fun e w' => e = .returned (.bool true) ∧ Below w.heap.size w w' := by
  by_cases hb : smallB fs = false ∨ 200 < more.length
  · exact back_big fa fc fs ma mc more w h hb
  · refine back_small fa fc fs ma mc more w h hM ?_ (by omega)
    cases hs : smallB fs with
    | true => rfl
    | false => exact absurd (.inl hs) hb

end Go.Proofs.Yteomlamclppoeaa
