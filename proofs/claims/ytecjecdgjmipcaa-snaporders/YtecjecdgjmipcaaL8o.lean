/-
  SnapOrders: the walk.
-/
import Derived.Test.YtecjecdgjmipcaaL8c
import Derived.Test.YtecjecdgjmipcaaSy
import Derived.Test.YtecjecdgjmipcaaR7
import Derived.Deep.RegionHeld
import Derived.Deep.CutBlock
import Derived.Deep.DeepCutAuto
namespace Go.Proofs.Ytecjecdgjmipcaa
open Go.RowKit Go.Mk Go.Maps

/-- Two changes in their boxes. -/
structure O8 (w : World) (a b : CD) (wx : World) : Prop where
  a : Cb wx w.heap.size a
  b : Cb wx (w.heap.size + 1) b
  k : Kept (fun _ => False) w wx

theorem O8.keep {w : World} {a b : CD} {wx wy : World} (h : O8 w a b wx) (hk : Kept (fun _ => False) wx wy) : O8 w a b wy :=
  ⟨h.a.kept hk (fun h => h), h.b.kept hk (fun h => h), h.k.trans hk (fun _ _ h => h)⟩

theorem O8.new (w : World) (a b : CD) (t : TypeId) : O8 w a b ((w.alloc (.cells #[.bool a.dr, .int .i64 a.d.k, .string (bs a.d.c), .string (bs a.d.p), .slice a.ao a.d.vs.length a.cap, .string (bs a.d.s), .string (bs a.d.t), .string (bs a.key)] t)).alloc (.cells #[.bool b.dr, .int .i64 b.d.k, .string (bs b.d.c), .string (bs b.d.p), .slice b.ao b.d.vs.length b.cap, .string (bs b.d.s), .string (bs b.d.t), .string (bs b.key)] t)) := by
  refine ⟨(cb_new w a t).kept (S := fun _ => False) ((Kept.refl _ _).alloc _) (fun h => h), ?_, ((Kept.refl _ w).alloc _).alloc _⟩
  have := cb_new (w.alloc (.cells #[.bool a.dr, .int .i64 a.d.k, .string (bs a.d.c), .string (bs a.d.p), .slice a.ao a.d.vs.length a.cap, .string (bs a.d.s), .string (bs a.d.t), .string (bs a.key)] t)) b t
  rwa [World.size_alloc] at this

abbrev cells16 (w : World) (a b : CD) (w' : World) : Prop :=
  w'.cell? ⟨w.heap.size, 0, none⟩ = some (.bool a.dr) ∧ w'.cell? ⟨w.heap.size, 1, none⟩ = some (.int .i64 a.d.k) ∧ w'.cell? ⟨w.heap.size, 2, none⟩ = some (.string (bs a.d.c)) ∧ w'.cell? ⟨w.heap.size, 3, none⟩ = some (.string (bs a.d.p)) ∧ w'.cell? ⟨w.heap.size, 4, none⟩ = some (.slice a.ao a.d.vs.length a.cap) ∧ w'.cell? ⟨w.heap.size, 5, none⟩ = some (.string (bs a.d.s)) ∧ w'.cell? ⟨w.heap.size, 6, none⟩ = some (.string (bs a.d.t)) ∧ w'.cell? ⟨w.heap.size, 7, none⟩ = some (.string (bs a.key)) ∧
  w'.cell? ⟨w.heap.size + 1, 0, none⟩ = some (.bool b.dr) ∧ w'.cell? ⟨w.heap.size + 1, 1, none⟩ = some (.int .i64 b.d.k) ∧ w'.cell? ⟨w.heap.size + 1, 2, none⟩ = some (.string (bs b.d.c)) ∧ w'.cell? ⟨w.heap.size + 1, 3, none⟩ = some (.string (bs b.d.p)) ∧ w'.cell? ⟨w.heap.size + 1, 4, none⟩ = some (.slice b.ao b.d.vs.length b.cap) ∧ w'.cell? ⟨w.heap.size + 1, 5, none⟩ = some (.string (bs b.d.s)) ∧ w'.cell? ⟨w.heap.size + 1, 6, none⟩ = some (.string (bs b.d.t)) ∧ w'.cell? ⟨w.heap.size + 1, 7, none⟩ = some (.string (bs b.key))

theorem O8.cells {w : World} {a b : CD} {wx : World} (h : O8 w a b wx) : cells16 w a b wx :=
  ⟨h.a.c0, h.a.c1, h.a.c2, h.a.c3, h.a.c4, h.a.c5, h.a.c6, h.a.c7, h.b.c0, h.b.c1, h.b.c2, h.b.c3, h.b.c4, h.b.c5, h.b.c6, h.b.c7⟩

def bigO (es : List Ent) (a b : CD) : Bool := !fewB es 10 || !smallD a.d || !smallD b.d || decide (700 < a.key.length) || decide (700 < b.key.length)
def wrongO (er : Int) (a b : CD) : Bool := decide (er ≠ 0) || (!a.dr && !rightD a.d) || (!b.dr && !rightD b.d)

set_option maxHeartbeats 4000000 in
set_option maxRecDepth 100000 in
theorem orders_any (la : Option Addr) (lc : Nat) (es : List Ent) (a b : CD) (w : World) (hD : Ds w w.heap.size la es) (ha : Cin w w.heap.size a) (hb : Cin w w.heap.size b) :
    Calls Try.prog 7 #[.slice la es.length lc, .agg #[.bool a.dr, .int .i64 a.d.k, .string (bs a.d.c), .string (bs a.d.p), .slice a.ao a.d.vs.length a.cap, .string (bs a.d.s), .string (bs a.d.t), .string (bs a.key)], .agg #[.bool b.dr, .int .i64 b.d.k, .string (bs b.d.c), .string (bs b.d.p), .slice b.ao b.d.vs.length b.cap, .string (bs b.d.s), .string (bs b.d.t), .string (bs b.key)]] w fun e w' => e = .returned (.bool true) ∧ Below w.heap.size w w' := by
  have O0 := Lib.hid (O8.new w a b 45)
  have HAW := Lib.hid (fun w => awake8_any w)
  have HFEW := Lib.hid (fun (wx : World) (h : Kept (fun _ => False) w wx) => few_any la lc es 10 w.heap.size wx (hD.keep h) (by decide))
  have HSA := Lib.hid (fun (wx : World) (h : Kept (fun _ => False) w wx) => rsmall_any a.d a.ao a.cap w.heap.size wx (ha.lies.kept h (fun _ _ _ h => h)))
  have HSB := Lib.hid (fun (wx : World) (h : Kept (fun _ => False) w wx) => rsmall_any b.d b.ao b.cap w.heap.size wx (hb.lies.kept h (fun _ _ _ h => h)))
  have HD := Lib.hid hD; have HIA := Lib.hid ha; have HIB := Lib.hid hb
  have za : (bs a.key).size = a.key.length := rfl
  have zb : (bs b.key).size = b.key.length := rfl
  clear hD ha hb
  go_enter Try.func7, Try.ntmps7
  go_upto_region 1 with fail
  go_cut [43] (fun v wx => v = .bool (bigO es a b) ∧ O8 w a b wx)
  case first =>
    go_wp2_with fail
    refine (HAW.out _).mono ?_
    rintro e w1 ⟨rfl, k1⟩
    have O1 := Lib.hid (O0.out.keep k1); clear k1
    go_wp2_with fail
    refine (HFEW.out _ O1.out.k).mono ?_
    rintro e w2 ⟨rfl, k2⟩
    have O2 := Lib.hid (O1.out.keep k2); clear k2
    cases hf : fewB es 10 with
    | false =>
      have HB := Lib.hid (show bigO es a b = true by simp [bigO, hf]); clear hf
      go_wp2_with fail
      go_meet
      case rel => exact ⟨by rw [HB.out], O2.out⟩
    | true =>
    obtain ⟨_, c1, c2, c3, c4, c5, c6, c7⟩ := O2.out.a
    go_wp2_with fail
    refine (HSA.out _ O2.out.k).mono ?_
    rintro e w3 ⟨rfl, k3⟩
    have O3 := Lib.hid (O2.out.keep k3); clear k3 c1 c2 c3 c4 c5 c6 c7
    cases hsa : smallD a.d with
    | false =>
      have HB := Lib.hid (show bigO es a b = true by simp [bigO, hsa]); clear hf hsa
      go_wp2_with fail
      go_meet
      case rel => exact ⟨by rw [HB.out], O3.out⟩
    | true =>
    obtain ⟨_, c1, c2, c3, c4, c5, c6, c7⟩ := O3.out.b
    go_wp2_with fail
    refine (HSB.out _ O3.out.k).mono ?_
    rintro e w4 ⟨rfl, k4⟩
    have O4 := Lib.hid (O3.out.keep k4); clear k4 c1 c2 c3 c4 c5 c6 c7
    cases hsb : smallD b.d with
    | false =>
      have HB := Lib.hid (show bigO es a b = true by simp [bigO, hsb]); clear hf hsa hsb
      go_wp2_with fail
      go_meet
      case rel => exact ⟨by rw [HB.out], O4.out⟩
    | true =>
    have c7 := O4.out.a.c7
    have d7 := O4.out.b.c7
    by_cases hka : 700 < a.key.length
    · have i1 : (700 : Int) < (a.key.length : Int) := by omega
      have HB := Lib.hid (show bigO es a b = true by simp [bigO, hka]); clear hf hsa hsb hka
      go_wp2_with fail
      go_meet
      case rel => exact ⟨by rw [HB.out], O4.out⟩
    · have i1 : ¬ (700 : Int) < (a.key.length : Int) := by omega
      by_cases hkb : 700 < b.key.length
      · have i2 : (700 : Int) < (b.key.length : Int) := by omega
        have HB := Lib.hid (show bigO es a b = true by simp [bigO, hkb]); clear hf hsa hsb hka hkb
        go_wp2_with fail
        go_meet
        case rel => exact ⟨by rw [HB.out], O4.out⟩
      · have i2 : ¬ (700 : Int) < (b.key.length : Int) := by omega
        have HB := Lib.hid (show bigO es a b = false by simp [bigO, hf, hsa, hsb, hka, hkb]); clear hf hsa hsb hka hkb
        go_wp2_with fail
        go_meet
        case rel => exact ⟨by rw [HB.out, decide_eq_false (by omega), decide_eq_false (by omega)]; rfl, O4.out⟩
  case rest =>
    obtain ⟨rfl, o5⟩ := hcut
    have O5 := Lib.hid o5; clear o5
    cases hbig : bigO es a b with
    | true =>
      clear hbig
      go_wp2_with fail
      refine (HAW.out _).mono ?_
      rintro e w6 ⟨rfl, k6⟩
      have O6 := Lib.hid (O5.out.keep k6); clear k6
      go_wp2
      go_ret
      exact ⟨rfl, keeps_below7 O6.out.k⟩
    | false =>
      have hall : fewB es 10 = true ∧ smallD a.d = true ∧ smallD b.d = true ∧ a.key.length ≤ 700 ∧ b.key.length ≤ 700 := by
        simp [bigO] at hbig
        exact ⟨hbig.1.1.1.1, hbig.1.1.1.2, hbig.1.1.2, by omega, by omega⟩
      obtain ⟨hfew, hsa, hsb, hka, hkb⟩ := hall
      have HF := Lib.hid (few_of (n := 10) hfew); have SA := Lib.hid (smallD_of hsa); have SB := Lib.hid (smallD_of hsb); have HKA := Lib.hid hka; have HKB := Lib.hid hkb
      clear hbig hfew hsa hsb hka hkb za zb
      go_wp2_with fail
      refine (snew_any la lc es w.heap.size wc O5.out.k.size (HD.out.keep O5.out.k) (fun e he => small_len8 (HF.out.small e he)) (by have := HF.out.len; omega)).mono ?_
      rintro e w6 ⟨v, rfl, hv1, hv2, hsn, k6⟩
      have O6 := Lib.hid (O5.out.keep k6); have SN := Lib.hid hsn; have HV1 := Lib.hid hv1
      have HLEN := Lib.hid (show (newL (dds es)).2.length ≤ 10 by
        by_cases h0 : (newL (dds es)).1 = 0
        · rw [(newL_made h0).len, dds_len]; exact HF.out.len
        · rw [newL_none h0]; simp)
      clear k6 hsn hv1 hv2
      generalize newL (dds es) = R at *
      obtain ⟨er, l⟩ := R
      dsimp only at SN HV1 HLEN
      go_upto_region 4 with fail
      go_cut [73] (fun v wx => v = .bool (wrongO er a b) ∧ O8 w a b wx ∧ Kept (fun _ => False) w6 wx)
      case first =>
        by_cases her : er = 0
        · have he1 : (er != 0) = false := by simp [her]
          have HER := Lib.hid her; clear her
          have HRA := Lib.hid (fun (wx : World) (h : Kept (fun _ => False) w wx) => rright_any a.d a.ao a.cap w.heap.size wx (HIA.out.lies.kept h (fun _ _ _ h => h)) HIA.out.cap (by have := SA.out.n; omega) (by have := SA.out.s; omega))
          have HRB := Lib.hid (fun (wx : World) (h : Kept (fun _ => False) w wx) => rright_any b.d b.ao b.cap w.heap.size wx (HIB.out.lies.kept h (fun _ _ _ h => h)) HIB.out.cap (by have := SB.out.n; omega) (by have := SB.out.s; omega))
          obtain ⟨a0, a1, a2, a3, a4, a5, a6, _⟩ := O6.out.a
          rcases dr_two a with hda | hda
          · rw [hda] at a0
            have HAA := Lib.hid (show (!a.dr && !rightD a.d) = false by simp [hda])
            clear hda
            have b0 := O6.out.b.c0
            obtain ⟨_, b1, b2, b3, b4, b5, b6, _⟩ := O6.out.b
            rcases dr_two b with hdb | hdb
            · have HB := Lib.hid (show wrongO er a b = false by simp [wrongO, HER.out, HAA.out, hdb])
              rw [hdb] at b0
              clear hdb
              go_wp2_with fail
              go_meet
              case rel => exact ⟨by rw [HB.out], O6.out, (Kept.refl (fun _ => False) w6)⟩
            · rw [hdb] at b0
              have HDB := Lib.hid hdb; clear hdb
              go_wp2_with fail
              refine (HRB.out _ O6.out.k).mono ?_
              rintro e w8 ⟨rfl, k8⟩
              have O8 := Lib.hid (O6.out.keep k8); have K8 := Lib.hid k8; clear k8
              cases hrb : rightD b.d with
              | false =>
                have HB := Lib.hid (show wrongO er a b = true by simp [wrongO, HDB.out, hrb]); clear hrb
                go_wp2_with fail
                go_meet
                case rel => exact ⟨by rw [HB.out], O8.out, Kept.trans (Kept.refl (fun _ => False) w6) K8.out (fun _ _ h => h)⟩
              | true =>
                have HB := Lib.hid (show wrongO er a b = false by simp [wrongO, HER.out, HAA.out, HDB.out, hrb]); clear hrb
                go_wp2_with fail
                go_meet
                case rel => exact ⟨by rw [HB.out], O8.out, Kept.trans (Kept.refl (fun _ => False) w6) K8.out (fun _ _ h => h)⟩
          · rw [hda] at a0
            have HDA := Lib.hid hda; clear hda
            go_wp2_with fail
            refine (HRA.out _ O6.out.k).mono ?_
            rintro e w7 ⟨rfl, k7⟩
            have O7' := Lib.hid (O6.out.keep k7); have K7 := Lib.hid k7; clear k7 a0 a1 a2 a3 a4 a5 a6
            cases hra : rightD a.d with
            | false =>
              have HB := Lib.hid (show wrongO er a b = true by simp [wrongO, HDA.out, hra]); clear hra
              go_wp2_with fail
              go_meet
              case rel => exact ⟨by rw [HB.out], O7'.out, K7.out⟩
            | true =>
              have HAA := Lib.hid (show (!a.dr && !rightD a.d) = false by simp [hra])
              clear hra
              have b0 := O7'.out.b.c0
              obtain ⟨_, b1, b2, b3, b4, b5, b6, _⟩ := O7'.out.b
              rcases dr_two b with hdb | hdb
              · have HB := Lib.hid (show wrongO er a b = false by simp [wrongO, HER.out, HAA.out, hdb])
                rw [hdb] at b0
                clear hdb
                go_wp2_with fail
                go_meet
                case rel => exact ⟨by rw [HB.out], O7'.out, K7.out⟩
              · rw [hdb] at b0
                have HDB := Lib.hid hdb; clear hdb
                go_wp2_with fail
                refine (HRB.out _ O7'.out.k).mono ?_
                rintro e w8 ⟨rfl, k8⟩
                have O8 := Lib.hid (O7'.out.keep k8); have K8 := Lib.hid k8; clear k8
                cases hrb : rightD b.d with
                | false =>
                  have HB := Lib.hid (show wrongO er a b = true by simp [wrongO, HDB.out, hrb]); clear hrb
                  go_wp2_with fail
                  go_meet
                  case rel => exact ⟨by rw [HB.out], O8.out, Kept.trans K7.out K8.out (fun _ _ h => h)⟩
                | true =>
                  have HB := Lib.hid (show wrongO er a b = false by simp [wrongO, HER.out, HAA.out, HDB.out, hrb]); clear hrb
                  go_wp2_with fail
                  go_meet
                  case rel => exact ⟨by rw [HB.out], O8.out, Kept.trans K7.out K8.out (fun _ _ h => h)⟩
        · have he1 : (er != 0) = true := by simp [her]
          have HB := Lib.hid (show wrongO er a b = true by simp [wrongO, her]); clear her
          go_wp2_with fail
          go_meet
          case rel => exact ⟨by rw [HB.out], O6.out, Kept.refl _ _⟩
      case rest =>
        obtain ⟨rfl, o8, k8⟩ := hcut
        have O8' := Lib.hid o8; have SN8 := Lib.hid (SN.out.keep k8); clear o8 k8
        cases hwr : wrongO er a b with
        | true =>
          clear hwr
          go_wp2
          go_ret
          exact ⟨rfl, keeps_below7 O8'.out.k⟩
        | false =>
          have hall : er = 0 ∧ (a.dr = false → rightD a.d = true) ∧ (b.dr = false → rightD b.d = true) := by
            simp [wrongO] at hwr
            exact ⟨hwr.1.1, hwr.1.2, hwr.2⟩
          obtain ⟨he, hra, hrb⟩ := hall
          obtain ⟨s, rfl⟩ := HV1.out he
          have HRA := Lib.hid hra; have HRB := Lib.hid hrb
          clear hwr he hra hrb
          have HKYA := Lib.hid (fun (wx : World) (h : Kept (fun _ => False) w wx) => rkey_any a.d a.ao a.cap w.heap.size wx (HIA.out.lies.kept h (fun _ _ _ h => h)) HIA.out.cap (by have := SA.out.n; omega) (by have := SA.out.s; omega) (by have := SA.out.c; omega))
          have HKYB := Lib.hid (fun (wx : World) (h : Kept (fun _ => False) w wx) => rkey_any b.d b.ao b.cap w.heap.size wx (HIB.out.lies.kept h (fun _ _ _ h => h)) HIB.out.cap (by have := SB.out.n; omega) (by have := SB.out.s; omega) (by have := SB.out.c; omega))
          have KC := Lib.hid (Kept.refl (fun _ => False) wc)
          generalize hw0 : wc = wz at *
          go_upto_region 6 with fail
          go_cut [9, 10] (fun x y wx => x = .string (bs a.key) ∧ y = .string (bs b.key) ∧ O8 w a b wx ∧ Sn wx (.pointer (some ⟨s, 0, none⟩)) l)
          case first =>
            have OD := Lib.hid (O8'.out.keep (Kept.drew (Kept.refl _ wz))); have SD := Lib.hid (SN8.out.keep (Kept.drew (Kept.refl _ wz)))
            have c7 := OD.out.a.c7
            have d7 := OD.out.b.c7
            go_region
            all_goals go_wp2_with fail
            all_goals go_meet
            all_goals exact ⟨rfl, rfl, OD.out, SD.out⟩
          case rest =>
            obtain ⟨rfl, rfl, o9, s9⟩ := hcut
            have O9 := Lib.hid o9; have S9 := Lib.hid s9; clear o9 s9
            have a0 := O9.out.a.c0
            go_upto_if 80 with fail
            go_cut [9] (fun x wx => x = .string (bs (keyC a)) ∧ O8 w a b wx ∧ Sn wx (.pointer (some ⟨s, 0, none⟩)) l)
            case first =>
              obtain ⟨_, a1, a2, a3, a4, a5, a6, _⟩ := O9.out.a
              clear a0
              go_wp2_with fail
              · have HX := Lib.hid (keytrue_of (c := a) (by assumption))
                refine (HKYA.out _ O9.out.k).mono ?_
                rintro e w10 ⟨rfl, k10⟩
                have O10 := Lib.hid (O9.out.keep k10); have S10 := Lib.hid (S9.out.keep k10); clear k10
                go_wp2_with fail
                go_meet
                case rel => exact ⟨by rw [HX.out], O10.out, S10.out⟩
              · have HX := Lib.hid (keyfalse_of (c := a) (by assumption))
                go_meet
                case rel => exact ⟨by rw [HX.out], O9.out, S9.out⟩
            case rest =>
              obtain ⟨rfl, o11, s11⟩ := hcut
              have O11 := Lib.hid o11; have S11 := Lib.hid s11; clear o11 s11 a0
              have b0 := O11.out.b.c0
              go_upto_if 86 with fail
              go_cut [10] (fun x wx => x = .string (bs (keyC b)) ∧ O8 w a b wx ∧ Sn wx (.pointer (some ⟨s, 0, none⟩)) l)
              case first =>
                obtain ⟨_, b1, b2, b3, b4, b5, b6, _⟩ := O11.out.b
                clear b0
                go_wp2_with fail
                · have HX := Lib.hid (keytrue_of (c := b) (by assumption))
                  refine (HKYB.out _ O11.out.k).mono ?_
                  rintro e w12 ⟨rfl, k12⟩
                  have O12 := Lib.hid (O11.out.keep k12); have S12 := Lib.hid (S11.out.keep k12); clear k12
                  go_wp2_with fail
                  go_meet
                  case rel => exact ⟨by rw [HX.out], O12.out, S12.out⟩
                · have HX := Lib.hid (keyfalse_of (c := b) (by assumption))
                  go_meet
                  case rel => exact ⟨by rw [HX.out], O11.out, S11.out⟩
              case rest =>
                obtain ⟨rfl, o13, s13⟩ := hcut
                have O13 := Lib.hid o13; have S13 := Lib.hid s13; clear o13 s13 b0
                have za := bs_list (keyC a)
                have zb := bs_list (keyC b)
                have HCM := Lib.hid (fun h => chg_comm (a := a) (b := b) S13.out.rise h)
                cases hkk : keyC a == keyC b with
                | true =>
                  go_wp2
                  go_ret
                  exact ⟨rfl, keeps_below7 O13.out.k⟩
                | false =>
                  have HEQ := Lib.hid (HCM.out (by simpa using hkk)); clear HCM
                  have OD := Lib.hid (O13.out.keep (Kept.drew (Kept.refl _ wc))); have SD := Lib.hid (S13.out.keep (Kept.drew (Kept.refl _ wc)))
                  have HCA := Lib.hid (fun (v : Value) (m : List DD) (wx : World) (h : Kept (fun _ => False) w wx) (hs : Sn wx v m) (hl : m.length ≤ 400) => chg_any v m a w.heap.size wx hs (HIA.out.lies.kept h (fun _ _ _ h => h)) HIA.out.cap SA.out (by have := HKA.out; omega) hl HRA.out)
                  have HCB := Lib.hid (fun (v : Value) (m : List DD) (wx : World) (h : Kept (fun _ => False) w wx) (hs : Sn wx v m) (hl : m.length ≤ 400) => chg_any v m b w.heap.size wx hs (HIB.out.lies.kept h (fun _ _ _ h => h)) HIB.out.cap SB.out (by have := HKB.out; omega) hl HRB.out)
                  have hL1 := chg_len (c := a) S13.out.rise
                  have hL2 := chg_len (c := b) S13.out.rise
                  have HL := Lib.hid (show l.length ≤ 400 ∧ (chgL a l).length ≤ 400 ∧ (chgL b l).length ≤ 400 by have := HLEN.out; omega)
                  clear hL1 hL2
                  have hS : cells16 w a b wc.drew := OD.out.cells
                  go_upto_region 13 with fail
                  clear hkk za zb
                  go_region_held (cells16 w a b) (with_reducible assumption) (first
                    | (go_at_call_of 30 (Value.pointer (some ⟨s, 0, none⟩)); go_at_call_of 30 (Value.string (bs a.key)); refine (HCA.out _ l _ OD.out.k SD.out HL.out.1).mono ?_; rintro e w1 ⟨s1, rfl, n1, k1⟩; have O1 := Lib.hid (OD.out.keep k1); have N1 := Lib.hid n1; have S1 := Lib.hid (SD.out.keep k1); have hS1 : cells16 w a b w1 := O1.out.cells; clear n1 k1)
                    | (go_at_call_of 30 (Value.pointer (some ⟨s, 0, none⟩)); go_at_call_of 30 (Value.string (bs b.key)); refine (HCB.out _ l _ O2.out.k S2.out HL.out.1).mono ?_; rintro e w3 ⟨s3, rfl, n3, k3⟩; have O3 := Lib.hid (O2.out.keep k3); have N3 := Lib.hid n3; have M3 := Lib.hid (N2.out.keep k3); have hS3 : cells16 w a b w3 := O3.out.cells; clear n3 k3)
                    | (go_at_call_of 30 (Value.pointer (some ⟨s1, 0, none⟩)); refine (HCB.out _ (chgL a l) _ O1.out.k N1.out HL.out.2.1).mono ?_; rintro e w2 ⟨s2, rfl, n2, k2⟩; have O2 := Lib.hid (O1.out.keep k2); have N2 := Lib.hid n2; have S2 := Lib.hid (S1.out.keep k2); have hS2 : cells16 w a b w2 := O2.out.cells; clear n2 k2)
                    | (go_at_call_of 30 (Value.pointer (some ⟨s3, 0, none⟩)); refine (HCA.out _ (chgL b l) _ O3.out.k N3.out HL.out.2.2).mono ?_; rintro e w4 ⟨s4, rfl, n4, k4⟩; have O4 := Lib.hid (O3.out.keep k4); have N4 := Lib.hid n4; have M4 := Lib.hid (M3.out.keep k4); have hS4 : cells16 w a b w4 := O4.out.cells; clear n4 k4))
                  all_goals go_wp2_with fail
                  have hsm := ssame_any M4.out N4.out
                  rw [show sameL (chgL b (chgL a l)) (chgL a (chgL b l)) = true from decide_eq_true HEQ.out] at hsm
                  refine hsm.mono ?_
                  rintro e w5 ⟨rfl, k5⟩
                  have O5' := Lib.hid (O4.out.keep k5); clear k5 hsm
                  go_wp2
                  go_ret
                  exact ⟨rfl, keeps_below7 O5'.out.k⟩

end Go.Proofs.Ytecjecdgjmipcaa
