/-
  Lemmas towards the claim of this folder: contracts of the functions that the law reaches; joined texts.
-/
import Derived.Test.YtjnpmbdehalmpaaGreatGKp
import Derived.Test.YtjnpmbdehalmpaaGreatGR11a
import Derived.Test.YtjnpmbdehalmpaaGreatGNg
import Derived.Test.YtjnpmbdehalmpaaGreatGR9a
import Derived.Test.YtjnpmbdehalmpaaGreatGTp
import Derived.Test.YtjnpmbdehalmpaaGreatGL7
import Derived.Test.YtjnpmbdehalmpaaGreatGPq8
import Derived.Test.YtjnpmbdehalmpaaGreatGFp
/-
  CONTRACTS of package pack: Right, Same, Snap.
-/
namespace Go.Proofs.YtjnpmbdehalmpaaGreat
open Go.RowKit Go.Mk Go.Maps

theorem right_code (p : PD) : rightPk p = (isCl p.n && (decide (1 ≤ p.v) && (decide (p.v ≤ 2147483647) && ((decide (p.ns.length ≤ 20) && needsTo p p.ns.length) && (decide (p.ds.length ≤ 500) && defsTo p.ds p.ds.length))))) := by
  unfold rightPk headP
  generalize isCl p.n = a
  generalize decide (1 ≤ p.v) = b
  generalize decide (p.v ≤ 2147483647) = c
  generalize decide (p.ns.length ≤ 20) = d
  generalize decide (p.ds.length ≤ 500) = e
  generalize needsTo p p.ns.length = f
  generalize defsTo p.ds p.ds.length = g
  cases a <;> cases b <;> cases c <;> cases d <;> cases e <;> cases f <;> cases g <;> rfl

set_option maxHeartbeats 1000000 in
set_option maxRecDepth 100000 in
theorem dprightR_any (p : PE) (B : Nat) (w : World) (hP : Pks w B p) (hnn : p.ns.length ≤ 1000000) (hld : ∀ e ∈ p.ds.es, Len8 e.1) (hnd : p.ds.es.length ≤ 1000000) :
    Calls Tryz.prog 11 #[.agg #[.string (bs p.n), .int .i64 p.v, .slice p.na p.ns.length p.nc, .slice p.ds.ao p.ds.es.length p.ds.cap]] w fun e w' => e = .returned (.bool (rightPk (pkE p))) ∧ Kept (fun _ => False) w w' := by
  have hE : rightPk (pkE p) = (isCl p.n && (decide (1 ≤ p.v) && (decide (p.v ≤ 2147483647) && ((decide (p.ns.length ≤ 20) && needsTo (pkE p) p.ns.length) && (decide (p.ds.es.length ≤ 500) && defsTo (dds p.ds.es) p.ds.es.length))))) := by
    rw [right_code, ← dds_len p.ds.es]
    rfl
  have HE := Lib.hid hE; clear hE
  generalize rightPk (pkE p) = R at *
  have HB := Lib.hid (ceP_new w p.n p.v (.slice p.na p.ns.length p.nc) (.slice p.ds.ao p.ds.es.length p.ds.cap) 25)
  have KA := Lib.hid ((Kept.refl (fun _ => False) w).alloc (.cells #[.string (bs p.n), .int .i64 p.v, .slice p.na p.ns.length p.nc, .slice p.ds.ao p.ds.es.length p.ds.cap] 25))
  have HCN := Lib.hid (fun wx => ncl_any p.n wx)
  have HND := Lib.hid (show ∀ wx, Kept (fun _ => False) w wx → Calls Tryz.prog 31 #[.slice p.na p.ns.length p.nc, .string (bs p.n)] wx (fun e w' => e = .returned (.bool (decide (p.ns.length ≤ 20) && needsTo (pkE p) p.ns.length)) ∧ Kept (fun _ => False) wx w') from fun wx h => dneeds_any (pkE p) p.na p.nc B wx (hP.keep h).ns hnn)
  have HDF := Lib.hid (fun (wx : World) (h : Kept (fun _ => False) w wx) => ddefs_any p.ds B wx (hP.keep h).ds hld hnd)
  obtain ⟨n, v, na, nc, ns, ⟨dao, dcap, des⟩⟩ := p
  dsimp only at HB KA HCN HND HDF HE ⊢
  clear hP hnn hld hnd
  generalize isCl n = cln at *
  generalize (decide (ns.length ≤ 20) && needsTo (pkE ⟨n, v, na, nc, ns, ⟨dao, dcap, des⟩⟩) ns.length) = nb at *
  generalize (decide (des.length ≤ 500) && defsTo (dds des) des.length) = db at *
  go_enter Tryz.func11, Tryz.ntmps11
  obtain ⟨c0, c1, c2, c3⟩ := HB.out
  go_wp2_with fail
  refine (HCN.out _).mono ?_
  rintro e w1 ⟨rfl, k1⟩
  have K1 := Lib.hid (KA.out.trans k1 (fun _ _ h => h))
  have B1 := Lib.hid (ceP_kept HB.out k1 (fun h => h))
  clear k1 c0 c1 c2 c3
  obtain ⟨c0, c1, c2, c3⟩ := B1.out
  cases cln with
  | false =>
    have HX := Lib.hid (show R = false by rw [HE.out]; rfl)
    go_wp2
    go_ret
    exact ⟨by rw [HX.out]; rfl, K1.out⟩
  | true =>
    by_cases h1 : 1 ≤ v
    · by_cases h2 : v ≤ 2147483647
      · have HX := Lib.hid (show R = (nb && db) by rw [HE.out, decide_eq_true h1, decide_eq_true h2]; rfl)
        go_wp2_with fail
        refine (HND.out _ K1.out).mono ?_
        rintro e w2 ⟨rfl, k2⟩
        have K2 := Lib.hid (K1.out.trans k2 (fun _ _ h => h))
        have B2 := Lib.hid (ceP_kept B1.out k2 (fun h => h))
        clear k2 c0 c1 c2 c3
        obtain ⟨c0, c1, c2, c3⟩ := B2.out
        cases nb with
        | false =>
          go_wp2
          go_ret
          exact ⟨by rw [HX.out]; rfl, K2.out⟩
        | true =>
          go_wp2_with fail
          refine (HDF.out _ K2.out).mono ?_
          rintro e w3 ⟨rfl, k3⟩
          have K3 := Lib.hid (K2.out.trans k3 (fun _ _ h => h))
          clear k3
          go_wp2
          go_ret
          exact ⟨by rw [HX.out]; simp, K3.out⟩
      · have HX := Lib.hid (show R = false by rw [HE.out, decide_eq_true h1, decide_eq_false h2]; rfl)
        go_wp2
        go_ret
        exact ⟨by rw [HX.out]; rfl, K1.out⟩
    · have HX := Lib.hid (show R = false by rw [HE.out, decide_eq_false h1]; rfl)
      go_wp2
      go_ret
      exact ⟨by rw [HX.out]; rfl, K1.out⟩

theorem dpright_any (p : PE) (B : Nat) (w : World) (hP : Pks w B p) (hl : Len11 p) :
    Calls Tryz.prog 11 #[.agg #[.string (bs p.n), .int .i64 p.v, .slice p.na p.ns.length p.nc, .slice p.ds.ao p.ds.es.length p.ds.cap]] w fun e w' => e = .returned (.bool (rightPk (pkE p))) ∧ Kept (fun _ => False) w w' :=
  dprightR_any p B w hP hl.nn hl.d hl.nd

set_option maxHeartbeats 1000000 in
set_option maxRecDepth 100000 in
theorem dpsame_any (p q : PE) (B : Nat) (w : World) (hP : Pks w B p) (hQ : Pks w B q) (hl : Len11 p) (hm : Len11 q) :
    Calls Tryz.prog 12 #[.agg #[.string (bs p.n), .int .i64 p.v, .slice p.na p.ns.length p.nc, .slice p.ds.ao p.ds.es.length p.ds.cap], .agg #[.string (bs q.n), .int .i64 q.v, .slice q.na q.ns.length q.nc, .slice q.ds.ao q.ds.es.length q.ds.cap]] w fun e w' => e = .returned (.bool (sameK p q)) ∧ Kept (fun _ => False) w w' := by
  rw [sameK_eq]
  have K1 := Lib.hid ((Kept.refl (fun _ => False) w).alloc (.cells #[.string (bs p.n), .int .i64 p.v, .slice p.na p.ns.length p.nc, .slice p.ds.ao p.ds.es.length p.ds.cap] 25))
  have KB := Lib.hid ((Kept.refl (fun _ => False) (w.alloc (.cells #[.string (bs p.n), .int .i64 p.v, .slice p.na p.ns.length p.nc, .slice p.ds.ao p.ds.es.length p.ds.cap] 25))).alloc (.cells #[.string (bs q.n), .int .i64 q.v, .slice q.na q.ns.length q.nc, .slice q.ds.ao q.ds.es.length q.ds.cap] 25))
  have KA := Lib.hid (K1.out.trans KB.out (fun _ _ h => h))
  have HBP := Lib.hid (ceP_kept (ceP_new w p.n p.v (.slice p.na p.ns.length p.nc) (.slice p.ds.ao p.ds.es.length p.ds.cap) 25) KB.out (fun h => h))
  have HBQ := Lib.hid (ceP_new (w.alloc (.cells #[.string (bs p.n), .int .i64 p.v, .slice p.na p.ns.length p.nc, .slice p.ds.ao p.ds.es.length p.ds.cap] 25)) q.n q.v (.slice q.na q.ns.length q.nc) (.slice q.ds.ao q.ds.es.length q.ds.cap) 25)
  rw [World.size_alloc] at HBQ
  have HSN := Lib.hid (fun (wx : World) (h : Kept (fun _ => False) w wx) => sequal_any p.na p.nc p.ns q.na q.nc q.ns B wx (hP.keep h).ns (hQ.keep h).ns (by have := hl.nn; omega) (by have := hm.nn; omega))
  have HSD := Lib.hid (fun (wx : World) (h : Kept (fun _ => False) w wx) => dequal_any p.ds.ao p.ds.cap p.ds.es q.ds.ao q.ds.cap q.ds.es B wx (hP.keep h).ds.ds (hQ.keep h).ds.ds (fun e he => (hl.d e he).n) (fun e he => (hm.d e he).n) hl.nd)
  clear hP hQ hl hm
  obtain ⟨n, v, na, nc, ns, ⟨dao, dcap, des⟩⟩ := p
  obtain ⟨n', v', na', nc', ns', ⟨dao', dcap', des'⟩⟩ := q
  dsimp only at *
  have z1 := bs_list n; have z2 := bs_list n'
  generalize sameA des des' = sd at *
  generalize (ns == ns') = sn at *
  go_enter Tryz.func12, Tryz.ntmps12
  obtain ⟨c0, c1, c2, c3⟩ := HBP.out
  obtain ⟨d0, d1, d2, d3⟩ := HBQ.out
  cases h1 : (n == n') with
  | false =>
    go_wp2
    go_ret
    exact ⟨rfl, KA.out⟩
  | true =>
    by_cases h2 : v = v'
    · have q2 : (v == v') = true := by simp [h2]
      rw [q2]
      subst h2
      go_wp2_with fail
      refine (HSN.out _ KA.out).mono ?_
      rintro e w1 ⟨rfl, k1⟩
      have K2 := Lib.hid (KA.out.trans k1 (fun _ _ h => h))
      obtain ⟨c0, c1, c2, c3⟩ := ceP_kept HBP.out k1 (fun h => h)
      obtain ⟨d0, d1, d2, d3⟩ := ceP_kept HBQ.out k1 (fun h => h)
      clear k1
      cases sn with
      | false =>
        go_wp2
        go_ret
        exact ⟨rfl, K2.out⟩
      | true =>
        go_wp2_with fail
        refine (HSD.out _ K2.out).mono ?_
        rintro e w2 ⟨rfl, k2⟩
        have K3 := Lib.hid (K2.out.trans k2 (fun _ _ h => h)); clear k2
        go_wp2
        go_ret
        exact ⟨rfl, K3.out⟩
    · have q2 : (v == v') = false := by simpa using h2
      rw [q2]
      go_wp2
      go_ret
      exact ⟨rfl, KA.out⟩

theorem newL_right {l : List DD} (h : Rise keyD l) (hr : ∀ d ∈ l, rightD d = true) (hl : l.length ≤ 500) : newL l = (0, l) := by
  have h0 : (newL l).1 = 0 := new_ok _ [] [] ⟨List.Pairwise.nil, by simp, by simp, rfl⟩ hr (h.imp (fun h => lt_ne h)) (by simp) (by simp; omega)
  have MM := newL_made h0
  have e2 : (newL l).2 = l := rise_ext MM.rise h (fun x => by rw [MM.mem])
  have e3 : newL l = ((newL l).1, (newL l).2) := rfl
  rw [e3, h0, e2]

set_option maxHeartbeats 1000000 in
set_option maxRecDepth 100000 in
theorem dpsnap_any (p : PE) (B : Nat) (w : World) (hB : B ≤ w.heap.size) (hP : Pks w B p) (hl : Len11 p) :
    Calls Tryz.prog 10 #[.agg #[.string (bs p.n), .int .i64 p.v, .slice p.na p.ns.length p.nc, .slice p.ds.ao p.ds.es.length p.ds.cap]] w fun e w' => ∃ v, e = .returned v ∧ (rightPk (pkE p) = true → (∃ s, v = .pointer (some ⟨s, 0, none⟩)) ∧ Sn w' v (pkE p).ds) ∧ (rightPk (pkE p) = false → v = .pointer none) ∧ Kept (fun _ => False) w w' := by
  have HB := Lib.hid (ceP_new w p.n p.v (.slice p.na p.ns.length p.nc) (.slice p.ds.ao p.ds.es.length p.ds.cap) 25)
  have KA := Lib.hid ((Kept.refl (fun _ => False) w).alloc (.cells #[.string (bs p.n), .int .i64 p.v, .slice p.na p.ns.length p.nc, .slice p.ds.ao p.ds.es.length p.ds.cap] 25))
  have HRI := Lib.hid (fun (wx : World) (h : Kept (fun _ => False) w wx) => dpright_any p B wx (hP.keep h) hl)
  have HNW := Lib.hid (fun (wx : World) (h : Kept (fun _ => False) w wx) => snew_any p.ds.ao p.ds.cap p.ds.es B wx (Nat.le_trans hB h.size) (hP.keep h).ds.ds hl.d hl.nd)
  have HNL := Lib.hid (show rightPk (pkE p) = true → newL (dds p.ds.es) = (0, (pkE p).ds) from fun h => by
    have hr := rightPk_iff.1 h
    exact newL_right hr.rise hr.right hr.d500)
  clear hP hl
  generalize rightPk (pkE p) = ri at *
  generalize (pkE p).ds = pds at *
  generalize newL (dds p.ds.es) = nl at *
  go_enter Tryz.func10, Tryz.ntmps10
  obtain ⟨c0, c1, c2, c3⟩ := HB.out
  go_wp2_with fail
  refine (HRI.out _ KA.out).mono ?_
  rintro e w1 ⟨rfl, k1⟩
  have K1 := Lib.hid (KA.out.trans k1 (fun _ _ h => h))
  have B1 := Lib.hid (ceP_kept HB.out k1 (fun h => h))
  clear k1 c0 c1 c2 c3
  obtain ⟨c0, c1, c2, c3⟩ := B1.out
  cases ri with
  | false =>
    go_wp2
    go_ret
    exact ⟨_, rfl, rfl, K1.out⟩
  | true =>
    obtain rfl := HNL.out rfl
    clear HNL
    go_wp2_with fail
    refine (HNW.out _ K1.out).mono ?_
    rintro e w2 ⟨v, rfl, hv, -, hsn, k2⟩
    obtain ⟨s, rfl⟩ := hv rfl
    have S2 := Lib.hid hsn
    have K2 := Lib.hid (K1.out.trans k2 (fun _ _ h => h))
    clear k2 hv hsn
    go_wp2
    go_ret
    exact ⟨_, rfl, ⟨⟨s, rfl⟩, S2.out⟩, K2.out⟩

end Go.Proofs.YtjnpmbdehalmpaaGreat

/-
  CONTRACTS of package pack: Write.
-/
namespace Go.Proofs.YtjnpmbdehalmpaaGreat
open Go.RowKit Go.Mk Go.Maps

def writeK (p : PD) : Int × List UInt8 := if rightPk p = true then (0, sealL (octP p)) else (2, [])

theorem ws_num {o : List UInt8} {n : Nat} (h : n ≤ 2147483647) : (⟨o, 0⟩ : WS).num n = ⟨o ++ bigB 4 n, 0⟩ := WS.num_ok _ n rfl h
theorem ws_text {o t : List UInt8} (h : t.length ≤ 2147483647) : (⟨o, 0⟩ : WS).text t = ⟨o ++ encT t, 0⟩ := by rw [WS.text_enc _ _ h]; rfl
theorem ws_texts {o : List UInt8} {l : List (List UInt8)} (h : l.length ≤ 2147483647) (ht : ∀ t ∈ l, t.length ≤ 2147483647) : (⟨o, 0⟩ : WS).texts l = ⟨o ++ encL l, 0⟩ := by rw [WS.texts_enc _ _ h ht]; rfl

/-- The Writer under way, behind world w1: the package's box at b. -/
structure Wk (w1 : World) (p : PE) (b : Nat) (s : WS) (wx : World) : Prop where
  wr : WrF wx (fun k => w1.heap.size ≤ k) w1.heap.size s
  bx : ceP b p.n p.v (.slice p.na p.ns.length p.nc) (.slice p.ds.ao p.ds.es.length p.ds.cap) wx
  k : Kept (fun k => w1.heap.size ≤ k) w1 wx
  lt : b < w1.heap.size

theorem Wk.fr {w1 : World} {p : PE} {b : Nat} {s : WS} {wx : World} (h : Wk w1 p b s wx) : ∀ k, wx.heap.size ≤ k → w1.heap.size ≤ k := fun _ hk => Nat.le_trans h.k.size hk
theorem Wk.step {w1 : World} {p : PE} {b : Nat} {s s' : WS} {wx wy : World} (h : Wk w1 p b s wx) (hw : WrF wy (fun k => w1.heap.size ≤ k) w1.heap.size s') (hk : Kept (fun k => w1.heap.size ≤ k) wx wy) : Wk w1 p b s' wy :=
  ⟨hw, ceP_kept h.bx hk (fun e => by have := h.lt; omega), h.k.trans hk (fun _ _ h => h), h.lt⟩
theorem Wk.low {w1 : World} {p : PE} {b : Nat} {s : WS} {wx : World} (h : Wk w1 p b s wx) : Kept (fun _ => False) w1 wx := h.k.mono (fun _ hk h => by omega)

theorem oct_small {p : PD} (h : RightP p) : (encT p.n).length ≤ 44 ∧ sumL p.ns ≤ 2080 ∧ (encL p.ns).length ≤ 2084 ∧ (octS p.ds).length ≤ 5000004 := by
  have h1 := cl_len h.cl
  have h2 := sumL_le p.ns (fun t ht => by have := cl_len (h.needs t ht).1; omega)
  have h3 := octS_len h.right
  have h4 := h.n20; have h5 := h.d500
  rw [encT_len, encL_len]
  omega

set_option maxHeartbeats 2000000 in
set_option maxRecDepth 100000 in
theorem dpwrite_any (p : PE) (B : Nat) (w : World) (hB : B ≤ w.heap.size) (hP : Pks w B p) (hl : Len11 p) :
    Calls Tryz.prog 9 #[.agg #[.string (bs p.n), .int .i64 p.v, .slice p.na p.ns.length p.nc, .slice p.ds.ao p.ds.es.length p.ds.cap]] w fun e w' => ∃ ao cap, e = .returned (.tuple #[.slice ao (writeK (pkE p)).2.length cap, .int .i64 (writeK (pkE p)).1]) ∧ w'.ownsRow w.heap.size 5 1 (.slice ao (writeK (pkE p)).2.length cap) (writeK (pkE p)).2.length ((writeK (pkE p)).2.map bv) ∧ Kept (fun _ => False) w w' := by
  obtain ⟨i0, hi, hz0, hz1, hz2⟩ := info_parts Tryz.infoByte
  have HB := Lib.hid (ceP_new w p.n p.v (.slice p.na p.ns.length p.nc) (.slice p.ds.ao p.ds.es.length p.ds.cap) 25)
  have KA := Lib.hid ((Kept.refl (fun _ => False) w).alloc (.cells #[.string (bs p.n), .int .i64 p.v, .slice p.na p.ns.length p.nc, .slice p.ds.ao p.ds.es.length p.ds.cap] 25))
  have HSN := Lib.hid (fun (wx : World) (h : Kept (fun _ => False) w wx) => dpsnap_any p B wx (Nat.le_trans hB h.size) (hP.keep h) hl)
  have HZA := Lib.hid (show w.heap.size < (w.alloc (.cells #[.string (bs p.n), .int .i64 p.v, .slice p.na p.ns.length p.nc, .slice p.ds.ao p.ds.es.length p.ds.cap] 25)).heap.size by rw [World.size_alloc]; omega)
  have HP := Lib.hid (fun (wx : World) (h : Kept (fun _ => False) w wx) => hP.keep h)
  cases hr : rightPk (pkE p) with
  | false =>
    have hwk : writeK (pkE p) = (2, []) := by unfold writeK; rw [if_neg (by rw [hr]; simp)]
    rw [hwk]
    have HR := Lib.hid hr
    clear hr hwk hP hl hB
    go_enter Tryz.func9, Tryz.ntmps9
    obtain ⟨c0, c1, c2, c3⟩ := HB.out
    go_wp2_with fail
    refine (HSN.out _ KA.out).mono ?_
    rintro e w1 ⟨v', rfl, -, hv, k1⟩
    obtain rfl := hv HR.out
    have K1 := Lib.hid (KA.out.trans k1 (fun _ _ h => h))
    clear k1 hv c0 c1 c2 c3
    go_wp2
    go_ret2
    exact ⟨none, 0, rfl, World.ownsRow_nil _ _ _ _, K1.out⟩
  | true =>
    have hR := rightPk_iff.1 hr
    have hwk : writeK (pkE p) = (0, sealL (octP (pkE p))) := by unfold writeK; rw [if_pos hr]
    obtain ⟨q1, q2, q3, q4⟩ := oct_small hR
    have n40 := cl_len hR.cl; have v1 := hR.v1; have v2 := hR.v2; have n20 := hR.n20; have d5 := hR.d500
    have hnl : ∀ t ∈ p.ns, t.length ≤ 40 := fun t ht => cl_len (hR.needs t ht).1
    have HNL := Lib.hid hnl
    have hoc : octP (pkE p) = ((bigB 4 1297107783 ++ encT p.n) ++ bigB 4 p.v.toNat) ++ encL p.ns ++ octS (pkE p).ds := rfl
    have z0 : (bigB 4 1297107783).length = 4 := bigB_length _ _
    have z1 : (bigB 4 p.v.toNat).length = 4 := bigB_length _ _
    simp only [pkE, dds_len] at n40 v1 v2 n20 d5 q1 q2 q3
    have hs1 : (⟨[], 0⟩ : WS).num 1297107783 = ⟨bigB 4 1297107783, 0⟩ := ws_num (o := []) (n := 1297107783) (by decide)
    have hs2 := ws_text (o := bigB 4 1297107783) (t := p.n) (by omega)
    have hs3 : (⟨bigB 4 1297107783 ++ encT p.n, 0⟩ : WS).num p.v = ⟨(bigB 4 1297107783 ++ encT p.n) ++ bigB 4 p.v.toNat, 0⟩ := by
      have := ws_num (o := bigB 4 1297107783 ++ encT p.n) (n := p.v.toNat) (by omega)
      rwa [show ((p.v.toNat : Nat) : Int) = p.v by omega] at this
    have hs4 := ws_texts (o := (bigB 4 1297107783 ++ encT p.n) ++ bigB 4 p.v.toNat) (l := p.ns) (by omega) (fun t ht => by have := hnl t ht; omega)
    have HS1 := Lib.hid hs1; have HS2 := Lib.hid hs2; have HS3 := Lib.hid hs3; have HS4 := Lib.hid hs4
    rw [hwk, hoc]
    have HR := Lib.hid hr
    have HD5 := Lib.hid (show (pkE p).ds.length ≤ 600 by have := hR.d500; omega)
    clear hr hwk hP hl hB hoc hR hnl hs1 hs2 hs3 hs4
    generalize bigB 4 1297107783 = o1 at *
    obtain ⟨o2, h2⟩ : ∃ o2, o2 = o1 ++ encT p.n := ⟨_, rfl⟩
    obtain ⟨o3, h3⟩ : ∃ o3, o3 = o2 ++ bigB 4 p.v.toNat := ⟨_, rfl⟩
    obtain ⟨o4, h4⟩ : ∃ o4, o4 = o3 ++ encL p.ns := ⟨_, rfl⟩
    rw [← h2] at HS2 HS3 HS4 ⊢; rw [← h3] at HS3 HS4 ⊢; rw [← h4] at HS4 ⊢
    have l2 : o2.length ≤ 48 := by rw [h2, List.length_append]; omega
    have l3 : o3.length ≤ 52 := by rw [h3, List.length_append]; omega
    have l4 : o4.length ≤ 2136 := by rw [h4, List.length_append]; omega
    obtain ⟨os, hos⟩ : ∃ os, octS (pkE p).ds = os := ⟨_, rfl⟩
    rw [hos] at q4 ⊢
    have HOS := Lib.hid hos
    have HSL := Lib.hid (show (sealL (o4 ++ os)).length = o4.length + os.length + 4 by unfold sealL; rw [List.length_append, List.length_append]; rfl)
    clear h2 h3 h4 hos
    go_enter Tryz.func9, Tryz.ntmps9
    obtain ⟨c0, c1, c2, c3⟩ := HB.out
    go_wp2_with fail
    refine (HSN.out _ KA.out).mono ?_
    rintro e w1 ⟨v', rfl, hv, -, k1⟩
    obtain ⟨⟨s, rfl⟩, hsn⟩ := hv HR.out
    have K1 := Lib.hid (KA.out.trans k1 (fun _ _ h => h))
    have S1 := Lib.hid hsn
    have W1 := Lib.hid (show Wk w1 p w.heap.size ⟨[], 0⟩ (w1.alloc (.cells #[.slice none 0 0, .int .i64 0] 52)) from
      ⟨WrF.new w1 (fun k => w1.heap.size ≤ k) (fun k hk => hk) _, ceP_kept (ceP_kept HB.out k1 (fun h => h)) ((Kept.refl (fun _ => False) w1).alloc _) (fun h => h), ((Kept.refl (fun _ => False) w1).alloc _).mono (fun _ _ h => h.elim), Nat.lt_of_lt_of_le HZA.out k1.size⟩)
    clear k1 hv hsn c0 c1 c2 c3
    go_wp2_with fail
    refine (W1.out.wr.num W1.out.fr 1297107783 (by simp)).mono ?_
    rintro e w2 ⟨rfl, hw2, k2⟩
    rw [HS1.out] at hw2
    have W2 := Lib.hid (W1.out.step hw2 k2); clear hw2 k2 W1
    obtain ⟨c0, c1, c2, c3⟩ := W2.out.bx
    go_wp2_with fail
    refine (W2.out.wr.text W2.out.fr (bs p.n) (by dsimp only; omega) (by rw [bs_size]; omega)).mono ?_
    rintro e w3 ⟨rfl, hw3, k3⟩
    rw [show (bs p.n).data.toList = p.n from rfl, HS2.out] at hw3
    have W3 := Lib.hid (W2.out.step hw3 k3); clear hw3 k3 W2 c0 c1 c2 c3
    obtain ⟨c0, c1, c2, c3⟩ := W3.out.bx
    go_wp2_with fail
    refine (W3.out.wr.num W3.out.fr p.v (by dsimp only; omega)).mono ?_
    rintro e w4 ⟨rfl, hw4, k4⟩
    rw [HS3.out] at hw4
    have W4 := Lib.hid (W3.out.step hw4 k4); clear hw4 k4 W3 c0 c1 c2 c3
    obtain ⟨c0, c1, c2, c3⟩ := W4.out.bx
    have HLN := Lib.hid ((HP.out _ (K1.out.trans W4.out.low (fun _ _ h => h))).ns)
    have HLW := Lib.hid ((HP.out _ K1.out).ns)
    go_wp2_with fail
    refine (W4.out.wr.textsL W4.out.fr p.na p.nc p.ns HLN.out (fun hn a ha hf => ?_) (by dsimp only; omega) (by omega) (fun t ht => by have := HNL.out t ht; omega)).mono ?_
    · obtain ⟨g, off, e1, hb, hcg⟩ := HLW.out (by simpa [strs] using hn)
      have hl : g < w1.heap.size := by
        cases hns : p.ns with
        | nil => exact (hn hns).elim
        | cons x r => exact World.block_lt_of_cell? _ _ (hcg 0 (.string (bs x)) (by rw [hns]; rfl))
      rw [e1] at ha
      cases ha
      exact absurd hf (by dsimp only; omega)
    rintro e w5 ⟨rfl, hw5, k5⟩
    rw [HS4.out] at hw5
    have W5 := Lib.hid (W4.out.step hw5 k5); clear hw5 k5 W4 c0 c1 c2 c3
    have K5 := Lib.hid (K1.out.trans W5.out.low (fun _ _ h => h))
    have S5 := Lib.hid (S1.out.keep W5.out.low)
    go_wp2_with fail
    refine (W5.out.wr.bytes (by dsimp only; omega)).mono ?_
    rintro e w6 ⟨oa, oc, rfl, ho6, hb6⟩
    have K6 := Lib.hid (K5.out.trans (kept_of_belowsize hb6) (fun _ _ h => h))
    have O6 := Lib.hid (owns_base (base' := w.heap.size) ho6 (fun k hk => by have := (owns_lt ho6 k hk).1; have := K5.out.size; omega))
    have HW6 := Lib.hid (swrite_any _ _ w6 (S5.out.keep (kept_of_belowsize hb6)) HD5.out)
    rw [HOS.out] at HW6
    clear ho6 hb6
    dsimp only at O6
    go_wp2_with fail
    refine HW6.out.mono ?_
    rintro e w7 ⟨sa, sc, rfl, ho7, k7⟩
    have K7 := Lib.hid (K6.out.trans k7 (fun _ _ h => h))
    have O7 := Lib.hid (owns_kept O6.out k7 (fun _ _ h => h))
    have L7x := Lib.hid (owns_lies ho7)
    clear ho7 k7
    go_wp2_with (at_builtin; refine wpList_app _ rfl (.tmp 20) (.tmp 22) 28 28 rfl 5 i0 (.int .u8 0) 1 1 Tryz.underlying28 hi hz0 hz1 hz2 rfl (.slice oa o4.length oc) o4.length _ rfl (owns_base (base' := 0) O7.out (fun _ _ => Nat.zero_le _)) (.slice sa os.length sc) os.length _ rfl (src_lies Tryz.underlying28 L7x.out sc (bv_one os) os.length (by simp)) ?b1 ?b2 ?next)
    case b1 => unfold maxLen; omega
    case b2 => omega
    case next =>
      intro v' w8 ho8 hg8 hb8 _
      obtain ⟨ao', cap', rfl⟩ := owns_slice ho8
      have K8 := Lib.hid (K7.out.trans (kept_of_grown hg8) (fun i hi h => by have := (owns_lt O7.out i h).1; omega))
      have HCS := Lib.hid (show ∀ m, m = o4.length + os.length → Calls Tryz.prog 27 #[.slice ao' m cap'] w8 (fun e w' => ∃ ao cap, e = .returned (.slice ao (sealL (o4 ++ os)).length cap) ∧ w'.ownsRow w8.heap.size 5 1 (.slice ao (sealL (o4 ++ os)).length cap) (sealL (o4 ++ os)).length ((sealL (o4 ++ os)).map bv) ∧ Below w8.heap.size w8 w') from by
        rintro m rfl
        have h := cseal_any ao' cap' (o4 ++ os) w8.heap.size w8 (by rw [List.map_append]; exact owns_lies ho8) (by rw [List.length_append]; omega)
        rw [HSL.out]
        rwa [List.length_append] at h)
      clear ho8 hg8 hb8
      go_wp2_with fail
      refine (HCS.out _ (by omega)).mono ?_
      rintro e w9 ⟨ao, cap, rfl, ho9, hb9⟩
      have K9 := Lib.hid (K8.out.trans (kept_of_belowsize hb9) (fun _ _ h => h))
      have O9 := Lib.hid (owns_base (base' := w.heap.size) ho9 (fun k hk => by have := (owns_lt ho9 k hk).1; have := K8.out.size; omega))
      clear ho9 hb9
      go_wp2
      go_ret2
      exact ⟨ao, cap, rfl, O9.out, K9.out⟩

end Go.Proofs.YtjnpmbdehalmpaaGreat
