/-
  Lemmas towards the claim of this folder: contracts of the functions that the law reaches; joined texts.
-/
import Derived.Test.YtjnpmbdehalmpaaGreatGKp
import Derived.Test.YtjnpmbdehalmpaaGreatGSw
import Derived.Test.YtjnpmbdehalmpaaGreatGR7
import Derived.Test.YtjnpmbdehalmpaaGreatGPe
import Derived.Test.YtjnpmbdehalmpaaGreatGR9a
import Derived.Test.YtjnpmbdehalmpaaGreatGNg
/-
  The reference of layer 11: Small, Same.
-/
namespace Go.Proofs.YtjnpmbdehalmpaaGreat
open Go.RowKit Go.Mk Go.Maps

def smallK (p : PE) : Bool := decide (p.n.length ≤ 100) && decide (p.ns.length ≤ 30) && fewB p.ds.es 12 && p.ns.all (fun x => decide (x.length ≤ 100))

theorem smallK_len {p : PE} (h : smallK p = true) : p.n.length ≤ 100 ∧ p.ns.length ≤ 30 ∧ (∀ x ∈ p.ns, x.length ≤ 100) ∧ p.ds.es.length ≤ 12 ∧ Len11 p := by
  unfold smallK at h
  simp only [Bool.and_eq_true, decide_eq_true_eq, List.all_eq_true] at h
  obtain ⟨⟨⟨h1, h2⟩, h3⟩, h4⟩ := h
  have f := few_of (n := 12) h3
  exact ⟨h1, h2, h4, f.len, by omega, by omega, fun x hx => by have := h4 x hx; omega, fun x hx => small_len8 (f.small x hx), by have := f.len; omega⟩

set_option maxHeartbeats 1000000 in
set_option maxRecDepth 100000 in
theorem rsmall11_any (p : PE) (B : Nat) (w : World) (hP : Pks w B p) :
    Calls Tryz.prog 7 #[.agg #[.string (bs p.n), .int .i64 p.v, .slice p.na p.ns.length p.nc, .slice p.ds.ao p.ds.es.length p.ds.cap]] w fun e w' => e = .returned (.bool (smallK p)) ∧ Kept (fun _ => False) w w' := by
  obtain ⟨n, v, na, nc, ns, ⟨dao, dcap, des⟩⟩ := p
  have hB : smallK ⟨n, v, na, nc, ns, ⟨dao, dcap, des⟩⟩ = (decide (n.length ≤ 100) && decide (ns.length ≤ 30) && fewB des 12 && ns.all (fun x => decide (x.length ≤ 100))) := rfl
  rw [hB]; clear hB
  have KA := Lib.hid ((Kept.refl (fun _ => False) w).alloc (.cells #[.string (bs n), .int .i64 v, .slice na ns.length nc, .slice dao des.length dcap] 25))
  have HB := Lib.hid (ceP_new w n v (.slice na ns.length nc) (.slice dao des.length dcap) 25)
  have HF := Lib.hid (fun (wx : World) (h : Kept (fun _ => False) w wx) => few_any dao dcap des 12 B wx (hP.keep h).ds.ds (by decide))
  have HN := Lib.hid hP.ns
  dsimp only at HN HF
  clear hP
  have zn := bs_size n
  generalize fewB des 12 = fb at *
  dsimp only
  go_enter Tryz.func7, Tryz.ntmps7
  obtain ⟨c0, c1, c2, c3⟩ := HB.out
  by_cases h1 : n.length ≤ 100
  · have i1 : ¬ (100 : Int) < (n.length : Int) := by omega
    rw [decide_eq_true h1]
    by_cases h2 : ns.length ≤ 30
    · have i2 : ¬ (30 : Int) < (ns.length : Int) := by omega
      rw [decide_eq_true h2]
      go_wp2_with fail
      refine (HF.out _ KA.out).mono ?_
      rintro e w1 ⟨rfl, k1⟩
      have K1 := Lib.hid (KA.out.trans k1 (fun _ _ h => h)); have B1 := Lib.hid (ceP_kept HB.out k1 (fun h => h))
      clear k1 c0 c1 c2 c3
      cases fb with
      | false =>
        go_wp2
        go_ret
        exact ⟨rfl, K1.out⟩
      | true =>
        go_wp2
        go_loopg [3] ns.length (fun k c wr => ∃ j, k = ns.length - j ∧ j ≤ ns.length ∧ c = .int .i64 (j : Int) ∧ (ns.take j).all (fun x => decide (x.length ≤ 100)) = true ∧ Kept (fun _ => False) w1 wr)
        case atStart => exact ⟨0, rfl, Nat.zero_le _, rfl, rfl, Kept.refl _ _⟩
        case round =>
          obtain ⟨j, hk, hj, rfl, hall, hw⟩ := hrel
          have HK := Lib.hid hk; have HA := Lib.hid hall; have HW := Lib.hid hw
          clear hk hall hw
          obtain ⟨c0, c1, c2, c3⟩ := ceP_kept B1.out HW.out (fun h => h)
          by_cases hlt : j < ns.length
          · obtain ⟨b, off, rfl, hb, hc⟩ := HN.out (by intro h; simp [strs] at h; rw [h] at hlt; simp at hlt)
            have hx : wr.cell? ⟨b, off + j, none⟩ = some (.string (bs ns[j])) := by
              have h1 := hc j (.string (bs ns[j])) (by simp [strs, hlt])
              exact ((K1.out.trans HW.out (fun _ _ h => h)).cell (p := ⟨b, off + j, none⟩) (World.block_lt_of_cell? _ _ h1) (fun h => h)).trans h1
            have HTK := Lib.hid (take_all (fun x : List UInt8 => decide (x.length ≤ 100)) ns j hlt)
            have HNO := Lib.hid (show ¬ ns[j].length ≤ 100 → ns.all (fun x => decide (x.length ≤ 100)) = false from fun h => by
              rw [List.all_eq_false]
              exact ⟨ns[j], List.getElem_mem hlt, by simpa using h⟩)
            have i3 : (j : Int) < (ns.length : Int) := by omega
            have zx := bs_size ns[j]
            clear hc
            generalize ns[j] = x at *
            by_cases hx1 : x.length ≤ 100
            · have i4 : ¬ (100 : Int) < (x.length : Int) := by omega
              have HX := Lib.hid (show (ns.take (j + 1)).all (fun x => decide (x.length ≤ 100)) = true by rw [HTK.out, HA.out, decide_eq_true hx1]; rfl)
              clear hx1
              go_wp2
              go_roundg (ns.length - (j + 1))
              case measure => have := HK.out; omega
              case rel => exact ⟨j + 1, rfl, by omega, by go_num, HX.out, HW.out⟩
            · have i4 : (100 : Int) < (x.length : Int) := by omega
              have HX := Lib.hid (HNO.out hx1)
              clear hx1
              go_wp2
              go_ret
              exact ⟨by rw [HX.out]; rfl, K1.out.trans HW.out (fun _ _ h => h)⟩
          · obtain rfl : j = ns.length := by omega
            have hs := HA.out
            rw [List.take_length] at hs
            have HX := Lib.hid hs
            clear hs hlt
            go_wp2
            go_ret
            exact ⟨by rw [HX.out]; rfl, K1.out.trans HW.out (fun _ _ h => h)⟩
    · have i2 : (30 : Int) < (ns.length : Int) := by omega
      rw [decide_eq_false h2]
      clear h2
      go_wp2
      go_ret
      exact ⟨rfl, KA.out⟩
  · have i1 : (100 : Int) < (n.length : Int) := by omega
    rw [decide_eq_false h1]
    clear h1
    go_wp2
    go_ret
    exact ⟨rfl, KA.out⟩

/-- Are two packages alike? -/
def sameK (p q : PE) : Bool := decide (pkE p = pkE q)

theorem sameK_eq (p q : PE) : sameK p q = (p.n == q.n && (p.v == q.v && (p.ns == q.ns && sameA p.ds.es q.ds.es))) := by
  rw [Bool.eq_iff_iff]
  unfold sameK pkE sameA
  simp only [decide_eq_true_eq, PD.mk.injEq, Bool.and_eq_true, beq_iff_eq]

set_option maxHeartbeats 1000000 in
set_option maxRecDepth 100000 in
theorem rsame11_any (p q : PE) (B : Nat) (w : World) (hP : Pks w B p) (hQ : Pks w B q) (hl : Len11 p) (hm : Len11 q) :
    Calls Tryz.prog 13 #[.agg #[.string (bs p.n), .int .i64 p.v, .slice p.na p.ns.length p.nc, .slice p.ds.ao p.ds.es.length p.ds.cap], .agg #[.string (bs q.n), .int .i64 q.v, .slice q.na q.ns.length q.nc, .slice q.ds.ao q.ds.es.length q.ds.cap]] w fun e w' => e = .returned (.bool (sameK p q)) ∧ Kept (fun _ => False) w w' := by
  rw [sameK_eq]
  have K1 := Lib.hid ((Kept.refl (fun _ => False) w).alloc (.cells #[.string (bs p.n), .int .i64 p.v, .slice p.na p.ns.length p.nc, .slice p.ds.ao p.ds.es.length p.ds.cap] 25))
  have KB := Lib.hid ((Kept.refl (fun _ => False) (w.alloc (.cells #[.string (bs p.n), .int .i64 p.v, .slice p.na p.ns.length p.nc, .slice p.ds.ao p.ds.es.length p.ds.cap] 25))).alloc (.cells #[.string (bs q.n), .int .i64 q.v, .slice q.na q.ns.length q.nc, .slice q.ds.ao q.ds.es.length q.ds.cap] 25))
  have KA := Lib.hid (K1.out.trans KB.out (fun _ _ h => h))
  have HBP := Lib.hid (ceP_kept (ceP_new w p.n p.v (.slice p.na p.ns.length p.nc) (.slice p.ds.ao p.ds.es.length p.ds.cap) 25) KB.out (fun h => h))
  have HBQ := Lib.hid (ceP_new (w.alloc (.cells #[.string (bs p.n), .int .i64 p.v, .slice p.na p.ns.length p.nc, .slice p.ds.ao p.ds.es.length p.ds.cap] 25)) q.n q.v (.slice q.na q.ns.length q.nc) (.slice q.ds.ao q.ds.es.length q.ds.cap) 25)
  rw [World.size_alloc] at HBQ
  have HSN := Lib.hid (fun (wx : World) (h : Kept (fun _ => False) w wx) => same_any p.na p.nc p.ns q.na q.nc q.ns B wx (hP.keep h).ns (hQ.keep h).ns (by have := hl.nn; omega) (by have := hm.nn; omega))
  have HSD := Lib.hid (fun (wx : World) (h : Kept (fun _ => False) w wx) => rsameall_any p.ds.ao p.ds.cap p.ds.es q.ds.ao q.ds.cap q.ds.es B wx (hP.keep h).ds.ds (hQ.keep h).ds.ds (fun e he => (hl.d e he).n) (fun e he => (hm.d e he).n) hl.nd)
  clear hP hQ hl hm
  obtain ⟨n, v, na, nc, ns, ⟨dao, dcap, des⟩⟩ := p
  obtain ⟨n', v', na', nc', ns', ⟨dao', dcap', des'⟩⟩ := q
  dsimp only at *
  have z1 := bs_list n; have z2 := bs_list n'
  generalize sameA des des' = sd at *
  generalize (ns == ns') = sn at *
  go_enter Tryz.func13, Tryz.ntmps13
  obtain ⟨c0, c1, c2, c3⟩ := HBP.out
  obtain ⟨d0, d1, d2, d3⟩ := HBQ.out
  cases h1 : (n == n') with
  | false =>
    go_wp2
    go_ret
    exact ⟨rfl, KA.out⟩
  | true =>
    by_cases h2 : v = v'
    · have q2 : (v == v') = true := by simp [h2]
      rw [q2]
      subst h2
      go_wp2_with fail
      refine (HSN.out _ KA.out).mono ?_
      rintro e w1 ⟨rfl, k1⟩
      have K2 := Lib.hid (KA.out.trans k1 (fun _ _ h => h))
      obtain ⟨c0, c1, c2, c3⟩ := ceP_kept HBP.out k1 (fun h => h)
      obtain ⟨d0, d1, d2, d3⟩ := ceP_kept HBQ.out k1 (fun h => h)
      clear k1
      cases sn with
      | false =>
        go_wp2
        go_ret
        exact ⟨rfl, K2.out⟩
      | true =>
        go_wp2_with fail
        refine (HSD.out _ K2.out).mono ?_
        rintro e w2 ⟨rfl, k2⟩
        have K3 := Lib.hid (K2.out.trans k2 (fun _ _ h => h)); clear k2
        go_wp2
        go_ret
        exact ⟨rfl, K3.out⟩
    · have q2 : (v == v') = false := by simpa using h2
      rw [q2]
      go_wp2
      go_ret
      exact ⟨rfl, KA.out⟩

end Go.Proofs.YtjnpmbdehalmpaaGreat

/-
  LISTS OF DEFINITIONS in memory that is new; rows under way: of definitions, of edits.
-/
namespace Go.Proofs.YtjnpmbdehalmpaaGreat
open Go.RowKit Go.Mk Go.Maps

theorem Sn.pointer {w : World} {v : Value} {l : List DD} (h : Sn w v l) : ∃ q, v = .pointer q := by
  obtain ⟨p, m, h1, _⟩ := h
  rcases h1 with ⟨rfl, _⟩ | ⟨s, rfl, _⟩
  · exact ⟨_, rfl⟩
  · exact ⟨_, rfl⟩

theorem owns_block {w : World} {base : Nat} {e : TypeId} {size n cap : Nat} {ao : Option Addr} {xs : List Value} (h : w.ownsRow base e size (.slice ao n cap) n xs) (hn : n ≠ 0) : ∃ g, ao = some ⟨g, 0, none⟩ ∧ base ≤ g := by
  rcases h.2 with ⟨_, h2⟩ | ⟨g, c, cur, hv, hb, _⟩
  · exact (hn h2).elim
  · cases hv; exact ⟨g, rfl, hb⟩

theorem owns_lies_block {w : World} {base : Nat} {vs : List (List UInt8)} {ao : Option Addr} {cap : Nat} (h : w.ownsRow base 9 1 (.slice ao vs.length cap) vs.length (strs vs)) (hn : strs vs ≠ []) : ∃ g, ao = some ⟨g, 0, none⟩ ∧ base ≤ g :=
  owns_block h (fun e => hn (by rw [List.eq_nil_of_length_eq_zero e]; rfl))

theorem owns_row_block {w : World} {base : Nat} {q : List Ent} {ao : Option Addr} {cap : Nat} {e : TypeId} {size : Nat} {xs : List Value} (h : w.ownsRow base e size (.slice ao q.length cap) q.length xs) (hn : q ≠ []) : ∃ g, ao = some ⟨g, 0, none⟩ ∧ base ≤ g :=
  owns_block h (fun e => hn (List.eq_nil_of_length_eq_zero e))

/-- A list whose memory is new since b. -/
structure SDf (b : Nat) (w : World) (s : SD) : Prop where
  sd : SDs w w.heap.size s
  row : s.es ≠ [] → ∀ a, s.ao = some a → b ≤ a.block
  rows : ∀ e ∈ s.es, strs e.1.vs ≠ [] → ∀ a, e.2.1 = some a → b ≤ a.block

theorem SDf.keep {b : Nat} {w w' : World} {s : SD} (h : SDf b w s) (hk : Kept (fun _ => False) w w') : SDf b w' s := ⟨(h.sd.keep hk).mono hk.size, h.row, h.rows⟩
theorem SDf.down {b b' : Nat} {w : World} {s : SD} (h : SDf b w s) (hb : b' ≤ b) : SDf b' w s := ⟨h.sd, fun hn a ha => Nat.le_trans hb (h.row hn a ha), fun e he hn a ha => Nat.le_trans hb (h.rows e he hn a ha)⟩
theorem SDf.nil (b : Nat) (w : World) : SDf b w ⟨none, 0, []⟩ := ⟨SDs.nil _ _ _ _, fun h => (h rfl).elim, fun _ he => absurd he List.not_mem_nil⟩

/-- A list that lies apart from a row under way. -/
structure SDa (w : World) (v : Value) (s : SD) : Prop where
  sd : SDs w w.heap.size s
  row : s.es ≠ [] → ∀ a, s.ao = some a → v.ownBlock ≠ some a.block
  rows : ∀ e ∈ s.es, strs e.1.vs ≠ [] → ∀ a, e.2.1 = some a → v.ownBlock ≠ some a.block

theorem SDf.apart {b : Nat} {w : World} {s : SD} {v : Value} (h : SDf b w s) (hv : ∀ k, v.ownBlock = some k → k < b) : SDa w v s :=
  ⟨h.sd, fun hn a ha e => by have := h.row hn a ha; have := hv _ e; omega, fun e he hn a ha e1 => by have := h.rows e he hn a ha; have := hv _ e1; omega⟩

theorem SDa.keep {w w' : World} {v : Value} {s : SD} (h : SDa w v s) (hk : Kept (fun _ => False) w w') : SDa w' v s := ⟨(h.sd.keep hk).mono hk.size, h.row, h.rows⟩

theorem SDa.own {w w' : World} {s : SD} {v : Value} (h : SDa w v s) (hk : Kept (fun k => v.ownBlock = some k) w w') (v' : Value) (hv' : ∀ k, v'.ownBlock = some k → v.ownBlock = some k ∨ w.heap.size ≤ k) : SDa w' v' s := by
  refine ⟨⟨⟨fun hn => ?_, fun e he => ⟨((h.sd.ds.lies e he).1.kept hk (h.rows e he)).mono hk.size, (h.sd.ds.lies e he).2⟩⟩, h.sd.cap⟩, fun hn a ha e1 => ?_, fun e he hn a ha e1 => ?_⟩
  · obtain ⟨b, off, e1, hb, hc⟩ := h.sd.ds.row hn
    exact ⟨b, off, e1, Nat.lt_of_lt_of_le hb hk.size, fun j hj => (hc j hj).kept hk (h.row hn _ e1)⟩
  · rcases hv' _ e1 with h1 | h1
    · exact h.row hn a ha h1
    · obtain ⟨b, off, e2, hb, _⟩ := h.sd.ds.row hn
      rw [e2] at ha
      cases ha
      dsimp only at h1
      omega
  · rcases hv' _ e1 with h1 | h1
    · exact h.rows e he hn a ha h1
    · obtain ⟨b, off, e2, hb, _⟩ := (h.sd.ds.lies e he).1 hn
      rw [e2] at ha
      cases ha
      dsimp only at h1
      omega

/-- Definitions under way. -/
structure Dq (w : World) (v : Value) (q : List Ent) (wx : World) : Prop where
  own : wx.ownsRow w.heap.size 46 6 v q.length (cellsE q)
  rows : ∀ e ∈ q, (Lies wx wx.heap.size e.2.1 (strs e.1.vs) ∧ e.1.vs.length ≤ e.2.2) ∧ (strs e.1.vs ≠ [] → ∀ a, e.2.1 = some a → v.ownBlock ≠ some a.block)
  k : Kept (fun _ => False) w wx

theorem Dq.keep {w : World} {v : Value} {q : List Ent} {wx wy : World} (h : Dq w v q wx) (hk : Kept (fun _ => False) wx wy) : Dq w v q wy :=
  ⟨owns_kept h.own hk (fun _ _ h => h), fun e he => ⟨⟨((h.rows e he).1.1.kept hk (fun _ _ _ h => h)).mono hk.size, (h.rows e he).1.2⟩, (h.rows e he).2⟩, h.k.trans hk (fun _ _ h => h)⟩

theorem Dq.nil (w wx : World) (h : Kept (fun _ => False) w wx) : Dq w (.slice none 0 0) [] wx := ⟨World.ownsRow_nil _ _ _ _, fun _ he => absurd he List.not_mem_nil, h⟩

theorem cellsE_app (q r : List Ent) : cellsE (q ++ r) = cellsE q ++ cellsE r := by simp [cellsE]

/-- Some definitions more. -/
theorem Dq.apps {w : World} {v v' : Value} {q : List Ent} {wx wz wy : World} (h : Dq w v q wx) (r : List Ent)
    (hr : ∀ e ∈ r, (Lies wx wx.heap.size e.2.1 (strs e.1.vs) ∧ e.1.vs.length ≤ e.2.2) ∧ (strs e.1.vs ≠ [] → ∀ a, e.2.1 = some a → v.ownBlock ≠ some a.block)) (hz : Kept (fun _ => False) wx wz)
    (ho : wy.ownsRow 0 46 6 v' (q.length + r.length) (cellsE q ++ cellsE r)) (hg : wz.grownBy wy v.ownBlock) (hb : v'.ownBlock = v.ownBlock ∨ v'.ownBlock = some wz.heap.size) : Dq w v' (q ++ r) wy := by
  have hlt := owns_lt h.own
  have hrow : ∀ k, v'.ownBlock = some k → v.ownBlock = some k ∨ wx.heap.size ≤ k := fun k hk => by
    rcases hb with hb | hb
    · rw [hb] at hk; exact .inl hk
    · rw [hb] at hk; cases hk; exact .inr hz.size
  have hbase : ∀ k, v.ownBlock = some k → w.heap.size ≤ k := fun k hk => (hlt k hk).1
  have k4 : Kept (fun k => v.ownBlock = some k) wx wy := Kept.grown (hz.mono (fun _ _ h => h.elim)) hg (fun k hk _ => hk)
  have one : ∀ e : Ent, (Lies wx wx.heap.size e.2.1 (strs e.1.vs) ∧ e.1.vs.length ≤ e.2.2) ∧ (strs e.1.vs ≠ [] → ∀ a, e.2.1 = some a → v.ownBlock ≠ some a.block) →
      (Lies wy wy.heap.size e.2.1 (strs e.1.vs) ∧ e.1.vs.length ≤ e.2.2) ∧ (strs e.1.vs ≠ [] → ∀ a, e.2.1 = some a → v'.ownBlock ≠ some a.block) := fun e he => by
    refine ⟨⟨(he.1.1.kept k4 he.2).mono k4.size, he.1.2⟩, fun hn a ha e1 => ?_⟩
    rcases hrow _ e1 with h1 | h1
    · exact he.2 hn a ha h1
    · obtain ⟨b, off, e2, hb, _⟩ := he.1.1 hn
      rw [e2] at ha
      cases ha
      dsimp only at h1
      omega
  refine ⟨?_, fun x hx => ?_, h.k.trans k4 (fun i hi h1 => by have := hbase i h1; omega)⟩
  · have ho5 := owns_base (base' := w.heap.size) ho (fun k hk => by
      rcases hrow k hk with h1 | h1
      · exact hbase k h1
      · exact Nat.le_trans h.k.size h1)
    rw [← cellsE_app, ← List.length_append] at ho5
    exact ho5
  · rcases List.mem_append.1 hx with hx | hx
    · exact one x (h.rows x hx)
    · exact one x (hr x hx)

theorem Dq.app {w : World} {v v' : Value} {q : List Ent} {wx wz wy : World} (h : Dq w v q wx) (y : Ent)
    (hy : (Lies wx wx.heap.size y.2.1 (strs y.1.vs) ∧ y.1.vs.length ≤ y.2.2) ∧ (strs y.1.vs ≠ [] → ∀ a, y.2.1 = some a → v.ownBlock ≠ some a.block)) (hz : Kept (fun _ => False) wx wz)
    (ho : wy.ownsRow 0 46 6 v' (q.length + 1) (cellsE q ++ cellsE1 y)) (hg : wz.grownBy wy v.ownBlock) (hb : v'.ownBlock = v.ownBlock ∨ v'.ownBlock = some wz.heap.size) : Dq w v' (q ++ [y]) wy :=
  h.apps [y] (fun e he => by rw [List.mem_singleton] at he; subst he; exact hy) hz (by rw [show cellsE [y] = cellsE1 y by simp [cellsE]]; exact ho) hg hb

theorem Dq.sds {w : World} {ao : Option Addr} {cap : Nat} {q : List Ent} {wx : World} (h : Dq w (.slice ao q.length cap) q wx) : SDs wx wx.heap.size ⟨ao, cap, q⟩ :=
  ⟨owns_ds h.own (fun e he => (h.rows e he).1), owns_cap h.own⟩

theorem cellsE_len (es : List Ent) : (cellsE es).length = es.length * 6 := by
  induction es with
  | nil => rfl
  | cons e es ih =>
    rw [cellsE, List.flatMap_cons, List.length_append]
    unfold cellsE at ih
    rw [ih]
    simp [cellsE1]
    omega

/-- A list as what is appended. -/
theorem src_ds {w : World} {B : Nat} {s : SD} (h : SDs w B s) : Src Tryz.prog 6 23 (.slice s.ao s.es.length s.cap) s.es.length (cellsE s.es) w := by
  obtain ⟨ao, cap, es⟩ := s
  dsimp only
  by_cases hn : es = []
  · subst hn
    cases ao with
    | none => exact Src.ofNil _ Tryz.underlying23 _
    | some a => exact Src.ofSlice _ Tryz.underlying23 a 0 cap [] rfl (fun j u hu => by simp at hu) (fun u hu => by cases hu)
  · obtain ⟨b, off, e1, _, hc⟩ := h.ds.row hn
    dsimp only at e1 hc
    subst e1
    refine Src.ofSlice _ Tryz.underlying23 _ es.length cap (cellsE es) (cellsE_len es) (fun j u hu => ?_) (cellsE_one es)
    rw [Addr.add_lit]
    have hj : j < es.length * 6 := by have := (List.getElem?_eq_some_iff.1 hu).1; rwa [cellsE_len] at this
    have hi : j / 6 < es.length := by omega
    have h6 : j % 6 < 6 := Nat.mod_lt _ (by omega)
    have hg := cellsE_get es (j / 6) hi (j % 6) ((cellsE1 es[j / 6])[j % 6]'(by simpa [cellsE1] using h6)) (List.getElem?_eq_getElem _)
    rw [show j / 6 * 6 + j % 6 = j by omega, hu] at hg
    obtain ⟨c0, c1, c2, c3, c4, c5⟩ := hc (j / 6) hi
    rw [show off + j = off + j / 6 * 6 + j % 6 by omega]
    generalize j % 6 = t at *
    generalize j / 6 = i at *
    cases hg
    match t, h6 with
    | 0, _ => exact c0
    | 1, _ => exact c1
    | 2, _ => exact c2
    | 3, _ => exact c3
    | 4, _ => exact c4
    | 5, _ => exact c5

end Go.Proofs.YtjnpmbdehalmpaaGreat

/-
  CONTRACTS of package diff: same (slices.EqualFunc with def.Same), under, isSide.
-/
namespace Go.Proofs.YtjnpmbdehalmpaaGreat
open Go.RowKit Go.Mk Go.Maps

set_option maxHeartbeats 1000000 in
set_option maxRecDepth 100000 in
theorem dequal_any (la : Option Addr) (lc : Nat) (a : List Ent) (lb : Option Addr) (ld : Nat) (b : List Ent) (B : Nat) (w : World) (hA : Ds w B la a) (hB : Ds w B lb b) (ha : ∀ e ∈ a, e.1.vs.length ≤ 1000000) (hb : ∀ e ∈ b, e.1.vs.length ≤ 1000000) (hn : a.length ≤ 1000000) :
    Calls Tryz.prog 34 #[.slice la a.length lc, .slice lb b.length ld, .func (.func 35) #[] #[]] w fun e w' => e = .returned (.bool (sameA a b)) ∧ Kept (fun _ => False) w w' := by
  have HA := Lib.hid hA; have HB := Lib.hid hB; have HLA := Lib.hid ha; have HLB := Lib.hid hb
  clear hA hB ha hb
  by_cases hl : a.length = b.length
  · have HL := Lib.hid hl
    have h1 : (b.length : Int) = (a.length : Int) := by omega
    clear hl
    go_enter Tryz.func34, Tryz.ntmps34
    go_wp2
    go_loopg [17] a.length (fun k c wr => ∃ j, k = a.length - j ∧ j ≤ a.length ∧ c = .int .i64 (j : Int) ∧ (dds a).take j = (dds b).take j ∧ Kept (fun _ => False) w wr)
    case atStart => exact ⟨0, rfl, Nat.zero_le _, rfl, rfl, Kept.refl _ _⟩
    case round =>
      obtain ⟨j, hk, hj, rfl, htk, hw⟩ := hrel
      have HK := Lib.hid hk; have HTK := Lib.hid htk; have HW := Lib.hid hw
      clear hk htk hw
      by_cases hlt : j < a.length
      · have hlt2 : j < b.length := by have := HL.out; omega
        obtain ⟨xa, xo, rfl, hxa, hca⟩ := HA.out.row (by intro h; rw [h] at hlt; simp at hlt)
        obtain ⟨ya, yo, rfl, hya, hcb⟩ := HB.out.row (by intro h; rw [h] at hlt2; simp at hlt2)
        have HBA := Lib.hid ((hca j hlt).kept HW.out (fun h => h))
        have HBB := Lib.hid ((hcb j hlt2).kept HW.out (fun h => h))
        have HNE := Lib.hid (fun h => same_ne (a := a) (b := b) hlt hlt2 h)
        have HTA := Lib.hid (fun h => same_take (a := a) (b := b) hlt hlt2 HTK.out h)
        have HSA := Lib.hid (fun (wx : World) (h : Kept (fun _ => False) wr wx) => dsame_any a[j].1 b[j].1 a[j].2.1 b[j].2.1 a[j].2.2 b[j].2.2 B wx (((HA.out.lies _ (List.getElem_mem hlt)).1.kept HW.out (fun _ _ _ h => h)).kept h (fun _ _ _ h => h)) (((HB.out.lies _ (List.getElem_mem hlt2)).1.kept HW.out (fun _ _ _ h => h)).kept h (fun _ _ _ h => h)) (by have := HLA.out _ (List.getElem_mem hlt); omega) (by have := HLB.out _ (List.getElem_mem hlt2); omega))
        have i1 : (j : Int) < (a.length : Int) := by omega
        clear hca hcb
        generalize a[j] = x at *
        generalize b[j] = y at *
        obtain ⟨d, ao, cap⟩ := x
        obtain ⟨d', ao', cap'⟩ := y
        dsimp only at HBA HBB HNE HTA HSA
        have KA := Lib.hid ((Kept.refl (fun _ => False) wr).alloc (.cells #[.int .i64 d.k, .string (bs d.c), .string (bs d.p), .slice ao d.vs.length cap, .string (bs d.s), .string (bs d.t)] 46))
        have KB := Lib.hid (KA.out.alloc (.cells #[.int .i64 d'.k, .string (bs d'.c), .string (bs d'.p), .slice ao' d'.vs.length cap', .string (bs d'.s), .string (bs d'.t)] 46))
        have BB := Lib.hid (bx_new2 wr ao ao' cap cap' d d' 46)
        obtain ⟨c0, c1, c2, c3, c4, c5⟩ := HBA.out
        obtain ⟨d0, d1, d2, d3, d4, d5⟩ := HBB.out.kept KA.out (fun h => h)
        obtain ⟨⟨a0, a1, a2, a3, a4, a5⟩, ⟨b0, b1, b2, b3, b4, b5⟩⟩ := BB.out
        cases hs : sameB d d' with
        | true =>
          have HE := Lib.hid (HTA.out ((sameB_iff _ _).1 hs))
          rw [hs] at HSA
          clear hs
          go_wp2_with fail
          refine (HSA.out _ KB.out).mono ?_; rintro e w1 ⟨rfl, k1⟩
          have K1 := Lib.hid ((HW.out.trans KB.out (fun _ _ h => h)).trans k1 (fun _ _ h => h)); clear k1
          go_wp2
          go_roundg (a.length - (j + 1))
          case measure => have := HK.out; omega
          case rel => exact ⟨j + 1, rfl, by omega, by go_num, HE.out, K1.out⟩
        | false =>
          have HE := Lib.hid (HNE.out (fun h => by rw [h, sameB_refl] at hs; cases hs))
          rw [hs] at HSA
          clear hs
          go_wp2_with fail
          refine (HSA.out _ KB.out).mono ?_; rintro e w1 ⟨rfl, k1⟩
          have K1 := Lib.hid ((HW.out.trans KB.out (fun _ _ h => h)).trans k1 (fun _ _ h => h)); clear k1
          go_wp2
          go_ret
          exact ⟨by rw [HE.out]; rfl, K1.out⟩
      · obtain rfl : j = a.length := by omega
        have HE := Lib.hid (show sameA a b = true from by
          have h := HTK.out
          rw [← dds_len a, List.take_length, dds_len a, HL.out, ← dds_len b, List.take_length] at h
          exact decide_eq_true h)
        clear hlt
        go_wp2
        go_ret
        exact ⟨by rw [HE.out]; rfl, HW.out⟩
  · have HE := Lib.hid (show sameA a b = false from decide_eq_false (fun h => hl (by rw [← dds_len a, ← dds_len b, h])))
    have h1 : ¬ (a.length : Int) = (b.length : Int) := by omega
    clear hl
    go_enter Tryz.func34, Tryz.ntmps34
    go_wp2
    go_ret
    exact ⟨by rw [HE.out]; rfl, Kept.refl _ _⟩

end Go.Proofs.YtjnpmbdehalmpaaGreat
