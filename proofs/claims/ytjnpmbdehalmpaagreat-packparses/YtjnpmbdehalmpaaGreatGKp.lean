/-
  Lemmas towards the claim of this folder: contracts of the functions that the law reaches; joined texts.
-/
import Derived.Test.YtjnpmbdehalmpaaGreatGR2
import Derived.Test.YtjnpmbdehalmpaaGreatGPe
import Derived.Test.YtjnpmbdehalmpaaGreatNa
import Derived.Test.YtjnpmbdehalmpaaGreatGDg
import Derived.Test.YtjnpmbdehalmpaaGreatGR8
/-
  PACKAGES as they lie in memory.
-/
namespace Go.Proofs.YtjnpmbdehalmpaaGreat
open Go.RowKit Go.Mk Go.Maps

structure PE where
  n : List UInt8
  v : Int
  na : Option Addr
  nc : Nat
  ns : List (List UInt8)
  ds : SD

def pkE (p : PE) : PD := ⟨p.n, p.v, p.ns, dds p.ds.es⟩
/-- What the package's two rows lie behind. -/
structure Pks (w : World) (B : Nat) (p : PE) : Prop where
  ns : Lies w B p.na (strs p.ns)
  ds : SDs w B p.ds

theorem Pks.keep {w w' : World} {B : Nat} {p : PE} (h : Pks w B p) (hk : Kept (fun _ => False) w w') : Pks w' B p := ⟨h.ns.kept hk (fun _ _ _ h => h), h.ds.keep hk⟩
theorem Pks.mono {w : World} {B B' : Nat} {p : PE} (h : Pks w B p) (hB : B ≤ B') : Pks w B' p := ⟨h.ns.mono hB, h.ds.mono hB⟩

/-- A package of bounded size. -/
structure Len11 (p : PE) : Prop where
  n : p.n.length ≤ 1000000
  nn : p.ns.length ≤ 1000000
  ns : ∀ x ∈ p.ns, x.length ≤ 1000000
  d : ∀ e ∈ p.ds.es, Len8 e.1
  nd : p.ds.es.length ≤ 1000000

/-- The cells of a package's box. -/
abbrev ceP (b : Nat) (n : List UInt8) (v : Int) (u t : Value) (w : World) : Prop := w.cell? ⟨b, 0, none⟩ = some (.string (bs n)) ∧ w.cell? ⟨b, 1, none⟩ = some (.int .i64 v) ∧ w.cell? ⟨b, 2, none⟩ = some u ∧ w.cell? ⟨b, 3, none⟩ = some t

theorem ceP_kept {S : Nat → Prop} {b : Nat} {n : List UInt8} {v : Int} {u t : Value} {w w' : World} (h : ceP b n v u t w) (hk : Kept S w w') (hb : ¬ S b) : ceP b n v u t w' := by
  have hlt := World.block_lt_of_cell? _ _ h.1
  exact ⟨(hk.cell (p := ⟨b, 0, none⟩) hlt hb).trans h.1, (hk.cell (p := ⟨b, 1, none⟩) hlt hb).trans h.2.1, (hk.cell (p := ⟨b, 2, none⟩) hlt hb).trans h.2.2.1, (hk.cell (p := ⟨b, 3, none⟩) hlt hb).trans h.2.2.2⟩

theorem ceP_new (w : World) (n : List UInt8) (v : Int) (u t : Value) (ty : TypeId) : ceP w.heap.size n v u t (w.alloc (.cells #[.string (bs n), .int .i64 v, u, t] ty)) := by
  have h := fun j => World.cell?_alloc_new w #[.string (bs n), .int .i64 v, u, t] ty j
  exact ⟨h 0, h 1, h 2, h 3⟩

end Go.Proofs.YtjnpmbdehalmpaaGreat

/-
  CONTRACTS of package pack: areNeeds, areDefs.
-/
namespace Go.Proofs.YtjnpmbdehalmpaaGreat
open Go.RowKit Go.Mk Go.Maps

/-- The need ahead of the one at a place, or nothing. -/
def lastN (ns : List (List UInt8)) : Nat → List UInt8
  | 0 => []
  | j + 1 => ns.getD j []

/-- The key ahead of the one at a place, or nothing. -/
def lastD (l : List DD) : Nat → List UInt8
  | 0 => []
  | j + 1 => keyD (l.getD j zeroD)

theorem nil_lt {x : List UInt8} (h : x ≠ []) : [] < x := by
  cases x with
  | nil => exact (h rfl).elim
  | cons a t => exact List.nil_lt_cons _ _

theorem need_last {p : PD} {i : Nat} (h : i < p.ns.length) : needAt p i = (isCl p.ns[i] && !(p.ns[i] == p.n) && decide (lastN p.ns i < p.ns[i])) := by
  cases i with
  | zero =>
    rw [needAt_zero h]
    cases hc : isCl p.ns[0] with
    | false => rfl
    | true =>
      have hne : p.ns[0] ≠ [] := fun e => by rw [e] at hc; cases hc
      rw [show lastN p.ns 0 = [] from rfl, decide_eq_true (nil_lt hne), Bool.and_true]
  | succ j =>
    rw [needAt_pos h, show lastN p.ns (j + 1) = p.ns.getD j [] from rfl, getD_at _ _ j (by omega)]

theorem def_last {l : List DD} {i : Nat} (h : i < l.length) : defAt l i = decide (lastD l i < keyD l[i]) := by
  have hkey : rightD l[i] = false → decide (lastD l i < keyD l[i]) = false := fun hr => by
    rw [key_no hr, decide_eq_false (List.not_lt_nil _)]
  cases i with
  | zero =>
    rw [defAt_zero h]
    cases hr : rightD l[0] with
    | false => exact (hkey hr).symm
    | true => rw [show lastD l 0 = [] from rfl, decide_eq_true (nil_lt (keyD_right hr))]
  | succ j =>
    rw [defAt_pos h]
    cases hr : rightD l[j + 1] with
    | false => rw [hkey hr]; rfl
    | true => rw [show lastD l (j + 1) = keyD (l.getD j zeroD) from rfl, getD_at _ _ j (by omega), Bool.true_and]

set_option maxHeartbeats 1000000 in
set_option maxRecDepth 100000 in
theorem dneeds_any (p : PD) (na : Option Addr) (nc : Nat) (B : Nat) (w : World) (hN : Lies w B na (strs p.ns)) (hn : p.ns.length ≤ 1000000) :
    Calls Tryz.prog 31 #[.slice na p.ns.length nc, .string (bs p.n)] w fun e w' => e = .returned (.bool (decide (p.ns.length ≤ 20) && needsTo p p.ns.length)) ∧ Kept (fun _ => False) w w' := by
  have HN := Lib.hid hN
  clear hN
  by_cases h20 : p.ns.length ≤ 20
  · have i0 : ¬ (20 : Int) < (p.ns.length : Int) := by omega
    rw [decide_eq_true h20]
    clear h20
    have hleq : ∀ t (a b : ByteArray), binOp .leq t (.string a) (.string b) = pure (.bool (Op.bytesLess a.toList b.toList || a.toList == b.toList)) := fun t a b => by simp [binOp, Op.stringOp]
    have zn := bs_list p.n
    go_enter Tryz.func31, Tryz.ntmps31
    go_wp2
    go_loopg [5, 13] p.ns.length (fun k v c wr => ∃ j, k = p.ns.length - j ∧ j ≤ p.ns.length ∧ c = .int .i64 (j : Int) ∧ v = .string (bs (lastN p.ns j)) ∧ needsTo p j = true ∧ Kept (fun _ => False) w wr)
    case atStart => exact ⟨0, rfl, Nat.zero_le _, rfl, rfl, rfl, Kept.refl _ _⟩
    case round =>
      obtain ⟨j, hk, hj, rfl, rfl, hto, hw⟩ := hrel
      have HK := Lib.hid hk; have HTO := Lib.hid hto; have HW := Lib.hid hw
      clear hk hto hw
      by_cases hlt : j < p.ns.length
      · obtain ⟨b, off, rfl, hb, hc⟩ := HN.out (by intro h; simp [strs] at h; rw [h] at hlt; simp at hlt)
        have hx : wr.cell? ⟨b, off + j, none⟩ = some (.string (bs p.ns[j])) := by
          have h1 := hc j (.string (bs p.ns[j])) (by simp [strs, hlt])
          exact (HW.out.cell (p := ⟨b, off + j, none⟩) (World.block_lt_of_cell? _ _ h1) (fun h => h)).trans h1
        have HNO := Lib.hid (fun (h : needAt p j = false) => needs_no hlt h)
        have HYE := Lib.hid (show needAt p j = true → needsTo p (j + 1) = true from fun h => by rw [needsTo_succ, HTO.out, h]; rfl)
        have HAT := Lib.hid (need_last hlt)
        have HNX := Lib.hid (show lastN p.ns (j + 1) = p.ns[j] from getD_at _ _ j hlt)
        have i1 : (j : Int) < (p.ns.length : Int) := by omega
        clear hc
        generalize hxx : p.ns[j] = x at *
        clear hxx
        have zx := bs_list x
        have zl := bs_list (lastN p.ns j)
        have HCL := Lib.hid (fun wx => ncl_any x wx)
        rw [HAT.out] at HNO HYE
        clear HAT
        generalize isCl x = cl at *
        generalize hxn : (x == p.n) = xn at *
        go_wp2_with fail
        refine (HCL.out _).mono ?_
        rintro e w1 ⟨rfl, k1⟩
        have K1 := Lib.hid (HW.out.trans k1 (fun _ _ h => h))
        clear k1
        cases cl with
        | false =>
          have HX := Lib.hid (HNO.out rfl)
          go_wp2
          go_ret
          exact ⟨by rw [HX.out]; rfl, K1.out⟩
        | true =>
          cases xn with
          | true =>
            have HX := Lib.hid (HNO.out rfl)
            go_wp2
            go_ret
            exact ⟨by rw [HX.out]; rfl, K1.out⟩
          | false =>
            by_cases hlk : lastN p.ns j < x
            · have q1 : (Op.bytesLess x (lastN p.ns j) || x == lastN p.ns j) = false := by rw [bytesLess_lt, decide_eq_false (lt_asy hlk)]; simpa using fun h => lt_ne hlk h.symm
              have HX := Lib.hid (HYE.out (by rw [decide_eq_true hlk]; rfl))
              clear hlk
              go_wp2
              go_roundg (p.ns.length - (j + 1))
              case measure => have := HK.out; omega
              case rel => exact ⟨j + 1, rfl, by omega, by go_num, by rw [HNX.out], HX.out, K1.out⟩
            · have q1 : (Op.bytesLess x (lastN p.ns j) || x == lastN p.ns j) = true := by
                rcases lt_tri x (lastN p.ns j) with h | h | h
                · rw [bytesLess_lt, decide_eq_true h]; rfl
                · simp [h]
                · exact (hlk h).elim
              have HX := Lib.hid (HNO.out (by rw [decide_eq_false hlk]; rfl))
              clear hlk
              go_wp2
              go_ret
              exact ⟨by rw [HX.out]; rfl, K1.out⟩
      · obtain rfl : j = p.ns.length := by omega
        clear hlt
        go_wp2
        go_ret
        exact ⟨by rw [HTO.out]; rfl, HW.out⟩
  · have i0 : (20 : Int) < (p.ns.length : Int) := by omega
    rw [decide_eq_false h20]
    clear h20
    go_enter Tryz.func31, Tryz.ntmps31
    go_wp2
    go_ret
    exact ⟨rfl, Kept.refl _ _⟩

set_option maxHeartbeats 1000000 in
set_option maxRecDepth 100000 in
theorem ddefs_any (s : SD) (B : Nat) (w : World) (hs : SDs w B s) (hl : ∀ e ∈ s.es, Len8 e.1) (hn : s.es.length ≤ 1000000) :
    Calls Tryz.prog 32 #[.slice s.ao s.es.length s.cap] w fun e w' => e = .returned (.bool (decide (s.es.length ≤ 500) && defsTo (dds s.es) s.es.length)) ∧ Kept (fun _ => False) w w' := by
  obtain ⟨ao, cap, es⟩ := s
  dsimp only at hl hn ⊢
  have HD := Lib.hid hs.ds; have HL := Lib.hid hl
  dsimp only at HD
  clear hs hl
  by_cases h500 : es.length ≤ 500
  · have i0 : ¬ (500 : Int) < (es.length : Int) := by omega
    rw [decide_eq_true h500]
    clear h500
    have hleq : ∀ t (a b : ByteArray), binOp .leq t (.string a) (.string b) = pure (.bool (Op.bytesLess a.toList b.toList || a.toList == b.toList)) := fun t a b => by simp [binOp, Op.stringOp]
    go_enter Tryz.func32, Tryz.ntmps32
    go_wp2
    go_loopg [3, 12] es.length (fun k v c wr => ∃ j, k = es.length - j ∧ j ≤ es.length ∧ c = .int .i64 (j : Int) ∧ v = .string (bs (lastD (dds es) j)) ∧ defsTo (dds es) j = true ∧ Kept (fun _ => False) w wr)
    case atStart => exact ⟨0, rfl, Nat.zero_le _, rfl, rfl, rfl, Kept.refl _ _⟩
    case round =>
      obtain ⟨j, hk, hj, rfl, rfl, hto, hw⟩ := hrel
      have HK := Lib.hid hk; have HTO := Lib.hid hto; have HW := Lib.hid hw
      clear hk hto hw
      by_cases hlt : j < es.length
      · obtain ⟨xb, xo, rfl, hxb, hc⟩ := HD.out.row (by intro h; rw [h] at hlt; simp at hlt)
        have hmem := List.getElem_mem hlt
        have hld : j < (dds es).length := by rw [dds_len]; exact hlt
        have hge : (dds es)[j] = es[j].1 := by simp [dds]
        have HNO := Lib.hid (show defAt (dds es) j = false → defsTo (dds es) es.length = false from fun h => by have := defs_no hld h; rwa [dds_len] at this)
        have HYE := Lib.hid (show defAt (dds es) j = true → defsTo (dds es) (j + 1) = true from fun h => by rw [defsTo_succ, HTO.out, h]; rfl)
        have HAT := Lib.hid (show defAt (dds es) j = decide (lastD (dds es) j < keyD es[j].1) by rw [def_last hld, hge])
        have HNX := Lib.hid (show lastD (dds es) (j + 1) = keyD es[j].1 by rw [← hge]; exact congrArg keyD (getD_at _ _ j hld))
        obtain ⟨c0, c1, c2, c3, c4, c5⟩ := (hc j hlt).kept HW.out (fun h => h)
        have HLE := Lib.hid (HL.out es[j] hmem)
        have HLI := Lib.hid (HD.out.lies es[j] hmem)
        have i1 : (j : Int) < (es.length : Int) := by omega
        rw [HAT.out] at HNO HYE
        clear hc hmem hge HAT
        generalize es[j] = x at *
        obtain ⟨d, ao, cap⟩ := x
        dsimp only at c0 c1 c2 c3 c4 c5 HLE HLI HNO HYE HNX
        have KA := Lib.hid ((Kept.refl (fun _ => False) wr).alloc (.cells #[.int .i64 d.k, .string (bs d.c), .string (bs d.p), .slice ao d.vs.length cap, .string (bs d.s), .string (bs d.t)] 46))
        have HKY := Lib.hid (fun (wx : World) (h : Kept (fun _ => False) wr wx) => dkey_any d ao cap B wx ((HLI.out.1.kept HW.out (fun _ _ _ h => h)).kept h (fun _ _ _ h => h)) HLI.out.2 HLE.out.s HLE.out.c)
        obtain ⟨b0, b1, b2, b3, b4, b5⟩ := bx_new wr ao cap d 46
        generalize keyD d = key at *
        generalize lastD (dds es) j = last at *
        have zk := bs_list key
        have zl := bs_list last
        go_wp2_with fail
        refine (HKY.out _ KA.out).mono ?_
        rintro e w1 ⟨rfl, k1⟩
        have K1 := Lib.hid ((HW.out.trans KA.out (fun _ _ h => h)).trans k1 (fun _ _ h => h))
        clear k1 b0 b1 b2 b3 b4 b5 c0 c1 c2 c3 c4 c5
        by_cases hlk : last < key
        · have q1 : (Op.bytesLess key last || key == last) = false := by rw [bytesLess_lt, decide_eq_false (lt_asy hlk)]; simpa using fun h => lt_ne hlk h.symm
          have HX := Lib.hid (HYE.out (decide_eq_true hlk))
          clear hlk
          go_wp2
          go_roundg (es.length - (j + 1))
          case measure => have := HK.out; omega
          case rel => exact ⟨j + 1, rfl, by omega, by go_num, by rw [HNX.out], HX.out, K1.out⟩
        · have q1 : (Op.bytesLess key last || key == last) = true := by
            rcases lt_tri key last with h | h | h
            · rw [bytesLess_lt, decide_eq_true h]; rfl
            · simp [h]
            · exact (hlk h).elim
          have HX := Lib.hid (HNO.out (decide_eq_false hlk))
          clear hlk
          go_wp2
          go_ret
          exact ⟨by rw [HX.out]; rfl, K1.out⟩
      · obtain rfl : j = es.length := by omega
        clear hlt
        go_wp2
        go_ret
        exact ⟨by rw [HTO.out]; rfl, HW.out⟩
  · have i0 : (500 : Int) < (es.length : Int) := by omega
    rw [decide_eq_false h500]
    clear h500
    go_enter Tryz.func32, Tryz.ntmps32
    go_wp2
    go_ret
    exact ⟨rfl, Kept.refl _ _⟩

end Go.Proofs.YtjnpmbdehalmpaaGreat

/-
  The reference of layer 8: lists by rising keys as they lie in memory; Put, Drop, New over them.
-/
namespace Go.Proofs.YtjnpmbdehalmpaaGreat
open Go.RowKit Go.Mk Go.Maps

/-- A list by rising keys. -/
structure Rl (w : World) (oa : Option Addr) (es : List Ent) : Prop where
  ds : Ds w w.heap.size oa es
  len : ∀ e ∈ es, Len8 e.1
  rise : Rise keyE es

theorem Rl.keep {w w' : World} {oa : Option Addr} {es : List Ent} (h : Rl w oa es) (hk : Kept (fun _ => False) w w') : Rl w' oa es :=
  ⟨(h.ds.keep hk).mono hk.size, h.len, h.rise⟩

theorem Rl.nil (w : World) (oa : Option Addr) : Rl w oa [] := ⟨⟨fun h => (h rfl).elim, fun e he => absurd he List.not_mem_nil⟩, fun e he => absurd he List.not_mem_nil, by simp [Rise]⟩

/-- What Put and Drop answer. -/
def RlQ (w : World) (es : List Ent) (e : Ending) (w' : World) : Prop := ∃ oa oc, e = .returned (.slice oa es.length oc) ∧ Rl w' oa es ∧ Kept (fun _ => False) w w'

/-- What the reference's New answers. -/
def RnPost (w : World) (r : Int × List DD) (e : Ending) (w' : World) : Prop :=
  ∃ oa oc es, e = .returned (.tuple #[.slice oa es.length oc, .int .i64 r.1]) ∧ dds es = r.2 ∧ es.length ≤ 500 ∧ Rl w' oa es ∧ Kept (fun _ => False) w w'

theorem rn_err {w w' : World} {r : Int} (hk : Kept (fun _ => False) w w') : RnPost w (r, []) (.returned (.tuple #[.slice none 0 0, .int .i64 r])) w' :=
  ⟨none, 0, [], rfl, rfl, Nat.zero_le _, Rl.nil _ _, hk⟩

theorem findI_has {k : List UInt8} {l : List Ent} : decide (0 ≤ findI keyE k l) = hasK keyE k l := by
  induction l with
  | nil => rfl
  | cons x r ih =>
    unfold findI hasK
    rw [List.any_cons]
    by_cases h : keyE x = k
    · simp [h]
    · have e1 : (decide (keyE x = k)) = false := decide_eq_false h
      unfold hasK at ih
      rw [if_neg h, ← ih]
      by_cases h2 : findI keyE k r < 0
      · rw [if_pos h2]
        simp [h2, h]
      · rw [if_neg h2, decide_eq_true (show 0 ≤ findI keyE k r + 1 by omega), decide_eq_true (show 0 ≤ findI keyE k r by omega)]
        simp

theorem find_cases (key : List UInt8) : ∀ es : List Ent, (∃ i, ∃ h : i < es.length, keyE es[i] = key ∧ findI keyE key es = (i : Int)) ∨ ((∀ x ∈ es, keyE x ≠ key) ∧ findI keyE key es = -1) := by
  intro es
  by_cases h : ∀ x ∈ es, keyE x ≠ key
  · exact .inr ⟨h, findI_no h⟩
  · left
    induction es with
    | nil => exact (h (fun x hx => absurd hx List.not_mem_nil)).elim
    | cons x r ih =>
      by_cases hx : keyE x = key
      · exact ⟨0, by simp, hx, findI_at (key := keyE) (l := x :: r) 0 (by simp) hx (by simp)⟩
      · obtain ⟨i, hi, e1, e2⟩ := ih (fun hr => h (fun y hy => by
          rcases List.mem_cons.1 hy with rfl | hy
          · exact hx
          · exact hr y hy))
        refine ⟨i + 1, by simp; omega, e1, ?_⟩
        unfold findI
        rw [if_neg hx, e2]
        simp
        omega

end Go.Proofs.YtjnpmbdehalmpaaGreat
