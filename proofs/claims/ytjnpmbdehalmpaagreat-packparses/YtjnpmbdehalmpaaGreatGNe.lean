/-
  Lemmas towards the claim of this folder: contracts of the functions that the law reaches; joined texts.
-/
import Derived.Test.YtjnpmbdehalmpaaGreatGNb
import Derived.Test.YtjnpmbdehalmpaaGreatGNc
import Derived.Test.YtjnpmbdehalmpaaGreatGPm
import Derived.Maps.RangeWalk
import Derived.Maps.OwnSet
import Derived.Maps.Ext
/-
  CONTRACTS of package name: Kind, Args, Parts.
-/
namespace Go.Proofs.YtjnpmbdehalmpaaGreat
open Go.RowKit Go.Mk

theorem kind_un {l : List UInt8} (h : isUn l = true) : kindL l = 1 := by simp [kindL, h]
theorem kind_bi {l : List UInt8} (h : isUn l = false) (h2 : isBi l = true) : kindL l = 2 := by simp [kindL, h, h2]
theorem kind_kw {l : List UInt8} (h : isUn l = false) (h2 : isBi l = false) (h3 : kwL l ≠ []) : kindL l = 3 := by simp [kindL, h, h2, h3]
theorem kind_no {l : List UInt8} (h : isUn l = false) (h2 : isBi l = false) (h3 : kwL l = []) : kindL l = 0 := by simp [kindL, h, h2, h3]
theorem args_un {l : List UInt8} (h : isUn l = true) : argsL l = 0 := by simp [argsL, h]
theorem args_bi {l : List UInt8} (h : isUn l = false) (h2 : isBi l = true) : argsL l = 1 := by simp [argsL, h, h2]
theorem args_kw {l : List UInt8} (h : isUn l = false) (h2 : isBi l = false) (h3 : kwL l ≠ []) : argsL l = (kwL l).length := by simp [argsL, h, h2, h3]
theorem args_no {l : List UInt8} (h : isUn l = false) (h2 : isBi l = false) (h3 : kwL l = []) : argsL l = -1 := by simp [argsL, h, h2, h3]
theorem parts_un {l : List UInt8} (h : isUn l = true) : partsL l = [l] := by simp [partsL, h]
theorem parts_bi {l : List UInt8} (h : isUn l = false) (h2 : isBi l = true) : partsL l = [l] := by simp [partsL, h, h2]
theorem parts_kw {l : List UInt8} (h : isUn l = false) (h2 : isBi l = false) : partsL l = kwL l := by simp [partsL, h, h2]

/-- The four kinds. -/
theorem kind_cases (l : List UInt8) : (isUn l = true ∧ kindL l = 1 ∧ argsL l = 0 ∧ partsL l = [l]) ∨ (isUn l = false ∧ isBi l = true ∧ kindL l = 2 ∧ argsL l = 1 ∧ partsL l = [l]) ∨
    (isUn l = false ∧ isBi l = false ∧ kwL l ≠ [] ∧ kindL l = 3 ∧ argsL l = (kwL l).length ∧ partsL l = kwL l) ∨ (isUn l = false ∧ isBi l = false ∧ kwL l = [] ∧ kindL l = 0 ∧ argsL l = -1 ∧ partsL l = []) := by
  cases h : isUn l with
  | true => exact .inl ⟨rfl, kind_un h, args_un h, parts_un h⟩
  | false =>
    cases h2 : isBi l with
    | true => exact .inr (.inl ⟨rfl, rfl, kind_bi h h2, args_bi h h2, parts_bi h h2⟩)
    | false =>
      by_cases h3 : kwL l = []
      · exact .inr (.inr (.inr ⟨rfl, rfl, h3, kind_no h h2 h3, args_no h h2 h3, by rw [parts_kw h h2, h3]⟩))
      · exact .inr (.inr (.inl ⟨rfl, rfl, h3, kind_kw h h2 h3, args_kw h h2 h3, parts_kw h h2⟩))

set_option maxHeartbeats 400000 in
theorem nkind_any (l : List UInt8) (w : World) (hl : l.length ≤ 1099511627776) : Calls Tryz.prog 116 #[.string (bs l)] w fun e w' => e = .returned (.int .i64 (kindL l : Int)) ∧ Kept (fun _ => False) w w' := by
  have HU := Lib.hid (fun w => nun_any l w); have HB := Lib.hid (fun w => nbi_any l w); have HK := Lib.hid (fun w => nkw_any l w hl)
  rcases kind_cases l with ⟨h1, hk, _, _⟩ | ⟨h1, h2, hk, _, _⟩ | ⟨h1, h2, h3, hk, _, _⟩ | ⟨h1, h2, h3, hk, _, _⟩
  · rw [hk]; rw [h1] at HU; clear hk h1
    go_enter Tryz.func116, Tryz.ntmps116
    go_wp2_with (go_at_call 128; refine (HU.out _).mono ?_; rintro e w1 ⟨rfl, hk⟩)
    go_ret
    exact ⟨rfl, hk⟩
  · rw [hk]; rw [h1] at HU; rw [h2] at HB; clear hk h1 h2
    go_enter Tryz.func116, Tryz.ntmps116
    go_wp2_with fail
    refine (HU.out _).mono ?_; rintro e w1 ⟨rfl, hk1⟩
    go_wp2_with fail
    refine (HB.out _).mono ?_; rintro e w2 ⟨rfl, hk2⟩
    go_wp2
    go_ret
    exact ⟨rfl, hk1.trans hk2 (fun _ _ h => h)⟩
  · rw [hk]; rw [h1] at HU; rw [h2] at HB
    have hn : 0 < ((kwL l).length : Int) := by
      have : (kwL l).length ≠ 0 := by simpa using h3
      omega
    clear hk h1 h2 h3
    generalize kwL l = ps at *
    go_enter Tryz.func116, Tryz.ntmps116
    go_wp2_with fail
    refine (HU.out _).mono ?_; rintro e w1 ⟨rfl, hk1⟩
    go_wp2_with fail
    refine (HB.out _).mono ?_; rintro e w2 ⟨rfl, hk2⟩
    go_wp2_with fail
    refine (HK.out _).mono ?_; rintro e w3 ⟨ao, cap, rfl, _, hk3⟩
    go_wp2
    go_ret
    exact ⟨rfl, (hk1.trans hk2 (fun _ _ h => h)).trans hk3 (fun _ _ h => h)⟩
  · rw [hk]; rw [h1] at HU; rw [h2] at HB
    rw [h3] at HK
    clear hk h1 h2 h3
    go_enter Tryz.func116, Tryz.ntmps116
    go_wp2_with fail
    refine (HU.out _).mono ?_; rintro e w1 ⟨rfl, hk1⟩
    go_wp2_with fail
    refine (HB.out _).mono ?_; rintro e w2 ⟨rfl, hk2⟩
    go_wp2_with fail
    refine (HK.out _).mono ?_; rintro e w3 ⟨ao, cap, rfl, _, hk3⟩
    go_wp2
    go_ret
    exact ⟨rfl, (hk1.trans hk2 (fun _ _ h => h)).trans hk3 (fun _ _ h => h)⟩

theorem newTexts_one (w w1 : World) (l : List UInt8) (hk : Kept (fun _ => False) w w1) : NewTexts w [l] (.returned (.slice (some ⟨w1.heap.size, 0, none⟩) 1 1)) (w1.alloc (.cells #[.string (bs l)] 9)) :=
  ⟨_, _, rfl, by have := lies_new w1 (strs [l]) 9; rw [World.size_alloc]; exact this, hk.alloc _⟩

end Go.Proofs.YtjnpmbdehalmpaaGreat

/-
  CONTRACTS of package def: how a definition lies in memory, isOwnClass, isSelector, slices.Contains on texts, areVars, Right.
-/
namespace Go.Proofs.YtjnpmbdehalmpaaGreat
open Go.RowKit Go.Mk

/-- A definition as cells, its list of variables behind ao. -/
def DD.cells (d : DD) (ao : Option Addr) (cap : Nat) : Array Value := #[.int .i64 d.k, .string (bs d.c), .string (bs d.p), .slice ao d.vs.length cap, .string (bs d.s), .string (bs d.t)]

/-- Its cells at a block. -/
structure Bx (w : World) (b : Nat) (ao : Option Addr) (cap : Nat) (d : DD) : Prop where
  c0 : w.cell? ⟨b, 0, none⟩ = some (.int .i64 d.k)
  c1 : w.cell? ⟨b, 1, none⟩ = some (.string (bs d.c))
  c2 : w.cell? ⟨b, 2, none⟩ = some (.string (bs d.p))
  c3 : w.cell? ⟨b, 3, none⟩ = some (.slice ao d.vs.length cap)
  c4 : w.cell? ⟨b, 4, none⟩ = some (.string (bs d.s))
  c5 : w.cell? ⟨b, 5, none⟩ = some (.string (bs d.t))

theorem Bx.kept {S : Nat → Prop} {w w' : World} {b : Nat} {ao : Option Addr} {cap : Nat} {d : DD} (h : Bx w b ao cap d) (hk : Kept S w w') (hb : ¬ S b) : Bx w' b ao cap d := by
  have hlt : b < w.heap.size := World.block_lt_of_cell? _ _ h.c0
  exact ⟨(hk.cell (p := ⟨b, 0, none⟩) hlt hb).trans h.c0, (hk.cell (p := ⟨b, 1, none⟩) hlt hb).trans h.c1, (hk.cell (p := ⟨b, 2, none⟩) hlt hb).trans h.c2, (hk.cell (p := ⟨b, 3, none⟩) hlt hb).trans h.c3, (hk.cell (p := ⟨b, 4, none⟩) hlt hb).trans h.c4, (hk.cell (p := ⟨b, 5, none⟩) hlt hb).trans h.c5⟩

theorem bx_new (w : World) (ao : Option Addr) (cap : Nat) (d : DD) (t : TypeId) : Bx (w.alloc (.cells #[.int .i64 d.k, .string (bs d.c), .string (bs d.p), .slice ao d.vs.length cap, .string (bs d.s), .string (bs d.t)] t)) w.heap.size ao cap d := by
  constructor <;> exact World.cell?_alloc_new w _ t _

set_option maxHeartbeats 400000 in
theorem down_any (l : List UInt8) (w : World) : Calls Tryz.prog 106 #[.string (bs l)] w fun e w' => e = .returned (.bool (ownCl l)) ∧ Kept (fun _ => False) w w' := by
  have h1 := fun w => ncl_any l w
  have h2 := fun w => nalw_any l w
  unfold ownCl
  generalize builtins.contains l = r2 at *
  cases hc : isCl l with
  | false =>
    rw [hc] at h1
    have H1 := Lib.hid h1; clear h1 h2 hc
    go_enter Tryz.func106, Tryz.ntmps106
    go_wp2_with fail
    refine (H1.out _).mono ?_; rintro e w1 ⟨rfl, k1⟩
    go_wp2
    go_ret
    exact ⟨rfl, k1⟩
  | true =>
    rw [hc] at h1
    have H1 := Lib.hid h1; have H2 := Lib.hid h2; clear h1 h2 hc
    go_enter Tryz.func106, Tryz.ntmps106
    go_wp2_with fail
    refine (H1.out _).mono ?_; rintro e w1 ⟨rfl, k1⟩
    go_wp2_with fail
    refine (H2.out _).mono ?_; rintro e w2 ⟨rfl, k2⟩
    go_wp2
    go_ret
    exact ⟨rfl, k1.trans k2 (fun _ _ h => h)⟩

set_option maxHeartbeats 400000 in
theorem dsel_any (l : List UInt8) (w : World) (hl : l.length ≤ 1099511627776) : Calls Tryz.prog 108 #[.string (bs l)] w fun e w' => e = .returned (.bool (isSel l)) ∧ Kept (fun _ => False) w w' := by
  have H1 := Lib.hid (fun w => nkind_any l w hl)
  unfold isSel
  have hb : (((kindL l : Nat) : Int) != 0) = decide (kindL l ≠ 0) := by
    by_cases h : kindL l = 0
    · simp [h]
    · simp [h]
  generalize decide (kindL l ≠ 0) = r at *
  generalize kindL l = n at *
  go_enter Tryz.func108, Tryz.ntmps108
  go_wp2_with fail
  refine (H1.out _).mono ?_; rintro e w1 ⟨rfl, k1⟩
  go_wp2
  all_goals go_ret
  all_goals exact ⟨by simp_all, k1⟩

set_option maxHeartbeats 400000 in
theorem sidx_any (aa : Option Addr) (ca : Nat) (la : List (List UInt8)) (l : List UInt8) (B n : Nat) (hn : n = la.length) (w : World) (hA : Lies w B aa (strs la)) (hl : la.length ≤ 1099511627776) :
    Calls Tryz.prog 129 #[.slice aa n ca, .string (bs l)] w fun e w' => ∃ i : Int, e = .returned (.int .i64 i) ∧ decide (0 ≤ i) = la.contains l ∧ w = w' := by
  subst hn
  have HA := Lib.hid hA; clear hA
  go_enter Tryz.func129, Tryz.ntmps129
  go_wp2
  go_loopg [8] la.length (fun k v wr => ∃ j : Nat, k = la.length - j ∧ v = .int .i64 (j : Int) ∧ j ≤ la.length ∧ (la.take j).contains l = false ∧ w = wr)
  case atStart => exact ⟨0, rfl, rfl, Nat.zero_le _, rfl, rfl⟩
  case round =>
    obtain ⟨j, hk, rfl, hj, hev, rfl⟩ := hrel
    have HK := Lib.hid hk; have HEV := Lib.hid hev; clear hk hev
    by_cases hlt : j < la.length
    · obtain ⟨xb, xo, rfl, hxb, hc⟩ := HA.out (by intro h; simp [strs] at h; rw [h] at hlt; simp at hlt)
      have hx : w.cell? ⟨xb, xo + j, none⟩ = some (.string (bs la[j])) := hc j _ (by simp [strs, hlt])
      clear hc
      have i1 : (j : Int) < (la.length : Int) := by omega
      have b1 := bs_list la[j]
      have b2 := bs_list l
      have htk : (la.take (j + 1)).contains l = (l == la[j]) := by
        have e : la.take (j + 1) = la.take j ++ [la[j]] := by rw [List.take_add_one, List.getElem?_eq_getElem hlt]; rfl
        have h := HEV.out
        rw [e, List.contains_eq_any_beq, List.any_append, ← List.contains_eq_any_beq, h]
        simp
      have hyes : (l == la[j]) = true → la.contains l = true := fun h => by
        rw [List.contains_iff_mem]
        have := List.getElem_mem hlt
        rwa [← eq_of_beq h] at this
      have HTK := Lib.hid htk; have HY := Lib.hid hyes; clear htk hyes
      generalize la[j] = x at *
      cases hxy : l == x with
      | true =>
        have E := Lib.hid (HY.out hxy)
        go_wp2
        go_ret
        exact ⟨_, rfl, by rw [E.out]; simp, rfl⟩
      | false =>
        rw [hxy] at HTK
        go_wp2
        go_roundg (la.length - (j + 1))
        case measure => have := HK.out; omega
        case rel => exact ⟨j + 1, rfl, by go_num, by omega, HTK.out, rfl⟩
    · obtain rfl : j = la.length := by omega
      have E := Lib.hid HEV.out
      rw [List.take_length] at E
      go_wp2
      go_ret
      exact ⟨_, rfl, by rw [E.out]; rfl, rfl⟩

set_option maxHeartbeats 400000 in
theorem scont_any (aa : Option Addr) (ca : Nat) (la : List (List UInt8)) (l : List UInt8) (B n : Nat) (hn : n = la.length) (w : World) (hA : Lies w B aa (strs la)) (hl : la.length ≤ 1099511627776) :
    Calls Tryz.prog 115 #[.slice aa n ca, .string (bs l)] w fun e w' => e = .returned (.bool (la.contains l)) ∧ w = w' := by
  have H := Lib.hid (sidx_any aa ca la l B n hn w hA hl); clear hA hn hl
  generalize la.contains l = r at *
  go_enter Tryz.func115, Tryz.ntmps115
  go_wp2_with fail
  refine H.out.mono ?_; rintro e w1 ⟨i, rfl, hi, rfl⟩
  have HI := Lib.hid hi; clear hi
  go_wp2
  go_ret
  exact ⟨by rw [← HI.out]; rfl, rfl⟩

end Go.Proofs.YtjnpmbdehalmpaaGreat

/-
  A MAP FROM KEYS TO DEFINITIONS, as it lies in memory: its entries by rising keys.
-/
namespace Go.Proofs.YtjnpmbdehalmpaaGreat
open Go.RowKit Go.Mk Go.Maps

/-- A definition and where its list of variables lies. -/
abbrev Ent := DD × Option Addr × Nat
def keyE (e : Ent) : List UInt8 := keyD e.1
def valE (e : Ent) : Value := .agg #[.int .i64 e.1.k, .string (bs e.1.c), .string (bs e.1.p), .slice e.2.1 e.1.vs.length e.2.2, .string (bs e.1.s), .string (bs e.1.t)]

/-- What is read of an element: itself. -/
def RV (v : Value) : Option (DataW Value × List MemPlace) :=
  match v with
  | .agg cs => (match cs.toList with
    | [.int .i64 _, .string _, .string _, .slice _ _ _, .string _, .string _] => some (.held v, [])
    | _ => none)
  | _ => none

theorem RV_val (e : Ent) : RV (valE e) = some (.held (valE e), []) := rfl

/-- An element, its parts. -/
abbrev Raw := Int × List UInt8 × List UInt8 × Option Addr × Nat × Nat × List UInt8 × List UInt8
def rawV (c : Raw) : Value := .agg #[.int .i64 c.1, .string (bs c.2.1), .string (bs c.2.2.1), .slice c.2.2.2.1 c.2.2.2.2.1 c.2.2.2.2.2.1, .string (bs c.2.2.2.2.2.2.1), .string (bs c.2.2.2.2.2.2.2)]

theorem RV_inv {v : Value} {y : DataW Value × List MemPlace} (h : RV v = some y) : (∃ c : Raw, v = rawV c) ∧ y = (.held v, []) := by
  unfold RV at h
  split at h
  · rename_i cs
    split at h
    · rename_i k c p ao n cap s t hcs
      cases h
      refine ⟨⟨(k, c.data.toList, p.data.toList, ao, n, cap, s.data.toList, t.data.toList), ?_⟩, rfl⟩
      have : cs = #[.int .i64 k, .string c, .string p, .slice ao n cap, .string s, .string t] := by
        apply Array.toList_inj.1
        rw [hcs]
      rw [this]
      rfl
    · cases h
  · cases h

def datM (l : List Ent) : DataW Value := .map (l.map fun e => (.string (keyE e), .held (valE e)))

theorem same_str (a b : List UInt8) : (Lit.string a).sameKey (.string b) = (a == b) := rfl
theorem before_str (a b : List UInt8) : (Lit.string a).before (.string b) = decide (a < b) := bytesBefore_lt a b

theorem dat_del (k : List UInt8) (l : List Ent) : (datM l).del (.string k) = datM (dropK keyE k l) := by
  unfold datM DataW.del dropK
  simp only
  rw [List.filter_map]
  rfl

theorem ins_map (e : Ent) : ∀ {l : List Ent}, Rise keyE l → (∀ x ∈ l, keyE x ≠ keyE e) → DataW.insert (Lit.string (keyE e), DataW.held (valE e)) (l.map fun e => (Lit.string (keyE e), DataW.held (valE e))) = (putK keyE e l).map fun e => (Lit.string (keyE e), DataW.held (valE e))
  | [], _, _ => rfl
  | x :: r, h, hn => by
    obtain ⟨h1, h2⟩ := rise_cons.1 h
    have ih := ins_map e h2 (fun y hy => hn y (by simp [hy]))
    have hx := hn x (by simp)
    rw [List.map_cons, DataW.insert, before_str]
    simp only [putK, if_neg hx.symm]
    by_cases hl : keyE e < keyE x
    · simp [hl]
    · simp only [decide_eq_true_eq, if_neg hl, List.map_cons, ih]

theorem dat_put (e : Ent) {l : List Ent} (h : Rise keyE l) : (datM l).put (.string (keyE e)) (.held (valE e)) = datM (putK keyE e l) := by
  have hd : (datM l).put (.string (keyE e)) (.held (valE e)) = .map (DataW.insert (Lit.string (keyE e), DataW.held (valE e)) ((dropK keyE (keyE e) l).map fun e => (Lit.string (keyE e), DataW.held (valE e)))) := by
    unfold datM DataW.put dropK
    simp only
    rw [List.filter_map]
    rfl
  rw [hd, ins_map e (rise_dropK h) (fun x hx => (mem_dropK.1 hx).2), ← putK_drop e h]
  rfl

theorem dat_has (k : List UInt8) (l : List Ent) : Maps.has (datM l) (.string k) = hasK keyE k l := by
  show (l.map fun e => ((Lit.string (keyE e), DataW.held (valE e)) : Lit × DataW Value)).any (fun p => p.1.sameKey (Lit.string k)) = _
  unfold hasK
  rw [List.any_map]
  rfl

theorem dat_at_no {k : List UInt8} {l : List Ent} (h : hasK keyE k l = false) (z : DataW Value) : (datM l).atKey (.string k) z = z := atKey_of_not_has (by rw [dat_has]; exact h) z

theorem dat_at {e : Ent} {l : List Ent} (h : Rise keyE l) (he : e ∈ l) (z : DataW Value) : (datM l).atKey (.string (keyE e)) z = .held (valE e) := by
  unfold datM DataW.atKey
  simp only
  have : (l.map fun e => ((Lit.string (keyE e), DataW.held (valE e)) : Lit × DataW Value)).find? (fun p => p.1.sameKey (Lit.string (keyE e))) = some (Lit.string (keyE e), DataW.held (valE e)) := by
    rw [List.find?_map]
    have h1 : l.find? ((fun p : Lit × DataW Value => p.1.sameKey (Lit.string (keyE e))) ∘ fun e => (Lit.string (keyE e), DataW.held (valE e))) = some e := by
      cases hf : l.find? ((fun p : Lit × DataW Value => p.1.sameKey (Lit.string (keyE e))) ∘ fun e => (Lit.string (keyE e), DataW.held (valE e))) with
      | none =>
        have := List.find?_eq_none.1 hf e he
        simp [same_str] at this
      | some x =>
        have hx := List.mem_of_find?_eq_some hf
        have hp := List.find?_some hf
        simp [same_str] at hp
        rw [rise_one h hx he hp]
    rw [h1]
    rfl
  rw [this]

theorem dat_size (l : List Ent) : Maps.size (datM l) = l.length := by simp [datM, Maps.size]

theorem lawS : Keyed Tryz.prog 9 := string_keyed Tryz.underlying9
theorem keyS {k : List UInt8} (h : k.length ≤ maxLen) : keyOf Tryz.prog 9 (.string (bs k)) = some (.string k) := by
  have hu := Tryz.underlying9
  have hs : (bs k).size ≤ maxLen := h
  simp [keyOf, hu, mapKey, hs, bs_toList]
theorem keyS_inv {v : Value} {kl : Lit} (h : keyOf Tryz.prog 9 v = some kl) : ∃ k : List UInt8, v = .string (bs k) ∧ kl = .string k ∧ k.length ≤ maxLen := by
  have hu := Tryz.underlying9
  cases v <;> simp [keyOf, hu, mapKey] at h
  rename_i s
  obtain ⟨hs, rfl⟩ := h
  exact ⟨s.data.toList, rfl, rfl, by rw [Array.length_toList]; exact hs⟩

theorem Tryz.zeroDef (w : World) : (zeroValue 46).run Tryz.prog w = .ok (valE (zeroD, none, 0)) w := by kernel_rfl

/-- The table at a block. -/
structure Tb (w : World) (b : Nat) (l : List Ent) : Prop where
  own : w.ownsMap Tryz.prog 9 RV b l.length (datM l)
  rise : Rise keyE l
  right : ∀ e ∈ l, rightD e.1 = true
  lies : ∀ e ∈ l, Lies w w.heap.size e.2.1 (strs e.1.vs) ∧ e.1.vs.length ≤ e.2.2

theorem grown_of_kept {w w' : World} (h : Kept (fun _ => False) w w') : w.grownBy w' none := ⟨h.os, h.tape, h.output, h.size, fun k hk _ => h.block k hk (fun h => h)⟩
theorem kept_of_grown {w w' : World} {r : Option Nat} (h : w.grownBy w' r) : Kept (fun k => r = some k) w w' := (Kept.refl _ w).grown h (fun _ hk _ => hk)

theorem owns_tight {w : World} {b n : Nat} {D : DataW Value} (h : w.ownsMap Tryz.prog 9 RV b n D) : w.ownsMap Tryz.prog 9 RV b (Maps.size D) D := by
  obtain ⟨es, clock, hb, F, _, rfl⟩ := h
  exact ⟨es, clock, hb, F, by simp [Maps.size, length_sorted], rfl⟩

theorem Tb.kept {S : Nat → Prop} {w w' : World} {b : Nat} {l : List Ent} (h : Tb w b l) (hk : Kept S w w') (hb : ¬ S b) (hr : ∀ e ∈ l, e.1.vs ≠ [] → ∀ a, e.2.1 = some a → ¬ S a.block) : Tb w' b l := by
  refine ⟨?_, h.rise, h.right, fun e he => ⟨((h.lies e he).1.kept hk (fun hn a ha => hr e he (fun e0 => hn (by rw [e0]; rfl)) a ha)).mono hk.size, (h.lies e he).2⟩⟩
  have hlt := h.own.lt
  obtain ⟨es, clock, h1, h2, h3⟩ := h.own
  exact ⟨es, clock, (hk.block b hlt hb).trans h1, h2, h3⟩

theorem Tb.keep {w w' : World} {b : Nat} {l : List Ent} (h : Tb w b l) (hk : Kept (fun _ => False) w w') : Tb w' b l := h.kept hk (fun h => h) (fun _ _ _ _ _ h => h)

theorem Tb.lt {w : World} {b : Nat} {l : List Ent} (h : Tb w b l) : b < w.heap.size := h.own.lt

theorem Tb.len {w : World} {b : Nat} {l : List Ent} (h : Tb w b l) (ty : TypeId) : (Builtin.len_ #[85] ty #[.map (some b)]).run Tryz.prog w = .ok (.int .i64 (l.length : Int)) w := by
  have := h.own.len Tryz.underlying85 ty
  rwa [dat_size] at this

/-- A look-up of what is there. -/
theorem Tb.look {w : World} {b : Nat} {l : List Ent} (h : Tb w b l) {e : Ent} (he : e ∈ l) (hk : (keyE e).length ≤ maxLen) : (Instr.lookup 85 (.map (some b)) (.string (bs (keyE e))) true).run Tryz.prog w = .ok (.tuple #[valE e, .bool true]) w ∧
    (Instr.lookup 85 (.map (some b)) (.string (bs (keyE e))) false).run Tryz.prog w = .ok (valE e) w := by
  have hh : hasK keyE (keyE e) l = true := hasK_iff.2 ⟨e, he, rfl⟩
  constructor
  · obtain ⟨v, ps, hr, hv⟩ := h.own.look_ok lawS Tryz.underlying85 (Tryz.zeroDef w) (RV_val _) (keyS hk)
    rw [dat_at h.rise he] at hv
    obtain ⟨_, e2⟩ := RV_inv hv
    cases e2
    rw [dat_has, hh] at hr
    exact hr
  · obtain ⟨v, ps, hr, hv⟩ := h.own.lookup lawS Tryz.underlying85 (Tryz.zeroDef w) (RV_val _) (keyS hk)
    rw [dat_at h.rise he] at hv
    obtain ⟨_, e2⟩ := RV_inv hv
    cases e2
    exact hr

/-- A look-up of what is not there. -/
theorem Tb.look_no {w : World} {b : Nat} {l : List Ent} (h : Tb w b l) {k : List UInt8} (hh : hasK keyE k l = false) (hk : k.length ≤ maxLen) : (Instr.lookup 85 (.map (some b)) (.string (bs k)) true).run Tryz.prog w = .ok (.tuple #[valE (zeroD, none, 0), .bool false]) w := by
  obtain ⟨v, ps, hr, hv⟩ := h.own.look_ok lawS Tryz.underlying85 (Tryz.zeroDef w) (RV_val _) (keyS hk)
  rw [dat_at_no hh] at hv
  obtain ⟨_, e2⟩ := RV_inv hv
  cases e2
  rw [dat_has, hh] at hr
  exact hr

/-- m[k] = v. -/
theorem Tb.put {w : World} {b : Nat} {l : List Ent} (h : Tb w b l) (e : Ent) (hr : rightD e.1 = true) (hL : Lies w w.heap.size e.2.1 (strs e.1.vs) ∧ e.1.vs.length ≤ e.2.2) (hk : (keyE e).length ≤ maxLen) (hl : l.length ≤ 1000000) (hb : ∀ x ∈ putK keyE e l, x.1.vs ≠ [] → ∀ a, x.2.1 = some a → a.block ≠ b) :
    ∃ w', (Instr.mapUpdate 85 (.map (some b)) (.string (bs (keyE e))) (valE e)).run Tryz.prog w = .ok () w' ∧ Tb w' b (putK keyE e l) ∧ Kept (fun k => k = b) w w' := by
  obtain ⟨w', hrun, ho, hg⟩ := h.own.update lawS Tryz.underlying85 (by unfold maxLen; omega) (keyS hk) (RV_val e)
  rw [dat_put e h.rise] at ho
  have kk : Kept (fun k => k = b) w w' := (kept_of_grown hg).mono (fun k _ e => by cases e; rfl)
  refine ⟨w', hrun, ⟨by have := owns_tight ho; rwa [dat_size] at this, rise_putK h.rise, fun x hx => ?_, fun x hx => ?_⟩, kk⟩
  · rcases (mem_putK h.rise x).1 hx with rfl | ⟨hx, _⟩
    · exact hr
    · exact h.right x hx
  · have hl : Lies w w.heap.size x.2.1 (strs x.1.vs) ∧ x.1.vs.length ≤ x.2.2 := by
      rcases (mem_putK h.rise x).1 hx with rfl | ⟨hx, _⟩
      · exact hL
      · exact h.lies x hx
    exact ⟨(hl.1.kept kk (fun hn a ha => hb x hx (fun e0 => hn (by rw [e0]; rfl)) a ha)).mono kk.size, hl.2⟩

/-- delete(m, k). -/
theorem Tb.drop {w : World} {b : Nat} {l : List Ent} (h : Tb w b l) (k : List UInt8) (hk : k.length ≤ maxLen) (hb : ∀ x ∈ l, x.1.vs ≠ [] → ∀ a, x.2.1 = some a → a.block ≠ b) (ty : TypeId) :
    ∃ w', (Builtin.delete_ #[85, 9] ty #[.map (some b), .string (bs k)]).run Tryz.prog w = .ok (.tuple #[]) w' ∧ Tb w' b (dropK keyE k l) ∧ Kept (fun k => k = b) w w' := by
  obtain ⟨w', hrun, ho, hg⟩ := h.own.drop lawS Tryz.underlying85 (keyS hk) ty
  rw [dat_del] at ho
  have kk : Kept (fun k => k = b) w w' := (kept_of_grown hg.grown).mono (fun k _ e => by cases e; rfl)
  refine ⟨w', hrun, ⟨by have := owns_tight ho; rwa [dat_size] at this, rise_dropK h.rise, fun x hx => h.right x (mem_dropK.1 hx).1, fun x hx => ?_⟩, kk⟩
  have hl := h.lies x (mem_dropK.1 hx).1
  exact ⟨(hl.1.kept kk (fun hn a ha => hb x (mem_dropK.1 hx).1 (fun e0 => hn (by rw [e0]; rfl)) a ha)).mono kk.size, hl.2⟩

/-- A new table. -/
theorem tb_new (w : World) : Tb (w.alloc (.map #[] 0)) w.heap.size [] :=
  ⟨World.ownsMap_made w _ _ _, List.Pairwise.nil, by simp, by simp⟩

/-- The rows of a table lie in other blocks than a map's. -/
theorem lies_row {w : World} {b : Nat} {l : List Ent} (h : Tb w b l) {B : Nat} {ao : Option Addr} {vs : List Value} (hL : Lies w B ao vs) (hn : vs ≠ []) : ∀ a, ao = some a → a.block ≠ b := by
  intro a ha e
  obtain ⟨g, off, rfl, _, hc⟩ := hL hn
  cases ha
  obtain ⟨es, clock, hb, _⟩ := h.own
  cases vs with
  | nil => exact hn rfl
  | cons v vs =>
    have := hc 0 v rfl
    simp only at e
    subst e
    simp [World.cell?, hb] at this

theorem Tb.rows {w : World} {b : Nat} {l : List Ent} (h : Tb w b l) : ∀ x ∈ l, x.1.vs ≠ [] → ∀ a, x.2.1 = some a → a.block ≠ b := fun x hx hn => lies_row h (h.lies x hx).1 (by unfold strs; simpa using hn)

end Go.Proofs.YtjnpmbdehalmpaaGreat
