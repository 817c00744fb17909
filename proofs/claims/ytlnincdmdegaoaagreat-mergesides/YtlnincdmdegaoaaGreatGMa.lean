/-
  Lemmas towards the claim of this folder: contracts of the functions that the law reaches; joined texts.
-/
import Derived.Test.YtlnincdmdegaoaaGreatSp
import Derived.Test.YtlnincdmdegaoaaGreatGNe
import Derived.Maps.RangeWalk
import Derived.Maps.OwnSet
import Derived.Maps.Ext
import Derived.Test.YtlnincdmdegaoaaGreatGNb
/-
  A MAP FROM KEYS TO DEFINITIONS, as it lies in memory: its entries by rising keys.
-/
namespace Go.Proofs.YtlnincdmdegaoaaGreat
open Go.RowKit Go.Mk Go.Maps

/-- A definition and where its list of variables lies. -/
abbrev Ent := DD × Option Addr × Nat
def keyE (e : Ent) : List UInt8 := keyD e.1
def valE (e : Ent) : Value := .agg #[.int .i64 e.1.k, .string (bs e.1.c), .string (bs e.1.p), .slice e.2.1 e.1.vs.length e.2.2, .string (bs e.1.s), .string (bs e.1.t)]

/-- What is read of an element: itself. -/
def RV (v : Value) : Option (DataW Value × List MemPlace) :=
  match v with
  | .agg cs => (match cs.toList with
    | [.int .i64 _, .string _, .string _, .slice _ _ _, .string _, .string _] => some (.held v, [])
    | _ => none)
  | _ => none

theorem RV_val (e : Ent) : RV (valE e) = some (.held (valE e), []) := rfl

/-- An element, its parts. -/
abbrev Raw := Int × List UInt8 × List UInt8 × Option Addr × Nat × Nat × List UInt8 × List UInt8
def rawV (c : Raw) : Value := .agg #[.int .i64 c.1, .string (bs c.2.1), .string (bs c.2.2.1), .slice c.2.2.2.1 c.2.2.2.2.1 c.2.2.2.2.2.1, .string (bs c.2.2.2.2.2.2.1), .string (bs c.2.2.2.2.2.2.2)]

theorem RV_inv {v : Value} {y : DataW Value × List MemPlace} (h : RV v = some y) : (∃ c : Raw, v = rawV c) ∧ y = (.held v, []) := by
  unfold RV at h
  split at h
  · rename_i cs
    split at h
    · rename_i k c p ao n cap s t hcs
      cases h
      refine ⟨⟨(k, c.data.toList, p.data.toList, ao, n, cap, s.data.toList, t.data.toList), ?_⟩, rfl⟩
      have : cs = #[.int .i64 k, .string c, .string p, .slice ao n cap, .string s, .string t] := by
        apply Array.toList_inj.1
        rw [hcs]
      rw [this]
      rfl
    · cases h
  · cases h

def datM (l : List Ent) : DataW Value := .map (l.map fun e => (.string (keyE e), .held (valE e)))

theorem same_str (a b : List UInt8) : (Lit.string a).sameKey (.string b) = (a == b) := rfl
theorem before_str (a b : List UInt8) : (Lit.string a).before (.string b) = decide (a < b) := bytesBefore_lt a b

theorem dat_del (k : List UInt8) (l : List Ent) : (datM l).del (.string k) = datM (dropK keyE k l) := by
  unfold datM DataW.del dropK
  simp only
  rw [List.filter_map]
  rfl

theorem ins_map (e : Ent) : ∀ {l : List Ent}, Rise keyE l → (∀ x ∈ l, keyE x ≠ keyE e) → DataW.insert (Lit.string (keyE e), DataW.held (valE e)) (l.map fun e => (Lit.string (keyE e), DataW.held (valE e))) = (putK keyE e l).map fun e => (Lit.string (keyE e), DataW.held (valE e))
  | [], _, _ => rfl
  | x :: r, h, hn => by
    obtain ⟨h1, h2⟩ := rise_cons.1 h
    have ih := ins_map e h2 (fun y hy => hn y (by simp [hy]))
    have hx := hn x (by simp)
    rw [List.map_cons, DataW.insert, before_str]
    simp only [putK, if_neg hx.symm]
    by_cases hl : keyE e < keyE x
    · simp [hl]
    · simp only [decide_eq_true_eq, if_neg hl, List.map_cons, ih]

theorem dat_put (e : Ent) {l : List Ent} (h : Rise keyE l) : (datM l).put (.string (keyE e)) (.held (valE e)) = datM (putK keyE e l) := by
  have hd : (datM l).put (.string (keyE e)) (.held (valE e)) = .map (DataW.insert (Lit.string (keyE e), DataW.held (valE e)) ((dropK keyE (keyE e) l).map fun e => (Lit.string (keyE e), DataW.held (valE e)))) := by
    unfold datM DataW.put dropK
    simp only
    rw [List.filter_map]
    rfl
  rw [hd, ins_map e (rise_dropK h) (fun x hx => (mem_dropK.1 hx).2), ← putK_drop e h]
  rfl

theorem dat_has (k : List UInt8) (l : List Ent) : Maps.has (datM l) (.string k) = hasK keyE k l := by
  show (l.map fun e => ((Lit.string (keyE e), DataW.held (valE e)) : Lit × DataW Value)).any (fun p => p.1.sameKey (Lit.string k)) = _
  unfold hasK
  rw [List.any_map]
  rfl

theorem dat_at_no {k : List UInt8} {l : List Ent} (h : hasK keyE k l = false) (z : DataW Value) : (datM l).atKey (.string k) z = z := atKey_of_not_has (by rw [dat_has]; exact h) z

theorem dat_at {e : Ent} {l : List Ent} (h : Rise keyE l) (he : e ∈ l) (z : DataW Value) : (datM l).atKey (.string (keyE e)) z = .held (valE e) := by
  unfold datM DataW.atKey
  simp only
  have : (l.map fun e => ((Lit.string (keyE e), DataW.held (valE e)) : Lit × DataW Value)).find? (fun p => p.1.sameKey (Lit.string (keyE e))) = some (Lit.string (keyE e), DataW.held (valE e)) := by
    rw [List.find?_map]
    have h1 : l.find? ((fun p : Lit × DataW Value => p.1.sameKey (Lit.string (keyE e))) ∘ fun e => (Lit.string (keyE e), DataW.held (valE e))) = some e := by
      cases hf : l.find? ((fun p : Lit × DataW Value => p.1.sameKey (Lit.string (keyE e))) ∘ fun e => (Lit.string (keyE e), DataW.held (valE e))) with
      | none =>
        have := List.find?_eq_none.1 hf e he
        simp [same_str] at this
      | some x =>
        have hx := List.mem_of_find?_eq_some hf
        have hp := List.find?_some hf
        simp [same_str] at hp
        rw [rise_one h hx he hp]
    rw [h1]
    rfl
  rw [this]

theorem dat_size (l : List Ent) : Maps.size (datM l) = l.length := by simp [datM, Maps.size]

theorem lawS : Keyed Tryz.prog 9 := string_keyed Tryz.underlying9
theorem keyS {k : List UInt8} (h : k.length ≤ maxLen) : keyOf Tryz.prog 9 (.string (bs k)) = some (.string k) := by
  have hu := Tryz.underlying9
  have hs : (bs k).size ≤ maxLen := h
  simp [keyOf, hu, mapKey, hs, bs_toList]
theorem keyS_inv {v : Value} {kl : Lit} (h : keyOf Tryz.prog 9 v = some kl) : ∃ k : List UInt8, v = .string (bs k) ∧ kl = .string k ∧ k.length ≤ maxLen := by
  have hu := Tryz.underlying9
  cases v <;> simp [keyOf, hu, mapKey] at h
  rename_i s
  obtain ⟨hs, rfl⟩ := h
  exact ⟨s.data.toList, rfl, rfl, by rw [Array.length_toList]; exact hs⟩

theorem Tryz.zeroDef (w : World) : (zeroValue 43).run Tryz.prog w = .ok (valE (zeroD, none, 0)) w := by kernel_rfl

/-- The table at a block. -/
structure Tb (w : World) (b : Nat) (l : List Ent) : Prop where
  own : w.ownsMap Tryz.prog 9 RV b l.length (datM l)
  rise : Rise keyE l
  right : ∀ e ∈ l, rightD e.1 = true
  lies : ∀ e ∈ l, Lies w w.heap.size e.2.1 (strs e.1.vs) ∧ e.1.vs.length ≤ e.2.2

theorem grown_of_kept {w w' : World} (h : Kept (fun _ => False) w w') : w.grownBy w' none := ⟨h.os, h.tape, h.output, h.size, fun k hk _ => h.block k hk (fun h => h)⟩
theorem kept_of_grown {w w' : World} {r : Option Nat} (h : w.grownBy w' r) : Kept (fun k => r = some k) w w' := (Kept.refl _ w).grown h (fun _ hk _ => hk)

theorem owns_tight {w : World} {b n : Nat} {D : DataW Value} (h : w.ownsMap Tryz.prog 9 RV b n D) : w.ownsMap Tryz.prog 9 RV b (Maps.size D) D := by
  obtain ⟨es, clock, hb, F, _, rfl⟩ := h
  exact ⟨es, clock, hb, F, by simp [Maps.size, length_sorted], rfl⟩

theorem Tb.kept {S : Nat → Prop} {w w' : World} {b : Nat} {l : List Ent} (h : Tb w b l) (hk : Kept S w w') (hb : ¬ S b) (hr : ∀ e ∈ l, e.1.vs ≠ [] → ∀ a, e.2.1 = some a → ¬ S a.block) : Tb w' b l := by
  refine ⟨?_, h.rise, h.right, fun e he => ⟨((h.lies e he).1.kept hk (fun hn a ha => hr e he (fun e0 => hn (by rw [e0]; rfl)) a ha)).mono hk.size, (h.lies e he).2⟩⟩
  have hlt := h.own.lt
  obtain ⟨es, clock, h1, h2, h3⟩ := h.own
  exact ⟨es, clock, (hk.block b hlt hb).trans h1, h2, h3⟩

theorem Tb.keep {w w' : World} {b : Nat} {l : List Ent} (h : Tb w b l) (hk : Kept (fun _ => False) w w') : Tb w' b l := h.kept hk (fun h => h) (fun _ _ _ _ _ h => h)

theorem Tb.lt {w : World} {b : Nat} {l : List Ent} (h : Tb w b l) : b < w.heap.size := h.own.lt

theorem Tb.len {w : World} {b : Nat} {l : List Ent} (h : Tb w b l) (ty : TypeId) : (Builtin.len_ #[57] ty #[.map (some b)]).run Tryz.prog w = .ok (.int .i64 (l.length : Int)) w := by
  have := h.own.len Tryz.underlying57 ty
  rwa [dat_size] at this

/-- A look-up of what is there. -/
theorem Tb.look {w : World} {b : Nat} {l : List Ent} (h : Tb w b l) {e : Ent} (he : e ∈ l) (hk : (keyE e).length ≤ maxLen) : (Instr.lookup 57 (.map (some b)) (.string (bs (keyE e))) true).run Tryz.prog w = .ok (.tuple #[valE e, .bool true]) w ∧
    (Instr.lookup 57 (.map (some b)) (.string (bs (keyE e))) false).run Tryz.prog w = .ok (valE e) w := by
  have hh : hasK keyE (keyE e) l = true := hasK_iff.2 ⟨e, he, rfl⟩
  constructor
  · obtain ⟨v, ps, hr, hv⟩ := h.own.look_ok lawS Tryz.underlying57 (Tryz.zeroDef w) (RV_val _) (keyS hk)
    rw [dat_at h.rise he] at hv
    obtain ⟨_, e2⟩ := RV_inv hv
    cases e2
    rw [dat_has, hh] at hr
    exact hr
  · obtain ⟨v, ps, hr, hv⟩ := h.own.lookup lawS Tryz.underlying57 (Tryz.zeroDef w) (RV_val _) (keyS hk)
    rw [dat_at h.rise he] at hv
    obtain ⟨_, e2⟩ := RV_inv hv
    cases e2
    exact hr

/-- A look-up of what is not there. -/
theorem Tb.look_no {w : World} {b : Nat} {l : List Ent} (h : Tb w b l) {k : List UInt8} (hh : hasK keyE k l = false) (hk : k.length ≤ maxLen) : (Instr.lookup 57 (.map (some b)) (.string (bs k)) true).run Tryz.prog w = .ok (.tuple #[valE (zeroD, none, 0), .bool false]) w := by
  obtain ⟨v, ps, hr, hv⟩ := h.own.look_ok lawS Tryz.underlying57 (Tryz.zeroDef w) (RV_val _) (keyS hk)
  rw [dat_at_no hh] at hv
  obtain ⟨_, e2⟩ := RV_inv hv
  cases e2
  rw [dat_has, hh] at hr
  exact hr

/-- m[k] = v. -/
theorem Tb.put {w : World} {b : Nat} {l : List Ent} (h : Tb w b l) (e : Ent) (hr : rightD e.1 = true) (hL : Lies w w.heap.size e.2.1 (strs e.1.vs) ∧ e.1.vs.length ≤ e.2.2) (hk : (keyE e).length ≤ maxLen) (hl : l.length ≤ 1000000) (hb : ∀ x ∈ putK keyE e l, x.1.vs ≠ [] → ∀ a, x.2.1 = some a → a.block ≠ b) :
    ∃ w', (Instr.mapUpdate 57 (.map (some b)) (.string (bs (keyE e))) (valE e)).run Tryz.prog w = .ok () w' ∧ Tb w' b (putK keyE e l) ∧ Kept (fun k => k = b) w w' := by
  obtain ⟨w', hrun, ho, hg⟩ := h.own.update lawS Tryz.underlying57 (by unfold maxLen; omega) (keyS hk) (RV_val e)
  rw [dat_put e h.rise] at ho
  have kk : Kept (fun k => k = b) w w' := (kept_of_grown hg).mono (fun k _ e => by cases e; rfl)
  refine ⟨w', hrun, ⟨by have := owns_tight ho; rwa [dat_size] at this, rise_putK h.rise, fun x hx => ?_, fun x hx => ?_⟩, kk⟩
  · rcases (mem_putK h.rise x).1 hx with rfl | ⟨hx, _⟩
    · exact hr
    · exact h.right x hx
  · have hl : Lies w w.heap.size x.2.1 (strs x.1.vs) ∧ x.1.vs.length ≤ x.2.2 := by
      rcases (mem_putK h.rise x).1 hx with rfl | ⟨hx, _⟩
      · exact hL
      · exact h.lies x hx
    exact ⟨(hl.1.kept kk (fun hn a ha => hb x hx (fun e0 => hn (by rw [e0]; rfl)) a ha)).mono kk.size, hl.2⟩

/-- delete(m, k). -/
theorem Tb.drop {w : World} {b : Nat} {l : List Ent} (h : Tb w b l) (k : List UInt8) (hk : k.length ≤ maxLen) (hb : ∀ x ∈ l, x.1.vs ≠ [] → ∀ a, x.2.1 = some a → a.block ≠ b) (ty : TypeId) :
    ∃ w', (Builtin.delete_ #[57, 9] ty #[.map (some b), .string (bs k)]).run Tryz.prog w = .ok (.tuple #[]) w' ∧ Tb w' b (dropK keyE k l) ∧ Kept (fun k => k = b) w w' := by
  obtain ⟨w', hrun, ho, hg⟩ := h.own.drop lawS Tryz.underlying57 (keyS hk) ty
  rw [dat_del] at ho
  have kk : Kept (fun k => k = b) w w' := (kept_of_grown hg.grown).mono (fun k _ e => by cases e; rfl)
  refine ⟨w', hrun, ⟨by have := owns_tight ho; rwa [dat_size] at this, rise_dropK h.rise, fun x hx => h.right x (mem_dropK.1 hx).1, fun x hx => ?_⟩, kk⟩
  have hl := h.lies x (mem_dropK.1 hx).1
  exact ⟨(hl.1.kept kk (fun hn a ha => hb x (mem_dropK.1 hx).1 (fun e0 => hn (by rw [e0]; rfl)) a ha)).mono kk.size, hl.2⟩

/-- A new table. -/
theorem tb_new (w : World) : Tb (w.alloc (.map #[] 0)) w.heap.size [] :=
  ⟨World.ownsMap_made w _ _ _, List.Pairwise.nil, by simp, by simp⟩

/-- The rows of a table lie in other blocks than a map's. -/
theorem lies_row {w : World} {b : Nat} {l : List Ent} (h : Tb w b l) {B : Nat} {ao : Option Addr} {vs : List Value} (hL : Lies w B ao vs) (hn : vs ≠ []) : ∀ a, ao = some a → a.block ≠ b := by
  intro a ha e
  obtain ⟨g, off, rfl, _, hc⟩ := hL hn
  cases ha
  obtain ⟨es, clock, hb, _⟩ := h.own
  cases vs with
  | nil => exact hn rfl
  | cons v vs =>
    have := hc 0 v rfl
    simp only at e
    subst e
    simp [World.cell?, hb] at this

theorem Tb.rows {w : World} {b : Nat} {l : List Ent} (h : Tb w b l) : ∀ x ∈ l, x.1.vs ≠ [] → ∀ a, x.2.1 = some a → a.block ≠ b := fun x hx hn => lies_row h (h.lies x hx).1 (by unfold strs; simpa using hn)

end Go.Proofs.YtlnincdmdegaoaaGreat

/-
  CONTRACTS of package octet's Writer.
-/
namespace Go.Proofs.YtlnincdmdegaoaaGreat
open Go.RowKit Go.Mk


/-- The k lowest bytes of a number, the most significant one first. -/
def bigB : Nat → Nat → List UInt8
  | 0, _ => []
  | k + 1, u => UInt8.ofNat (u / 256 ^ k) :: bigB k u

theorem bigB_length (k u : Nat) : (bigB k u).length = k := by induction k with
  | zero => rfl
  | succ k ih => simp [bigB, ih]

theorem big_byte (u q : Nat) : Value.int .u8 ((u : Int) / 2 ^ (8 * (q + 1) - 8) % 256) = bv (UInt8.ofNat (u / 256 ^ q)) := by
  have e : 8 * (q + 1) - 8 = 8 * q := by omega
  have e2 : (2 : Nat) ^ (8 * q) = 256 ^ q := by rw [Nat.pow_mul]
  have e3 : ((2 : Int) ^ (8 * q)) = ((256 ^ q : Nat) : Int) := by rw [← e2]; norm_cast
  rw [e, e3]
  simp only [bv, UInt8.toNat_ofNat']
  congr 1

/-- An int as a uint64. -/
def asU64 (n : Int) : Nat := (IntKind.u64.wrap n).toNat
theorem asU64_eq (n : Int) : IntKind.u64.wrap n = (asU64 n : Int) := by
  unfold asU64
  rw [IntKind.wrap_u64]
  omega

/-- What a Writer holds: what has been written, and its error. -/
structure WS where
  out : List UInt8
  err : Int

def WS.num (s : WS) (n : Int) : WS := if s.err ≠ 0 then s else if n < 0 ∨ 2147483647 < n then ⟨s.out, 2⟩ else ⟨s.out ++ bigB 4 n.toNat, 0⟩
def WS.int (s : WS) (n : Int) : WS := if s.err ≠ 0 then s else ⟨s.out ++ bigB 8 (asU64 n), 0⟩
def WS.text (s : WS) (t : List UInt8) : WS := if (s.num t.length).err ≠ 0 then s.num t.length else ⟨(s.num t.length).out ++ t, 0⟩
def WS.texts (s : WS) (l : List (List UInt8)) : WS := l.foldl WS.text (s.num l.length)

/-- The Writer at block b: its slice at ao, of capacity cap. -/
structure Wr (w : World) (b : Nat) (ao : Option Addr) (cap : Nat) (s : WS) : Prop where
  c0 : w.cell? ⟨b, 0, none⟩ = some (.slice ao s.out.length cap)
  c1 : w.cell? ⟨b, 1, none⟩ = some (.int .i64 s.err)
  f0 : w.frozen? ⟨b, 0, none⟩ = false
  f1 : w.frozen? ⟨b, 1, none⟩ = false
  own : w.ownsRow 0 5 1 (.slice ao s.out.length cap) s.out.length (s.out.map bv)
  ne : (Value.slice ao s.out.length cap).ownBlock ≠ some b

/-- What a call on a Writer turns: its own block, its row. -/
structure WStep (w w' : World) (b : Nat) (ao ao' : Option Addr) : Prop where
  kept : Kept (fun k => k = b ∨ (Value.slice ao 0 0).ownBlock = some k) w w'
  row : (Value.slice ao' 0 0).ownBlock = (Value.slice ao 0 0).ownBlock ∨ ∃ k, (Value.slice ao' 0 0).ownBlock = some k ∧ w.heap.size ≤ k

theorem own_any (ao : Option Addr) (n c : Nat) : (Value.slice ao n c).ownBlock = (Value.slice ao 0 0).ownBlock := by cases ao <;> rfl

theorem WStep.refl (w : World) (b : Nat) (ao : Option Addr) : WStep w w b ao ao := ⟨Kept.refl _ _, .inl rfl⟩

theorem WStep.trans {w w1 w2 : World} {b : Nat} {ao ao1 ao2 : Option Addr} (h : WStep w w1 b ao ao1) (k : WStep w1 w2 b ao1 ao2) : WStep w w2 b ao ao2 := by
  refine ⟨h.kept.trans k.kept fun i hi hs => ?_, ?_⟩
  · rcases hs with hs | hs
    · exact .inl hs
    · rcases h.row with hr | ⟨j, hr, hj⟩
      · exact .inr (by rw [← hr]; exact hs)
      · rw [hr] at hs; cases hs; omega
  · have hsz := h.kept.size
    rcases k.row with kr | ⟨j, kr, hj⟩
    · rw [kr]; exact h.row
    · exact .inr ⟨j, kr, by omega⟩

def WrPost (w : World) (b : Nat) (ao : Option Addr) (s' : WS) (e : Ending) (w' : World) : Prop := e = .returned (.tuple #[]) ∧ ∃ ao' cap', Wr w' b ao' cap' s' ∧ WStep w w' b ao ao'

theorem Wr.lt {w : World} {b : Nat} {ao : Option Addr} {cap : Nat} {s : WS} (h : Wr w b ao cap s) : b < w.heap.size := World.block_lt_of_cell? _ _ h.c0

/-- Behind a call that has grown the row: the new slice is stored. -/
theorem Wr.stored {w w1 : World} {b : Nat} {ao ao' : Option Addr} {cap cap' : Nat} {s s' : WS} (h : Wr w b ao cap s) (he : s'.err = s.err) (hg : w.grownBy w1 (Value.slice ao s.out.length cap).ownBlock)
    (ho : w1.ownsRow 0 5 1 (.slice ao' s'.out.length cap') s'.out.length (s'.out.map bv)) (hr : (Value.slice ao' s'.out.length cap').ownBlock = (Value.slice ao s.out.length cap).ownBlock ∨ ∃ k, (Value.slice ao' s'.out.length cap').ownBlock = some k ∧ w.heap.size ≤ k) :
    Wr (w1.setCell ⟨b, 0, none⟩ (.slice ao' s'.out.length cap')) b ao' cap' s' ∧ WStep w (w1.setCell ⟨b, 0, none⟩ (.slice ao' s'.out.length cap')) b ao ao' := by
  have hb := h.lt
  have hne : (Value.slice ao' s'.out.length cap').ownBlock ≠ some b := by
    rcases hr with hr | ⟨k, hr, hk⟩
    · rw [hr]; exact h.ne
    · rw [hr]; simp; omega
  have k1 : w1.cell? ⟨b, 1, none⟩ = some (.int .i64 s.err) := hg.cell h.c1 (Ne.symm h.ne)
  have k0 : w1.cell? ⟨b, 0, none⟩ = _ := hg.cell h.c0 (Ne.symm h.ne)
  have hblk := hg.block b hb (Ne.symm h.ne)
  refine ⟨⟨World.cell?_setCell_same _ _ _ k0, ?_, ?_, ?_, ?_, hne⟩, ?_, ?_⟩
  · rw [World.cell?_setCell_other _ _ _ _ (by simp), k1, he]
  · rw [World.frozen?_setCell, World.frozen?_of_block (a := ⟨b, 0, none⟩) hblk]; exact h.f0
  · rw [World.frozen?_setCell, World.frozen?_of_block (a := ⟨b, 1, none⟩) hblk]; exact h.f1
  · refine owns_kept (S := fun k => k = b) ho (Kept.setCell (p := ⟨b, 0, none⟩) (Kept.refl (fun k => k = b) w1) (fun _ => rfl) _) (fun k hk e => hne (by rw [hk, e]))
  · refine Kept.setCell (Kept.grown (Kept.refl _ _) hg (fun k hk _ => .inr (by rw [← own_any ao s.out.length cap]; exact hk))) (fun _ => .inl rfl) _
  · rw [← own_any ao' s'.out.length cap', ← own_any ao s.out.length cap]; exact hr

theorem WS.num_err (s : WS) (n : Int) (h : s.err ≠ 0) : s.num n = s := by simp [WS.num, h]
theorem WS.num_ok (s : WS) (n : Nat) (h : s.err = 0) (hn : n ≤ 2147483647) : s.num n = ⟨s.out ++ bigB 4 n, 0⟩ := by
  have : ¬ ((n : Int) < 0 ∨ 2147483647 < (n : Int)) := by omega
  simp [WS.num, h, this]
theorem WS.num_len (s : WS) (n : Int) : (s.num n).out.length ≤ s.out.length + 4 := by
  unfold WS.num; split <;> (try split) <;> simp [bigB_length]
theorem WS.text_len (s : WS) (t : List UInt8) : (s.text t).out.length ≤ s.out.length + 4 + t.length := by
  have := s.num_len t.length
  unfold WS.text; split <;> simp <;> omega

/-- A Writer that lies in F, with its row. -/
structure WrF (w : World) (F : Nat → Prop) (b : Nat) (s : WS) : Prop where
  lo : F b
  wr : ∃ ao cap, Wr w b ao cap s ∧ ∀ k, (Value.slice ao 0 0).ownBlock = some k → F k

theorem WrF.of_step {w w' : World} {F : Nat → Prop} {b : Nat} {ao ao' : Option Addr} {cap' : Nat} {s' : WS} (hF : ∀ k, w.heap.size ≤ k → F k) (hlo : F b) (hr : ∀ k, (Value.slice ao 0 0).ownBlock = some k → F k) (h' : Wr w' b ao' cap' s') (st : WStep w w' b ao ao') :
    WrF w' F b s' ∧ Kept F w w' := by
  refine ⟨⟨hlo, ao', cap', h', fun k hk => ?_⟩, st.kept.mono (fun k _ hk => ?_)⟩
  · rcases st.row with e | ⟨j, e, hj⟩
    · rw [e] at hk; exact hr k hk
    · rw [e] at hk; cases hk; exact hF _ hj
  · rcases hk with rfl | hk
    · exact hlo
    · exact hr k hk

def WrFPost (w : World) (F : Nat → Prop) (b : Nat) (s' : WS) (e : Ending) (w' : World) : Prop := e = .returned (.tuple #[]) ∧ WrF w' F b s' ∧ Kept F w w'

/-- The lists of bytes of strings. -/
def strL (ss : List ByteArray) : List (List UInt8) := ss.map (·.data.toList)

def sumL (l : List (List UInt8)) : Nat := (l.map (fun t => 4 + t.length)).sum

theorem WS.texts_take (s : WS) (l : List (List UInt8)) (n : Nat) : ((l.foldl WS.text (s.num n))).out.length ≤ s.out.length + 4 + sumL l := by
  have : ∀ (l : List (List UInt8)) (s : WS), (l.foldl WS.text s).out.length ≤ s.out.length + sumL l := by
    intro l
    induction l with
    | nil => intro s; simp
    | cons t l ih =>
      intro s
      have h1 := ih (s.text t)
      have h2 := s.text_len t
      simp only [List.foldl_cons, sumL, List.map_cons, List.sum_cons] at *
      omega
  have h1 := this l (s.num n)
  have h2 := s.num_len n
  omega

theorem sumL_take (l : List (List UInt8)) (j : Nat) : sumL (l.take j) ≤ sumL l := by
  induction l generalizing j with
  | nil => simp
  | cons t l ih => cases j with
    | zero => simp [sumL]
    | succ j => have := ih j; simp [sumL] at *; omega

/-- Behind a call that keeps all that was there. -/
theorem WrF.kept {w w' : World} {F : Nat → Prop} {b : Nat} {s : WS} (h : WrF w F b s) (hb : Below w.heap.size w w') : WrF w' F b s := by
  obtain ⟨hlo, ao, cap, hw, hr⟩ := h
  have hlt := hw.lt
  refine ⟨hlo, ao, cap, ⟨(hb.cell (p := ⟨b, 0, none⟩) hlt).trans hw.c0, (hb.cell (p := ⟨b, 1, none⟩) hlt).trans hw.c1, (hb.frozen (p := ⟨b, 0, none⟩) hlt).trans hw.f0, (hb.frozen (p := ⟨b, 1, none⟩) hlt).trans hw.f1, ?_, hw.ne⟩, hr⟩
  exact owns_kept hw.own (Kept.of_below hb) (fun k hk => by have := owns_lt hw.own k hk; omega)

/-- The same Writer, looked at in another set. -/
theorem WrF.in {w : World} {F F' : Nat → Prop} {b : Nat} {s : WS} (h : WrF w F b s) (hs : ∀ k, k < w.heap.size → F k → F' k) : WrF w F' b s := by
  obtain ⟨hlo, ao, cap, hw, hr⟩ := h
  exact ⟨hs _ hw.lt hlo, ao, cap, hw, fun k hk => hs k (owns_lt hw.own k (by rw [own_any]; exact hk)).2 (hr k hk)⟩

end Go.Proofs.YtlnincdmdegaoaaGreat
