/-
  Lemmas towards the claim of this folder: contracts of the functions that the law reaches; joined texts.
-/
import Derived.Test.YtlnincdmdegaoaaGreatGNb
import Derived.Deep.CutBlock
import Derived.Deep.DeepCutAuto
/-
  CONTRACTS of package octet's Writer.
-/
namespace Go.Proofs.YtlnincdmdegaoaaGreat
open Go.RowKit Go.Mk


/-- The k lowest bytes of a number, the most significant one first. -/
def bigB : Nat → Nat → List UInt8
  | 0, _ => []
  | k + 1, u => UInt8.ofNat (u / 256 ^ k) :: bigB k u

theorem bigB_length (k u : Nat) : (bigB k u).length = k := by induction k with
  | zero => rfl
  | succ k ih => simp [bigB, ih]

theorem big_byte (u q : Nat) : Value.int .u8 ((u : Int) / 2 ^ (8 * (q + 1) - 8) % 256) = bv (UInt8.ofNat (u / 256 ^ q)) := by
  have e : 8 * (q + 1) - 8 = 8 * q := by omega
  have e2 : (2 : Nat) ^ (8 * q) = 256 ^ q := by rw [Nat.pow_mul]
  have e3 : ((2 : Int) ^ (8 * q)) = ((256 ^ q : Nat) : Int) := by rw [← e2]; norm_cast
  rw [e, e3]
  simp only [bv, UInt8.toNat_ofNat']
  congr 1

/-- An int as a uint64. -/
def asU64 (n : Int) : Nat := (IntKind.u64.wrap n).toNat
theorem asU64_eq (n : Int) : IntKind.u64.wrap n = (asU64 n : Int) := by
  unfold asU64
  rw [IntKind.wrap_u64]
  omega

/-- What a Writer holds: what has been written, and its error. -/
structure WS where
  out : List UInt8
  err : Int

def WS.num (s : WS) (n : Int) : WS := if s.err ≠ 0 then s else if n < 0 ∨ 2147483647 < n then ⟨s.out, 2⟩ else ⟨s.out ++ bigB 4 n.toNat, 0⟩
def WS.int (s : WS) (n : Int) : WS := if s.err ≠ 0 then s else ⟨s.out ++ bigB 8 (asU64 n), 0⟩
def WS.text (s : WS) (t : List UInt8) : WS := if (s.num t.length).err ≠ 0 then s.num t.length else ⟨(s.num t.length).out ++ t, 0⟩
def WS.texts (s : WS) (l : List (List UInt8)) : WS := l.foldl WS.text (s.num l.length)

/-- The Writer at block b: its slice at ao, of capacity cap. -/
structure Wr (w : World) (b : Nat) (ao : Option Addr) (cap : Nat) (s : WS) : Prop where
  c0 : w.cell? ⟨b, 0, none⟩ = some (.slice ao s.out.length cap)
  c1 : w.cell? ⟨b, 1, none⟩ = some (.int .i64 s.err)
  f0 : w.frozen? ⟨b, 0, none⟩ = false
  f1 : w.frozen? ⟨b, 1, none⟩ = false
  own : w.ownsRow 0 5 1 (.slice ao s.out.length cap) s.out.length (s.out.map bv)
  ne : (Value.slice ao s.out.length cap).ownBlock ≠ some b

/-- What a call on a Writer turns: its own block, its row. -/
structure WStep (w w' : World) (b : Nat) (ao ao' : Option Addr) : Prop where
  kept : Kept (fun k => k = b ∨ (Value.slice ao 0 0).ownBlock = some k) w w'
  row : (Value.slice ao' 0 0).ownBlock = (Value.slice ao 0 0).ownBlock ∨ ∃ k, (Value.slice ao' 0 0).ownBlock = some k ∧ w.heap.size ≤ k

theorem own_any (ao : Option Addr) (n c : Nat) : (Value.slice ao n c).ownBlock = (Value.slice ao 0 0).ownBlock := by cases ao <;> rfl

theorem WStep.refl (w : World) (b : Nat) (ao : Option Addr) : WStep w w b ao ao := ⟨Kept.refl _ _, .inl rfl⟩

theorem WStep.trans {w w1 w2 : World} {b : Nat} {ao ao1 ao2 : Option Addr} (h : WStep w w1 b ao ao1) (k : WStep w1 w2 b ao1 ao2) : WStep w w2 b ao ao2 := by
  refine ⟨h.kept.trans k.kept fun i hi hs => ?_, ?_⟩
  · rcases hs with hs | hs
    · exact .inl hs
    · rcases h.row with hr | ⟨j, hr, hj⟩
      · exact .inr (by rw [← hr]; exact hs)
      · rw [hr] at hs; cases hs; omega
  · have hsz := h.kept.size
    rcases k.row with kr | ⟨j, kr, hj⟩
    · rw [kr]; exact h.row
    · exact .inr ⟨j, kr, by omega⟩

def WrPost (w : World) (b : Nat) (ao : Option Addr) (s' : WS) (e : Ending) (w' : World) : Prop := e = .returned (.tuple #[]) ∧ ∃ ao' cap', Wr w' b ao' cap' s' ∧ WStep w w' b ao ao'

theorem Wr.lt {w : World} {b : Nat} {ao : Option Addr} {cap : Nat} {s : WS} (h : Wr w b ao cap s) : b < w.heap.size := World.block_lt_of_cell? _ _ h.c0

/-- Behind a call that has grown the row: the new slice is stored. -/
theorem Wr.stored {w w1 : World} {b : Nat} {ao ao' : Option Addr} {cap cap' : Nat} {s s' : WS} (h : Wr w b ao cap s) (he : s'.err = s.err) (hg : w.grownBy w1 (Value.slice ao s.out.length cap).ownBlock)
    (ho : w1.ownsRow 0 5 1 (.slice ao' s'.out.length cap') s'.out.length (s'.out.map bv)) (hr : (Value.slice ao' s'.out.length cap').ownBlock = (Value.slice ao s.out.length cap).ownBlock ∨ ∃ k, (Value.slice ao' s'.out.length cap').ownBlock = some k ∧ w.heap.size ≤ k) :
    Wr (w1.setCell ⟨b, 0, none⟩ (.slice ao' s'.out.length cap')) b ao' cap' s' ∧ WStep w (w1.setCell ⟨b, 0, none⟩ (.slice ao' s'.out.length cap')) b ao ao' := by
  have hb := h.lt
  have hne : (Value.slice ao' s'.out.length cap').ownBlock ≠ some b := by
    rcases hr with hr | ⟨k, hr, hk⟩
    · rw [hr]; exact h.ne
    · rw [hr]; simp; omega
  have k1 : w1.cell? ⟨b, 1, none⟩ = some (.int .i64 s.err) := hg.cell h.c1 (Ne.symm h.ne)
  have k0 : w1.cell? ⟨b, 0, none⟩ = _ := hg.cell h.c0 (Ne.symm h.ne)
  have hblk := hg.block b hb (Ne.symm h.ne)
  refine ⟨⟨World.cell?_setCell_same _ _ _ k0, ?_, ?_, ?_, ?_, hne⟩, ?_, ?_⟩
  · rw [World.cell?_setCell_other _ _ _ _ (by simp), k1, he]
  · rw [World.frozen?_setCell, World.frozen?_of_block (a := ⟨b, 0, none⟩) hblk]; exact h.f0
  · rw [World.frozen?_setCell, World.frozen?_of_block (a := ⟨b, 1, none⟩) hblk]; exact h.f1
  · refine owns_kept (S := fun k => k = b) ho (Kept.setCell (p := ⟨b, 0, none⟩) (Kept.refl (fun k => k = b) w1) (fun _ => rfl) _) (fun k hk e => hne (by rw [hk, e]))
  · refine Kept.setCell (Kept.grown (Kept.refl _ _) hg (fun k hk _ => .inr (by rw [← own_any ao s.out.length cap]; exact hk))) (fun _ => .inl rfl) _
  · rw [← own_any ao' s'.out.length cap', ← own_any ao s.out.length cap]; exact hr

theorem WS.num_err (s : WS) (n : Int) (h : s.err ≠ 0) : s.num n = s := by simp [WS.num, h]
theorem WS.num_ok (s : WS) (n : Nat) (h : s.err = 0) (hn : n ≤ 2147483647) : s.num n = ⟨s.out ++ bigB 4 n, 0⟩ := by
  have : ¬ ((n : Int) < 0 ∨ 2147483647 < (n : Int)) := by omega
  simp [WS.num, h, this]
theorem WS.num_len (s : WS) (n : Int) : (s.num n).out.length ≤ s.out.length + 4 := by
  unfold WS.num; split <;> (try split) <;> simp [bigB_length]
theorem WS.text_len (s : WS) (t : List UInt8) : (s.text t).out.length ≤ s.out.length + 4 + t.length := by
  have := s.num_len t.length
  unfold WS.text; split <;> simp <;> omega

/-- A Writer that lies in F, with its row. -/
structure WrF (w : World) (F : Nat → Prop) (b : Nat) (s : WS) : Prop where
  lo : F b
  wr : ∃ ao cap, Wr w b ao cap s ∧ ∀ k, (Value.slice ao 0 0).ownBlock = some k → F k

theorem WrF.of_step {w w' : World} {F : Nat → Prop} {b : Nat} {ao ao' : Option Addr} {cap' : Nat} {s' : WS} (hF : ∀ k, w.heap.size ≤ k → F k) (hlo : F b) (hr : ∀ k, (Value.slice ao 0 0).ownBlock = some k → F k) (h' : Wr w' b ao' cap' s') (st : WStep w w' b ao ao') :
    WrF w' F b s' ∧ Kept F w w' := by
  refine ⟨⟨hlo, ao', cap', h', fun k hk => ?_⟩, st.kept.mono (fun k _ hk => ?_)⟩
  · rcases st.row with e | ⟨j, e, hj⟩
    · rw [e] at hk; exact hr k hk
    · rw [e] at hk; cases hk; exact hF _ hj
  · rcases hk with rfl | hk
    · exact hlo
    · exact hr k hk

def WrFPost (w : World) (F : Nat → Prop) (b : Nat) (s' : WS) (e : Ending) (w' : World) : Prop := e = .returned (.tuple #[]) ∧ WrF w' F b s' ∧ Kept F w w'

/-- The lists of bytes of strings. -/
def strL (ss : List ByteArray) : List (List UInt8) := ss.map (·.data.toList)

def sumL (l : List (List UInt8)) : Nat := (l.map (fun t => 4 + t.length)).sum

theorem WS.texts_take (s : WS) (l : List (List UInt8)) (n : Nat) : ((l.foldl WS.text (s.num n))).out.length ≤ s.out.length + 4 + sumL l := by
  have : ∀ (l : List (List UInt8)) (s : WS), (l.foldl WS.text s).out.length ≤ s.out.length + sumL l := by
    intro l
    induction l with
    | nil => intro s; simp
    | cons t l ih =>
      intro s
      have h1 := ih (s.text t)
      have h2 := s.text_len t
      simp only [List.foldl_cons, sumL, List.map_cons, List.sum_cons] at *
      omega
  have h1 := this l (s.num n)
  have h2 := s.num_len n
  omega

theorem sumL_take (l : List (List UInt8)) (j : Nat) : sumL (l.take j) ≤ sumL l := by
  induction l generalizing j with
  | nil => simp
  | cons t l ih => cases j with
    | zero => simp [sumL]
    | succ j => have := ih j; simp [sumL] at *; omega

/-- Behind a call that keeps all that was there. -/
theorem WrF.kept {w w' : World} {F : Nat → Prop} {b : Nat} {s : WS} (h : WrF w F b s) (hb : Below w.heap.size w w') : WrF w' F b s := by
  obtain ⟨hlo, ao, cap, hw, hr⟩ := h
  have hlt := hw.lt
  refine ⟨hlo, ao, cap, ⟨(hb.cell (p := ⟨b, 0, none⟩) hlt).trans hw.c0, (hb.cell (p := ⟨b, 1, none⟩) hlt).trans hw.c1, (hb.frozen (p := ⟨b, 0, none⟩) hlt).trans hw.f0, (hb.frozen (p := ⟨b, 1, none⟩) hlt).trans hw.f1, ?_, hw.ne⟩, hr⟩
  exact owns_kept hw.own (Kept.of_below hb) (fun k hk => by have := owns_lt hw.own k hk; omega)

/-- The same Writer, looked at in another set. -/
theorem WrF.in {w : World} {F F' : Nat → Prop} {b : Nat} {s : WS} (h : WrF w F b s) (hs : ∀ k, k < w.heap.size → F k → F' k) : WrF w F' b s := by
  obtain ⟨hlo, ao, cap, hw, hr⟩ := h
  exact ⟨hs _ hw.lt hlo, ao, cap, hw, fun k hk => hs k (owns_lt hw.own k (by rw [own_any]; exact hk)).2 (hr k hk)⟩

end Go.Proofs.YtlnincdmdegaoaaGreat

/-
  CONTRACTS of package octet's Reader.
-/
namespace Go.Proofs.YtlnincdmdegaoaaGreat
open Go.RowKit Go.Mk

/-- The number whose most significant byte comes first. -/
def natB (l : List UInt8) : Nat := l.foldl (fun n x => n * 256 + x.toNat) 0

theorem natB_snoc (l : List UInt8) (x : UInt8) : natB (l ++ [x]) = natB l * 256 + x.toNat := by simp [natB, List.foldl_append]
theorem natB_lt (l : List UInt8) : natB l < 256 ^ l.length := by
  have : ∀ (l : List UInt8) (n k : Nat), n < 256 ^ k → l.foldl (fun n x => n * 256 + x.toNat) n < 256 ^ (k + l.length) := by
    intro l
    induction l with
    | nil => intro n k h; simpa using h
    | cons x l ih =>
      intro n k h
      have h1 := x.toNat_lt
      have h2 := ih (n * 256 + x.toNat) (k + 1) (by rw [Nat.pow_succ]; omega)
      rw [List.foldl_cons, List.length_cons, show k + (l.length + 1) = k + 1 + l.length by omega]
      exact h2
  have h := this l 0 0 (by simp)
  simpa [natB] using h

theorem big_or (n : Nat) (x : UInt8) (h : n * 256 + 256 ≤ 18446744073709551616) : bits BinOp.or IntKind.u64 (IntKind.u64.wrap ((n : Int) * 256)) (IntKind.u64.wrap (x.toNat : Int)) = ((n * 256 + x.toNat : Nat) : Int) := by
  have hx := x.toNat_lt
  have e1 : IntKind.u64.wrap ((n : Int) * 256) = ((n * 256 : Nat) : Int) := by rw [IntKind.wrap_u64]; omega
  have e2 : IntKind.u64.wrap (x.toNat : Int) = (x.toNat : Int) := by rw [IntKind.wrap_u64]; omega
  rw [e1, e2, u64_or_nat _ _ (by omega) (by omega)]
  have := Nat.two_pow_add_eq_or_of_lt (i := 8) (b := x.toNat) (by omega) n
  rw [Nat.mul_comm n 256]
  congr 1
  exact this.symm

/-- What a Reader holds: the bytes that are left, and its error. -/
structure RS where
  rest : List UInt8
  err : Int

def RS.num (s : RS) : RS × Int :=
  if s.err ≠ 0 then (s, 0) else if s.rest.length < 4 then (⟨s.rest, 10⟩, 0) else if 2147483647 < natB (s.rest.take 4) then (⟨s.rest, 11⟩, 0) else (⟨s.rest.drop 4, 0⟩, natB (s.rest.take 4))
def RS.int (s : RS) : RS × Int :=
  if s.err ≠ 0 then (s, 0) else if s.rest.length < 8 then (⟨s.rest, 10⟩, 0) else (⟨s.rest.drop 8, 0⟩, wrap64 (natB (s.rest.take 8)))
def RS.text (s : RS) : RS × List UInt8 :=
  if s.num.1.err ≠ 0 then (⟨s.rest, s.num.1.err⟩, []) else if s.num.1.rest.length < s.num.2.toNat then (⟨s.rest, 10⟩, []) else (⟨s.num.1.rest.drop s.num.2.toNat, 0⟩, s.num.1.rest.take s.num.2.toNat)

/-- The Reader at block b: its slice at ao, of capacity cap, its bytes in D. -/
structure Rd (w : World) (D : Nat → Prop) (b : Nat) (ao : Option Addr) (cap : Nat) (s : RS) : Prop where
  c0 : w.cell? ⟨b, 0, none⟩ = some (.slice ao s.rest.length cap)
  c1 : w.cell? ⟨b, 1, none⟩ = some (.int .i64 s.err)
  f0 : w.frozen? ⟨b, 0, none⟩ = false
  f1 : w.frozen? ⟨b, 1, none⟩ = false
  le : s.rest.length ≤ cap
  max : cap ≤ maxLen
  lies : Lies w w.heap.size ao (s.rest.map bv)
  dat : s.rest ≠ [] → ∀ a, ao = some a → D a.block
  nd : ¬ D b

theorem Rd.lt {w : World} {D : Nat → Prop} {b : Nat} {ao : Option Addr} {cap : Nat} {s : RS} (h : Rd w D b ao cap s) : b < w.heap.size := World.block_lt_of_cell? _ _ h.c0

theorem Rd.ne {w : World} {D : Nat → Prop} {b : Nat} {ao : Option Addr} {cap : Nat} {s : RS} (h : Rd w D b ao cap s) : s.rest ≠ [] → ∀ a, ao = some a → a.block ≠ b := fun hn a ha e => h.nd (e ▸ h.dat hn a ha)

/-- A later slice of what it held, stored. -/
theorem Rd.put {w : World} {D : Nat → Prop} {b : Nat} {ao : Option Addr} {cap : Nat} {s : RS} (h : Rd w D b ao cap s) (k : Nat) (hk : k ≤ s.rest.length) (ao' : Option Addr) (hao : ao' = if cap = k then ao else ao.map (·.add k)) :
    Rd (w.setCell ⟨b, 0, none⟩ (.slice ao' (s.rest.length - k) (cap - k))) D b ao' (cap - k) ⟨s.rest.drop k, s.err⟩ := by
  have hle := h.le
  have hmx := h.max
  have kp : Kept (fun k => k = b) w (w.setCell ⟨b, 0, none⟩ (.slice ao' (s.rest.length - k) (cap - k))) := Kept.setCell (p := ⟨b, 0, none⟩) (Kept.refl (fun k => k = b) w) (fun _ => rfl) _
  have hdt : s.rest.drop k ≠ [] → ∀ a, ao' = some a → D a.block := by
    intro hn a ha
    have hne : s.rest ≠ [] := fun e => hn (by simp [e])
    rw [hao] at ha
    split at ha
    · exact h.dat hne a ha
    · obtain ⟨a', rfl, rfl⟩ := Option.map_eq_some_iff.1 ha
      rw [block_add]
      exact h.dat hne a' rfl
  have hls : Lies w w.heap.size ao' ((s.rest.drop k).map bv) := by
    by_cases hc : cap = k
    · have : s.rest.drop k = [] := List.drop_eq_nil_of_le (by omega)
      rw [this]; exact Lies.nil _ _ _
    · rw [hao, if_neg hc, List.map_drop]
      exact h.lies.drop k
  refine ⟨by rw [World.cell?_setCell_same _ _ _ h.c0]; simp, ?_, ?_, ?_, by simp; omega, by omega, ?_, hdt, h.nd⟩
  · rw [World.cell?_setCell_other _ _ _ _ (by simp)]; exact h.c1
  · rw [World.frozen?_setCell]; exact h.f0
  · rw [World.frozen?_setCell]; exact h.f1
  · exact (hls.kept kp (fun hn a ha e => h.nd (e ▸ hdt (fun e => hn (by rw [e]; rfl)) a ha))).mono kp.size

theorem Rd.fail {w : World} {D : Nat → Prop} {b : Nat} {ao : Option Addr} {cap : Nat} {s : RS} (h : Rd w D b ao cap s) (e : Int) : Rd (w.setCell ⟨b, 1, none⟩ (.int .i64 e)) D b ao cap ⟨s.rest, e⟩ := by
  have kp : Kept (fun k => k = b) w (w.setCell ⟨b, 1, none⟩ (.int .i64 e)) := Kept.setCell (p := ⟨b, 1, none⟩) (Kept.refl (fun k => k = b) w) (fun _ => rfl) _
  refine ⟨?_, World.cell?_setCell_same _ _ _ h.c1, ?_, ?_, h.le, h.max, ?_, h.dat, h.nd⟩
  · rw [World.cell?_setCell_other _ _ _ _ (by simp)]; exact h.c0
  · rw [World.frozen?_setCell]; exact h.f0
  · rw [World.frozen?_setCell]; exact h.f1
  · exact (h.lies.kept kp (fun hn a ha e => h.ne (fun e => hn (by rw [e]; rfl)) a ha e)).mono kp.size

def RdPost (w : World) (D : Nat → Prop) (b : Nat) (v : Value) (s' : RS) (e : Ending) (w' : World) : Prop := e = .returned v ∧ (∃ ao' cap', Rd w' D b ao' cap' s') ∧ Kept (fun k => k = b) w w'

/-- What Num leaves. -/
theorem RS.num_cases (s : RS) : (s.num.1.err ≠ 0 ∧ s.num = (⟨s.rest, s.num.1.err⟩, 0)) ∨ (s.err = 0 ∧ 4 ≤ s.rest.length ∧ ∃ n : Nat, n ≤ 2147483647 ∧ s.num = (⟨s.rest.drop 4, 0⟩, (n : Int))) := by
  unfold RS.num
  by_cases he : s.err = 0
  · by_cases h4 : s.rest.length < 4
    · left; simp [he, h4]
    · by_cases hb : 2147483647 < natB (s.rest.take 4)
      · left; simp [he, h4, hb]
      · right
        refine ⟨he, by omega, natB (s.rest.take 4), by omega, ?_⟩
        simp [he, h4, hb]
  · left; simp [he]

/-- The old slice, stored again. -/
theorem Rd.back {w w1 : World} {D : Nat → Prop} {b : Nat} {ao ao1 : Option Addr} {cap cap1 : Nat} {s s1 : RS} (h : Rd w D b ao cap s) (h1 : Rd w1 D b ao1 cap1 s1) (hk : Kept (fun k => k = b) w w1) :
    Rd (w1.setCell ⟨b, 0, none⟩ (.slice ao s.rest.length cap)) D b ao cap ⟨s.rest, s1.err⟩ := by
  have kp : Kept (fun k => k = b) w (w1.setCell ⟨b, 0, none⟩ (.slice ao s.rest.length cap)) := Kept.setCell (p := ⟨b, 0, none⟩) hk (fun _ => rfl) _
  refine ⟨World.cell?_setCell_same _ _ _ h1.c0, ?_, ?_, ?_, h.le, h.max, ?_, h.dat, h.nd⟩
  · rw [World.cell?_setCell_other _ _ _ _ (by simp)]; exact h1.c1
  · rw [World.frozen?_setCell]; exact h1.f0
  · rw [World.frozen?_setCell]; exact h1.f1
  · exact (h.lies.kept kp (fun hn a ha e => h.ne (fun e => hn (by rw [e]; rfl)) a ha e)).mono kp.size

/-- Texts: the number of texts, then each of them; nothing is consumed where one fails. -/
def RS.many : Nat → RS → RS × List (List UInt8)
  | 0, s => (s, [])
  | n + 1, s => if s.err ≠ 0 then (s, []) else ((RS.many n s.text.1).1, s.text.2 :: (RS.many n s.text.1).2)
def RS.tooMany (s1 : RS) (n : Int) : Bool := decide (s1.err = 0 ∧ (1000000 < n ∨ (s1.rest.length : Int) < n))
def RS.head (s : RS) : RS := if s.num.1.tooMany s.num.2 then ⟨s.num.1.rest, 10⟩ else s.num.1
def RS.texts (s : RS) : RS × List (List UInt8) :=
  if (RS.many s.num.2.toNat s.head).1.err ≠ 0 then (⟨s.rest, (RS.many s.num.2.toNat s.head).1.err⟩, []) else RS.many s.num.2.toNat s.head

def RS.endE (s : RS) : Int := if s.err = 0 ∧ s.rest ≠ [] then 11 else s.err

theorem RS.many_end (n : Nat) (s : RS) (h : n = 0 ∨ s.err ≠ 0) : RS.many n s = (s, []) := by
  cases n with
  | zero => rfl
  | succ n =>
    rcases h with h | h
    · cases h
    · simp [RS.many, h]


/-- What Texts leaves. -/
def RtPost (w : World) (D : Nat → Prop) (b : Nat) (l : List (List UInt8)) (s' : RS) (e : Ending) (w' : World) : Prop :=
  (∃ ao cap, e = .returned (.slice ao l.length cap) ∧ w'.ownsRow w.heap.size 9 1 (.slice ao l.length cap) l.length (strs l)) ∧ (∃ ao' cap', Rd w' D b ao' cap' s') ∧ Kept (fun k => k = b) w w'

theorem Rd.kept {S : Nat → Prop} {w w' : World} {D : Nat → Prop} {b : Nat} {ao : Option Addr} {cap : Nat} {s : RS} (h : Rd w D b ao cap s) (hk : Kept S w w') (hb : ¬ S b) (hn : ∀ k, k < w.heap.size → D k → ¬ S k) : Rd w' D b ao cap s := by
  have hlt := h.lt
  refine ⟨(hk.cell (p := ⟨b, 0, none⟩) hlt hb).trans h.c0, (hk.cell (p := ⟨b, 1, none⟩) hlt hb).trans h.c1, (hk.frozen (p := ⟨b, 0, none⟩) hlt hb).trans h.f0, (hk.frozen (p := ⟨b, 1, none⟩) hlt hb).trans h.f1, h.le, h.max, ?_, h.dat, h.nd⟩
  refine (h.lies.kept hk (fun hne a ha => ?_)).mono hk.size
  obtain ⟨b', o', e, hl, _⟩ := h.lies hne
  have hd := h.dat (by simpa using hne) a ha
  rw [e] at ha; cases ha
  exact hn _ hl hd

end Go.Proofs.YtlnincdmdegaoaaGreat
