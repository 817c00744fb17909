/-
  Lemmas towards the claim of this folder: contracts of the functions that the law reaches; joined texts.
-/
import Derived.Test.YtofpnlmlenffnaaDoorGPz9
import Derived.Test.YtofpnlmlenffnaaDoorRows
import Derived.Test.YtofpnlmlenffnaaDoorMk
/-
  CONTRACTS of package octet's Writer.
-/
namespace Go.Proofs.YtofpnlmlenffnaaDoor
open Go.RowKit Go.Mk


/-- The k lowest bytes of a number, the most significant one first. -/
def bigB : Nat → Nat → List UInt8
  | 0, _ => []
  | k + 1, u => UInt8.ofNat (u / 256 ^ k) :: bigB k u

theorem bigB_length (k u : Nat) : (bigB k u).length = k := by induction k with
  | zero => rfl
  | succ k ih => simp [bigB, ih]

theorem big_byte (u q : Nat) : Value.int .u8 ((u : Int) / 2 ^ (8 * (q + 1) - 8) % 256) = bv (UInt8.ofNat (u / 256 ^ q)) := by
  have e : 8 * (q + 1) - 8 = 8 * q := by omega
  have e2 : (2 : Nat) ^ (8 * q) = 256 ^ q := by rw [Nat.pow_mul]
  have e3 : ((2 : Int) ^ (8 * q)) = ((256 ^ q : Nat) : Int) := by rw [← e2]; norm_cast
  rw [e, e3]
  simp only [bv, UInt8.toNat_ofNat']
  congr 1

/-- An int as a uint64. -/
def asU64 (n : Int) : Nat := (IntKind.u64.wrap n).toNat
theorem asU64_eq (n : Int) : IntKind.u64.wrap n = (asU64 n : Int) := by
  unfold asU64
  rw [IntKind.wrap_u64]
  omega

/-- What a Writer holds: what has been written, and its error. -/
structure WS where
  out : List UInt8
  err : Int

def WS.num (s : WS) (n : Int) : WS := if s.err ≠ 0 then s else if n < 0 ∨ 2147483647 < n then ⟨s.out, 2⟩ else ⟨s.out ++ bigB 4 n.toNat, 0⟩
def WS.int (s : WS) (n : Int) : WS := if s.err ≠ 0 then s else ⟨s.out ++ bigB 8 (asU64 n), 0⟩
def WS.text (s : WS) (t : List UInt8) : WS := if (s.num t.length).err ≠ 0 then s.num t.length else ⟨(s.num t.length).out ++ t, 0⟩
def WS.texts (s : WS) (l : List (List UInt8)) : WS := l.foldl WS.text (s.num l.length)

/-- The Writer at block b: its slice at ao, of capacity cap. -/
structure Wr (w : World) (b : Nat) (ao : Option Addr) (cap : Nat) (s : WS) : Prop where
  c0 : w.cell? ⟨b, 0, none⟩ = some (.slice ao s.out.length cap)
  c1 : w.cell? ⟨b, 1, none⟩ = some (.int .i64 s.err)
  f0 : w.frozen? ⟨b, 0, none⟩ = false
  f1 : w.frozen? ⟨b, 1, none⟩ = false
  own : w.ownsRow 0 5 1 (.slice ao s.out.length cap) s.out.length (s.out.map bv)
  ne : (Value.slice ao s.out.length cap).ownBlock ≠ some b

/-- What a call on a Writer turns: its own block, its row. -/
structure WStep (w w' : World) (b : Nat) (ao ao' : Option Addr) : Prop where
  kept : Kept (fun k => k = b ∨ (Value.slice ao 0 0).ownBlock = some k) w w'
  row : (Value.slice ao' 0 0).ownBlock = (Value.slice ao 0 0).ownBlock ∨ ∃ k, (Value.slice ao' 0 0).ownBlock = some k ∧ w.heap.size ≤ k

theorem own_any (ao : Option Addr) (n c : Nat) : (Value.slice ao n c).ownBlock = (Value.slice ao 0 0).ownBlock := by cases ao <;> rfl

theorem WStep.refl (w : World) (b : Nat) (ao : Option Addr) : WStep w w b ao ao := ⟨Kept.refl _ _, .inl rfl⟩

theorem WStep.trans {w w1 w2 : World} {b : Nat} {ao ao1 ao2 : Option Addr} (h : WStep w w1 b ao ao1) (k : WStep w1 w2 b ao1 ao2) : WStep w w2 b ao ao2 := by
  refine ⟨h.kept.trans k.kept fun i hi hs => ?_, ?_⟩
  · rcases hs with hs | hs
    · exact .inl hs
    · rcases h.row with hr | ⟨j, hr, hj⟩
      · exact .inr (by rw [← hr]; exact hs)
      · rw [hr] at hs; cases hs; omega
  · have hsz := h.kept.size
    rcases k.row with kr | ⟨j, kr, hj⟩
    · rw [kr]; exact h.row
    · exact .inr ⟨j, kr, by omega⟩

def WrPost (w : World) (b : Nat) (ao : Option Addr) (s' : WS) (e : Ending) (w' : World) : Prop := e = .returned (.tuple #[]) ∧ ∃ ao' cap', Wr w' b ao' cap' s' ∧ WStep w w' b ao ao'

theorem Wr.lt {w : World} {b : Nat} {ao : Option Addr} {cap : Nat} {s : WS} (h : Wr w b ao cap s) : b < w.heap.size := World.block_lt_of_cell? _ _ h.c0

/-- Behind a call that has grown the row: the new slice is stored. -/
theorem Wr.stored {w w1 : World} {b : Nat} {ao ao' : Option Addr} {cap cap' : Nat} {s s' : WS} (h : Wr w b ao cap s) (he : s'.err = s.err) (hg : w.grownBy w1 (Value.slice ao s.out.length cap).ownBlock)
    (ho : w1.ownsRow 0 5 1 (.slice ao' s'.out.length cap') s'.out.length (s'.out.map bv)) (hr : (Value.slice ao' s'.out.length cap').ownBlock = (Value.slice ao s.out.length cap).ownBlock ∨ ∃ k, (Value.slice ao' s'.out.length cap').ownBlock = some k ∧ w.heap.size ≤ k) :
    Wr (w1.setCell ⟨b, 0, none⟩ (.slice ao' s'.out.length cap')) b ao' cap' s' ∧ WStep w (w1.setCell ⟨b, 0, none⟩ (.slice ao' s'.out.length cap')) b ao ao' := by
  have hb := h.lt
  have hne : (Value.slice ao' s'.out.length cap').ownBlock ≠ some b := by
    rcases hr with hr | ⟨k, hr, hk⟩
    · rw [hr]; exact h.ne
    · rw [hr]; simp; omega
  have k1 : w1.cell? ⟨b, 1, none⟩ = some (.int .i64 s.err) := hg.cell h.c1 (Ne.symm h.ne)
  have k0 : w1.cell? ⟨b, 0, none⟩ = _ := hg.cell h.c0 (Ne.symm h.ne)
  have hblk := hg.block b hb (Ne.symm h.ne)
  refine ⟨⟨World.cell?_setCell_same _ _ _ k0, ?_, ?_, ?_, ?_, hne⟩, ?_, ?_⟩
  · rw [World.cell?_setCell_other _ _ _ _ (by simp), k1, he]
  · rw [World.frozen?_setCell, World.frozen?_of_block (a := ⟨b, 0, none⟩) hblk]; exact h.f0
  · rw [World.frozen?_setCell, World.frozen?_of_block (a := ⟨b, 1, none⟩) hblk]; exact h.f1
  · refine owns_kept (S := fun k => k = b) ho (Kept.setCell (p := ⟨b, 0, none⟩) (Kept.refl (fun k => k = b) w1) (fun _ => rfl) _) (fun k hk e => hne (by rw [hk, e]))
  · refine Kept.setCell (Kept.grown (Kept.refl _ _) hg (fun k hk _ => .inr (by rw [← own_any ao s.out.length cap]; exact hk))) (fun _ => .inl rfl) _
  · rw [← own_any ao' s'.out.length cap', ← own_any ao s.out.length cap]; exact hr

theorem WS.num_err (s : WS) (n : Int) (h : s.err ≠ 0) : s.num n = s := by simp [WS.num, h]
theorem WS.num_ok (s : WS) (n : Nat) (h : s.err = 0) (hn : n ≤ 2147483647) : s.num n = ⟨s.out ++ bigB 4 n, 0⟩ := by
  have : ¬ ((n : Int) < 0 ∨ 2147483647 < (n : Int)) := by omega
  simp [WS.num, h, this]
theorem WS.num_len (s : WS) (n : Int) : (s.num n).out.length ≤ s.out.length + 4 := by
  unfold WS.num; split <;> (try split) <;> simp [bigB_length]
theorem WS.text_len (s : WS) (t : List UInt8) : (s.text t).out.length ≤ s.out.length + 4 + t.length := by
  have := s.num_len t.length
  unfold WS.text; split <;> simp <;> omega

/-- A Writer that lies in F, with its row. -/
structure WrF (w : World) (F : Nat → Prop) (b : Nat) (s : WS) : Prop where
  lo : F b
  wr : ∃ ao cap, Wr w b ao cap s ∧ ∀ k, (Value.slice ao 0 0).ownBlock = some k → F k

theorem WrF.of_step {w w' : World} {F : Nat → Prop} {b : Nat} {ao ao' : Option Addr} {cap' : Nat} {s' : WS} (hF : ∀ k, w.heap.size ≤ k → F k) (hlo : F b) (hr : ∀ k, (Value.slice ao 0 0).ownBlock = some k → F k) (h' : Wr w' b ao' cap' s') (st : WStep w w' b ao ao') :
    WrF w' F b s' ∧ Kept F w w' := by
  refine ⟨⟨hlo, ao', cap', h', fun k hk => ?_⟩, st.kept.mono (fun k _ hk => ?_)⟩
  · rcases st.row with e | ⟨j, e, hj⟩
    · rw [e] at hk; exact hr k hk
    · rw [e] at hk; cases hk; exact hF _ hj
  · rcases hk with rfl | hk
    · exact hlo
    · exact hr k hk

def WrFPost (w : World) (F : Nat → Prop) (b : Nat) (s' : WS) (e : Ending) (w' : World) : Prop := e = .returned (.tuple #[]) ∧ WrF w' F b s' ∧ Kept F w w'

/-- The lists of bytes of strings. -/
def strL (ss : List ByteArray) : List (List UInt8) := ss.map (·.data.toList)

def sumL (l : List (List UInt8)) : Nat := (l.map (fun t => 4 + t.length)).sum

theorem WS.texts_take (s : WS) (l : List (List UInt8)) (n : Nat) : ((l.foldl WS.text (s.num n))).out.length ≤ s.out.length + 4 + sumL l := by
  have : ∀ (l : List (List UInt8)) (s : WS), (l.foldl WS.text s).out.length ≤ s.out.length + sumL l := by
    intro l
    induction l with
    | nil => intro s; simp
    | cons t l ih =>
      intro s
      have h1 := ih (s.text t)
      have h2 := s.text_len t
      simp only [List.foldl_cons, sumL, List.map_cons, List.sum_cons] at *
      omega
  have h1 := this l (s.num n)
  have h2 := s.num_len n
  omega

theorem sumL_take (l : List (List UInt8)) (j : Nat) : sumL (l.take j) ≤ sumL l := by
  induction l generalizing j with
  | nil => simp
  | cons t l ih => cases j with
    | zero => simp [sumL]
    | succ j => have := ih j; simp [sumL] at *; omega

/-- Behind a call that keeps all that was there. -/
theorem WrF.kept {w w' : World} {F : Nat → Prop} {b : Nat} {s : WS} (h : WrF w F b s) (hb : Below w.heap.size w w') : WrF w' F b s := by
  obtain ⟨hlo, ao, cap, hw, hr⟩ := h
  have hlt := hw.lt
  refine ⟨hlo, ao, cap, ⟨(hb.cell (p := ⟨b, 0, none⟩) hlt).trans hw.c0, (hb.cell (p := ⟨b, 1, none⟩) hlt).trans hw.c1, (hb.frozen (p := ⟨b, 0, none⟩) hlt).trans hw.f0, (hb.frozen (p := ⟨b, 1, none⟩) hlt).trans hw.f1, ?_, hw.ne⟩, hr⟩
  exact owns_kept hw.own (Kept.of_below hb) (fun k hk => by have := owns_lt hw.own k hk; omega)

/-- The same Writer, looked at in another set. -/
theorem WrF.in {w : World} {F F' : Nat → Prop} {b : Nat} {s : WS} (h : WrF w F b s) (hs : ∀ k, k < w.heap.size → F k → F' k) : WrF w F' b s := by
  obtain ⟨hlo, ao, cap, hw, hr⟩ := h
  exact ⟨hs _ hw.lt hlo, ao, cap, hw, fun k hk => hs k (owns_lt hw.own k (by rw [own_any]; exact hk)).2 (hr k hk)⟩

end Go.Proofs.YtofpnlmlenffnaaDoor

/-
  Rows of strings.
-/
namespace Go.Proofs.YtofpnlmlenffnaaDoor
open Go.RowKit Go.Mk

theorem Tryd.infoStr : (Tryd.prog.info? 9).map (fun i => (i.zero, i.size, i.bytes)) = some (some (.string ⟨#[]⟩), 1, 16) := by kernel_rfl

def strs (l : List (List UInt8)) : List Value := l.map (fun t => .string (bs t))

theorem strs_one (l : List (List UInt8)) : ∀ u ∈ strs l, u.oneCell' = true := by
  intro u hu
  obtain ⟨_, _, rfl⟩ := List.mem_map.1 hu
  rfl

theorem strs_len (l : List (List UInt8)) : (strs l).length = l.length := by simp [strs]
theorem strs_app (l m : List (List UInt8)) : strs (l ++ m) = strs l ++ strs m := by simp [strs]

end Go.Proofs.YtofpnlmlenffnaaDoor
