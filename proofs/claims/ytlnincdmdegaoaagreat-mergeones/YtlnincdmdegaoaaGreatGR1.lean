/-
  Lemmas towards the claim of this folder: contracts of the functions that the law reaches; joined texts.
-/
import Derived.Test.YtlnincdmdegaoaaGreatGWr
import Derived.Test.YtlnincdmdegaoaaGreatRows
import Derived.Test.YtlnincdmdegaoaaGreatMk
/-
  CONTRACTS of the reference of layer 1: what encodings are.
-/
namespace Go.Proofs.YtlnincdmdegaoaaGreat
open Go.RowKit Go.Mk

theorem asU64_lt (n : Int) : asU64 n < 18446744073709551616 := by
  unfold asU64
  rw [IntKind.wrap_u64]
  omega

/-- The encoding of a text, of a list of texts. -/
def encT (t : List UInt8) : List UInt8 := bigB 4 t.length ++ t
def encL (l : List (List UInt8)) : List UInt8 := bigB 4 l.length ++ (l.map encT).flatten

/-- The list's encoding up to its first j texts. -/
def encTo (l : List (List UInt8)) (n j : Nat) : List UInt8 := bigB 4 n ++ ((l.take j).map encT).flatten

theorem encT_len (t : List UInt8) : (encT t).length = 4 + t.length := by simp [encT, bigB_length]

theorem flat_len (l : List (List UInt8)) : ((l.map encT).flatten).length = sumL l := by
  induction l with
  | nil => rfl
  | cons t l ih => simp [sumL, encT_len] at *; omega
theorem encL_len (l : List (List UInt8)) : (encL l).length = 4 + sumL l := by simp only [encL, List.length_append, bigB_length, flat_len]

end Go.Proofs.YtlnincdmdegaoaaGreat

/-
  The fields that a law of layer 1 is given, as they lie in memory; 'small', 'awake'.
-/
namespace Go.Proofs.YtlnincdmdegaoaaGreat
open Go.RowKit Go.Mk

/-- A Field, as it is read. -/
structure FD where
  kind : Int
  n : Int
  s : ByteArray
  la : Option Addr
  lc : Nat
  ls : List ByteArray

/-- The fields lie behind fa, below block B. -/
structure Flds (w : World) (B : Nat) (fa : Option Addr) (fs : List FD) : Prop where
  at_ : fs ≠ [] → ∃ b off, fa = some ⟨b, off, none⟩ ∧ b < B ∧ ∀ j (h : j < fs.length), w.cell? ⟨b, off + j * 4, none⟩ = some (.int .i64 fs[j].kind) ∧ w.cell? ⟨b, off + j * 4 + 1, none⟩ = some (.int .i64 fs[j].n) ∧
    w.cell? ⟨b, off + j * 4 + 2, none⟩ = some (.string fs[j].s) ∧ w.cell? ⟨b, off + j * 4 + 3, none⟩ = some (.slice fs[j].la fs[j].ls.length fs[j].lc)
  strs : ∀ f ∈ fs, Lies w B f.la (f.ls.map .string)
  len : fs.length ≤ maxLen
  lens : ∀ f ∈ fs, f.ls.length ≤ maxLen ∧ f.s.size ≤ maxLen ∧ ∀ t ∈ f.ls, t.size ≤ maxLen
  rng : ∀ f ∈ fs, -9223372036854775808 ≤ f.n ∧ f.n ≤ 9223372036854775807

theorem Flds.below {w w' : World} {B : Nat} {fa : Option Addr} {fs : List FD} (h : Flds w B fa fs) (hb : Below B w w') : Flds w' B fa fs := by
  refine ⟨fun hn => ?_, fun f hf => (h.strs f hf).below hb, h.len, h.lens, h.rng⟩
  obtain ⟨b, off, e, hl, hc⟩ := h.at_ hn
  refine ⟨b, off, e, hl, fun j hj => ?_⟩
  obtain ⟨h1, h2, h3, h4⟩ := hc j hj
  exact ⟨(hb.cell (p := ⟨b, _, none⟩) hl).trans h1, (hb.cell (p := ⟨b, _, none⟩) hl).trans h2, (hb.cell (p := ⟨b, _, none⟩) hl).trans h3, (hb.cell (p := ⟨b, _, none⟩) hl).trans h4⟩

def FD.small (f : FD) : Bool := decide (f.s.size ≤ 200) && (decide (f.ls.length ≤ 20) && f.ls.all (fun t => decide (t.size ≤ 100)))
def smallB (fs : List FD) : Bool := decide (fs.length ≤ 20) && fs.all FD.small

theorem smallB_no {fs : List FD} {j : Nat} (hj : j < fs.length) (h : fs[j].small = false) : smallB fs = false := by
  have : fs.all FD.small = false := by
    rw [List.all_eq_false]
    exact ⟨fs[j], List.getElem_mem hj, by simp [h]⟩
  simp [smallB, this]

/-- A new Writer. -/
theorem WrF.new (w : World) (F : Nat → Prop) (hF : ∀ k, w.heap.size ≤ k → F k) (e : TypeId) : WrF (w.alloc (.cells #[.slice none 0 0, .int .i64 0] e)) F w.heap.size ⟨[], 0⟩ :=
  ⟨hF _ (Nat.le_refl _), none, 0, ⟨by simp, by simp, by simp, by simp, World.ownsRow_nil _ _ _ _, by simp [Value.ownBlock]⟩, by simp [Value.ownBlock]⟩

end Go.Proofs.YtlnincdmdegaoaaGreat

/-
  CONTRACT of the reference of layer 1: Rest.
-/
namespace Go.Proofs.YtlnincdmdegaoaaGreat
open Go.RowKit Go.Mk

theorem tmod_bd (a : Int) (n : Nat) (h1 : 1 ≤ n) : -(n : Int) < a.tmod n ∧ a.tmod n < n := by
  refine ⟨?_, Int.tmod_lt_of_pos _ (by omega)⟩
  rcases Int.le_total 0 a with h | h
  · have := Int.tmod_nonneg (n : Int) h
    omega
  · have h3 := Int.tmod_lt_of_pos (-a) (show (0 : Int) < n by omega)
    rw [Int.neg_tmod] at h3
    omega
theorem rest_nn (a : Int) (n : Nat) (h1 : 1 ≤ n) (h2 : n ≤ 2147483647) : 0 ≤ (wrap64 (a.tmod n + n)).tmod n ∧ (wrap64 (a.tmod n + n)).tmod n < n := by
  have h := tmod_bd a n h1
  have e : wrap64 (a.tmod n + n) = a.tmod n + n := by unfold wrap64; omega
  rw [e]
  exact ⟨Int.tmod_nonneg _ (by omega), Int.tmod_lt_of_pos _ (by omega)⟩
theorem rest_eq (a : Int) (n : Nat) (h1 : 1 ≤ n) (h2 : n ≤ 2147483647) : (wrap64 (a.tmod n + n)).tmod n = (((wrap64 (a.tmod n + n)).tmod n).toNat : Int) := by
  have := rest_nn a n h1 h2
  omega
theorem rest_lt (a : Int) (n : Nat) (h1 : 1 ≤ n) (h2 : n ≤ 2147483647) : ((wrap64 (a.tmod n + n)).tmod n).toNat < n := by
  have := rest_nn a n h1 h2
  omega

end Go.Proofs.YtlnincdmdegaoaaGreat

/-
  CONTRACT of the Reader's Texts.
-/
namespace Go.Proofs.YtlnincdmdegaoaaGreat
open Go.RowKit Go.Mk

end Go.Proofs.YtlnincdmdegaoaaGreat
