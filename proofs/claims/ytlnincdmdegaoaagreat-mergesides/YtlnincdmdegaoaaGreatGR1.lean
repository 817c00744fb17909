/-
  Lemmas towards the claim of this folder: contracts of the functions that the law reaches; joined texts.
-/
import Derived.Test.YtlnincdmdegaoaaGreatGMa
import Derived.Test.YtlnincdmdegaoaaGreatRows
import Derived.Test.YtlnincdmdegaoaaGreatMk
import Derived.Test.YtlnincdmdegaoaaGreatGRd
/-
  CONTRACTS of the reference of layer 1: what encodings are.
-/
namespace Go.Proofs.YtlnincdmdegaoaaGreat
open Go.RowKit Go.Mk

theorem asU64_lt (n : Int) : asU64 n < 18446744073709551616 := by
  unfold asU64
  rw [IntKind.wrap_u64]
  omega

/-- The encoding of a text, of a list of texts. -/
def encT (t : List UInt8) : List UInt8 := bigB 4 t.length ++ t
def encL (l : List (List UInt8)) : List UInt8 := bigB 4 l.length ++ (l.map encT).flatten

/-- The list's encoding up to its first j texts. -/
def encTo (l : List (List UInt8)) (n j : Nat) : List UInt8 := bigB 4 n ++ ((l.take j).map encT).flatten

theorem encT_len (t : List UInt8) : (encT t).length = 4 + t.length := by simp [encT, bigB_length]

theorem flat_len (l : List (List UInt8)) : ((l.map encT).flatten).length = sumL l := by
  induction l with
  | nil => rfl
  | cons t l ih => simp [sumL, encT_len] at *; omega
theorem encL_len (l : List (List UInt8)) : (encL l).length = 4 + sumL l := by simp only [encL, List.length_append, bigB_length, flat_len]

end Go.Proofs.YtlnincdmdegaoaaGreat

/-
  The fields that a law of layer 1 is given, as they lie in memory; 'small', 'awake'.
-/
namespace Go.Proofs.YtlnincdmdegaoaaGreat
open Go.RowKit Go.Mk

/-- A Field, as it is read. -/
structure FD where
  kind : Int
  n : Int
  s : ByteArray
  la : Option Addr
  lc : Nat
  ls : List ByteArray

/-- The fields lie behind fa, below block B. -/
structure Flds (w : World) (B : Nat) (fa : Option Addr) (fs : List FD) : Prop where
  at_ : fs ≠ [] → ∃ b off, fa = some ⟨b, off, none⟩ ∧ b < B ∧ ∀ j (h : j < fs.length), w.cell? ⟨b, off + j * 4, none⟩ = some (.int .i64 fs[j].kind) ∧ w.cell? ⟨b, off + j * 4 + 1, none⟩ = some (.int .i64 fs[j].n) ∧
    w.cell? ⟨b, off + j * 4 + 2, none⟩ = some (.string fs[j].s) ∧ w.cell? ⟨b, off + j * 4 + 3, none⟩ = some (.slice fs[j].la fs[j].ls.length fs[j].lc)
  strs : ∀ f ∈ fs, Lies w B f.la (f.ls.map .string)
  len : fs.length ≤ maxLen
  lens : ∀ f ∈ fs, f.ls.length ≤ maxLen ∧ f.s.size ≤ maxLen ∧ ∀ t ∈ f.ls, t.size ≤ maxLen
  rng : ∀ f ∈ fs, -9223372036854775808 ≤ f.n ∧ f.n ≤ 9223372036854775807

theorem Flds.below {w w' : World} {B : Nat} {fa : Option Addr} {fs : List FD} (h : Flds w B fa fs) (hb : Below B w w') : Flds w' B fa fs := by
  refine ⟨fun hn => ?_, fun f hf => (h.strs f hf).below hb, h.len, h.lens, h.rng⟩
  obtain ⟨b, off, e, hl, hc⟩ := h.at_ hn
  refine ⟨b, off, e, hl, fun j hj => ?_⟩
  obtain ⟨h1, h2, h3, h4⟩ := hc j hj
  exact ⟨(hb.cell (p := ⟨b, _, none⟩) hl).trans h1, (hb.cell (p := ⟨b, _, none⟩) hl).trans h2, (hb.cell (p := ⟨b, _, none⟩) hl).trans h3, (hb.cell (p := ⟨b, _, none⟩) hl).trans h4⟩

def FD.small (f : FD) : Bool := decide (f.s.size ≤ 200) && (decide (f.ls.length ≤ 20) && f.ls.all (fun t => decide (t.size ≤ 100)))
def smallB (fs : List FD) : Bool := decide (fs.length ≤ 20) && fs.all FD.small

theorem smallB_no {fs : List FD} {j : Nat} (hj : j < fs.length) (h : fs[j].small = false) : smallB fs = false := by
  have : fs.all FD.small = false := by
    rw [List.all_eq_false]
    exact ⟨fs[j], List.getElem_mem hj, by simp [h]⟩
  simp [smallB, this]

/-- A new Writer. -/
theorem WrF.new (w : World) (F : Nat → Prop) (hF : ∀ k, w.heap.size ≤ k → F k) (e : TypeId) : WrF (w.alloc (.cells #[.slice none 0 0, .int .i64 0] e)) F w.heap.size ⟨[], 0⟩ :=
  ⟨hF _ (Nat.le_refl _), none, 0, ⟨by simp, by simp, by simp, by simp, World.ownsRow_nil _ _ _ _, by simp [Value.ownBlock]⟩, by simp [Value.ownBlock]⟩

end Go.Proofs.YtlnincdmdegaoaaGreat

/-
  CONTRACT of the reference of layer 1: Rest.
-/
namespace Go.Proofs.YtlnincdmdegaoaaGreat
open Go.RowKit Go.Mk

theorem tmod_bd (a : Int) (n : Nat) (h1 : 1 ≤ n) : -(n : Int) < a.tmod n ∧ a.tmod n < n := by
  refine ⟨?_, Int.tmod_lt_of_pos _ (by omega)⟩
  rcases Int.le_total 0 a with h | h
  · have := Int.tmod_nonneg (n : Int) h
    omega
  · have h3 := Int.tmod_lt_of_pos (-a) (show (0 : Int) < n by omega)
    rw [Int.neg_tmod] at h3
    omega
theorem rest_nn (a : Int) (n : Nat) (h1 : 1 ≤ n) (h2 : n ≤ 2147483647) : 0 ≤ (wrap64 (a.tmod n + n)).tmod n ∧ (wrap64 (a.tmod n + n)).tmod n < n := by
  have h := tmod_bd a n h1
  have e : wrap64 (a.tmod n + n) = a.tmod n + n := by unfold wrap64; omega
  rw [e]
  exact ⟨Int.tmod_nonneg _ (by omega), Int.tmod_lt_of_pos _ (by omega)⟩
theorem rest_eq (a : Int) (n : Nat) (h1 : 1 ≤ n) (h2 : n ≤ 2147483647) : (wrap64 (a.tmod n + n)).tmod n = (((wrap64 (a.tmod n + n)).tmod n).toNat : Int) := by
  have := rest_nn a n h1 h2
  omega
theorem rest_lt (a : Int) (n : Nat) (h1 : 1 ≤ n) (h2 : n ≤ 2147483647) : ((wrap64 (a.tmod n + n)).tmod n).toNat < n := by
  have := rest_nn a n h1 h2
  omega

end Go.Proofs.YtlnincdmdegaoaaGreat

/-
  CONTRACT of the Reader's Texts.
-/
namespace Go.Proofs.YtlnincdmdegaoaaGreat
open Go.RowKit Go.Mk

end Go.Proofs.YtlnincdmdegaoaaGreat

/-
  WHAT IS WRITTEN IS READ BACK: plain facts on the encodings.
-/
namespace Go.Proofs.YtlnincdmdegaoaaGreat
open Go.RowKit Go.Mk

theorem natB_fold (k u n : Nat) : (bigB k u).foldl (fun n x => n * 256 + x.toNat) n = n * 256 ^ k + u % 256 ^ k := by
  induction k generalizing n with
  | zero => simp [bigB, Nat.mod_one]
  | succ k ih =>
    rw [bigB, List.foldl_cons, ih]
    have h1 : (UInt8.ofNat (u / 256 ^ k)).toNat = u / 256 ^ k % 256 := by simp
    rw [h1, Nat.pow_succ, Nat.mod_mul, Nat.add_mul, Nat.mul_assoc, Nat.mul_comm 256 (256 ^ k), Nat.add_assoc]
    congr 1
    rw [Nat.mul_comm (u / 256 ^ k % 256), Nat.add_comm]
theorem natB_bigB (k u : Nat) : natB (bigB k u) = u % 256 ^ k := by
  unfold natB
  rw [natB_fold]; simp

theorem take_big (k u : Nat) (t : List UInt8) : (bigB k u ++ t).take k = bigB k u ∧ (bigB k u ++ t).drop k = t := by
  have := bigB_length k u
  exact ⟨List.take_left' this, List.drop_left' this⟩

theorem read_num (n : Nat) (t : List UInt8) (h : n ≤ 2147483647) : (⟨bigB 4 n ++ t, 0⟩ : RS).num = (⟨t, 0⟩, (n : Int)) := by
  obtain ⟨e1, e2⟩ := take_big 4 n t
  have e3 : natB (bigB 4 n) = n := by rw [natB_bigB]; exact Nat.mod_eq_of_lt (by omega)
  unfold RS.num
  have hl : ¬ (bigB 4 n ++ t).length < 4 := by simp [bigB_length]
  have hb : ¬ 2147483647 < n := by omega
  simp only [e1, e2, e3, hl, hb, ne_eq, not_true_eq_false, if_false]

theorem asU64_back (n : Int) (h1 : -9223372036854775808 ≤ n) (h2 : n ≤ 9223372036854775807) : wrap64 (asU64 n : Int) = n := by
  have : (asU64 n : Int) = n % 18446744073709551616 := by
    rw [← asU64_eq, IntKind.wrap_u64]
  rw [this]
  unfold wrap64
  omega

theorem read_int (n : Int) (t : List UInt8) (h1 : -9223372036854775808 ≤ n) (h2 : n ≤ 9223372036854775807) : (⟨bigB 8 (asU64 n) ++ t, 0⟩ : RS).int = (⟨t, 0⟩, n) := by
  obtain ⟨e1, e2⟩ := take_big 8 (asU64 n) t
  have e3 : natB (bigB 8 (asU64 n)) = asU64 n := by
    rw [natB_bigB]; exact Nat.mod_eq_of_lt (asU64_lt n)
  unfold RS.int
  have hl : ¬ (bigB 8 (asU64 n) ++ t).length < 8 := by simp [bigB_length]
  simp only [e1, e2, e3, hl, ne_eq, not_true_eq_false, if_false, asU64_back n h1 h2]

theorem read_text (x t : List UInt8) (h : x.length ≤ 2147483647) : (⟨encT x ++ t, 0⟩ : RS).text = (⟨t, 0⟩, x) := by
  have e : (⟨encT x ++ t, 0⟩ : RS).num = (⟨x ++ t, 0⟩, (x.length : Int)) := by
    rw [encT, List.append_assoc]
    exact read_num _ _ h
  have hl : ¬ (x ++ t).length < x.length := by simp
  unfold RS.text
  simp only [e, Int.toNat_natCast, hl, ne_eq, not_true_eq_false, if_false, List.take_left', List.drop_left']

theorem read_many (l : List (List UInt8)) (t : List UInt8) (h : ∀ x ∈ l, x.length ≤ 2147483647) : RS.many l.length ⟨(l.map encT).flatten ++ t, 0⟩ = (⟨t, 0⟩, l) := by
  induction l with
  | nil => rfl
  | cons x l ih =>
    have e := read_text x ((l.map encT).flatten ++ t) (h x List.mem_cons_self)
    have e2 := ih (fun y hy => h y (List.mem_cons_of_mem _ hy))
    simp only [List.map_cons, List.flatten_cons, List.append_assoc, List.length_cons, RS.many, e, e2, ne_eq, not_true_eq_false, if_false]

theorem read_texts (l : List (List UInt8)) (t : List UInt8) (hl : l.length ≤ 1000000) (h : ∀ x ∈ l, x.length ≤ 2147483647) : (⟨encL l ++ t, 0⟩ : RS).texts = (⟨t, 0⟩, l) := by
  have e : (⟨encL l ++ t, 0⟩ : RS).num = (⟨(l.map encT).flatten ++ t, 0⟩, (l.length : Int)) := by
    rw [encL, List.append_assoc]
    exact read_num _ _ (by omega)
  have hs : l.length ≤ sumL l := by
    clear e hl h
    induction l with
    | nil => simp
    | cons x l ih => simp [sumL] at *; omega
  have ht : (⟨encL l ++ t, 0⟩ : RS).head = ⟨(l.map encT).flatten ++ t, 0⟩ := by
    unfold RS.head RS.tooMany
    rw [e]
    have : ¬ (1000000 < (l.length : Int) ∨ ((((l.map encT).flatten ++ t).length : Nat) : Int) < (l.length : Int)) := by
      simp only [List.length_append, flat_len]; omega
    simp only [this, and_false, decide_false, Bool.false_eq_true, if_false]
  unfold RS.texts
  rw [ht, e, Int.toNat_natCast, read_many l t h]
  simp

end Go.Proofs.YtlnincdmdegaoaaGreat
