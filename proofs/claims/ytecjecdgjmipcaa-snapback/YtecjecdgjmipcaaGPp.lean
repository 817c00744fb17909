/-
  Lemmas towards the claim of this folder: contracts of the functions that the law reaches; joined texts.
-/
import Derived.Test.YtecjecdgjmipcaaSr
import Derived.Test.YtecjecdgjmipcaaPr
import Derived.Test.YtecjecdgjmipcaaPo
import Derived.Test.YtecjecdgjmipcaaGTh
/-
  How a snapshot is parsed, over lists (plain).
-/
namespace Go.Proofs.Ytecjecdgjmipcaa
open Go.RowKit Go.Mk Go.Maps

def lastK : List DD → List UInt8
  | [] => []
  | [d] => keyD d
  | _ :: y :: r => lastK (y :: r)

theorem lastK_snoc : ∀ (l : List DD) (d : DD), lastK (l ++ [d]) = keyD d
  | [], _ => rfl
  | [_], _ => rfl
  | _ :: y :: r, d => lastK_snoc (y :: r) d

/-- n definitions more, each behind the last. -/
def parseN : Nat → RS → List DD → Int × List DD × RS
  | 0, s, acc => (0, acc, s)
  | n + 1, s, acc => if (judgeR (fieldsR s)).2 ≠ 0 then ((judgeR (fieldsR s)).2, [], s) else if lastK acc < keyD (judgeR (fieldsR s)).1 then parseN n (fieldsR s).1 (acc ++ [(judgeR (fieldsR s)).1]) else (32, [], s)

def finP (r : Int × List DD × RS) : Int × List DD := if r.1 ≠ 0 then (r.1, []) else if r.2.2.endE ≠ 0 then (r.2.2.endE, []) else (0, r.2.1)

def parseL (l : List UInt8) : Int × List DD :=
  if (RS.num ⟨l, 0⟩).1.err ≠ 0 then ((RS.num ⟨l, 0⟩).1.err, [])
  else if 500 < (RS.num ⟨l, 0⟩).2 then (21, [])
  else finP (parseN (RS.num ⟨l, 0⟩).2.toNat (RS.num ⟨l, 0⟩).1 [])

theorem judge_ok {r : RS × DD} (h : (judgeR r).2 = 0) : r.1.err = 0 ∧ rightD r.2 = true ∧ (judgeR r).1 = r.2 := by
  unfold judgeR at h ⊢
  by_cases h1 : r.1.err ≠ 0
  · rw [if_pos h1] at h; exact (h1 h).elim
  · rw [if_neg h1] at h ⊢
    by_cases h2 : rightD r.2 = true
    · rw [if_pos h2]; exact ⟨by omega, h2, rfl⟩
    · rw [if_neg h2] at h; exact absurd h (by decide)

/-- All keys lie below one that is behind the last. -/
theorem rise_last : ∀ {m : List Ent} {k : List UInt8}, Rise keyE m → lastK (dds m) < k → ∀ y ∈ m, keyE y < k
  | [], _, _, _, y, hy => absurd hy List.not_mem_nil
  | [x], k, _, h, y, hy => by
    rw [List.mem_singleton] at hy
    subst hy
    exact h
  | x :: z :: r, k, hr, h, y, hy => by
    obtain ⟨h1, h2⟩ := rise_cons.1 hr
    have ih := rise_last (m := z :: r) (k := k) h2 h
    rcases List.mem_cons.1 hy with rfl | hy
    · exact lt_tr (h1 z (by simp)) (ih z (by simp))
    · exact ih y hy

theorem putK_last {x : Ent} : ∀ {m : List Ent}, (∀ y ∈ m, keyE y < keyE x) → putK keyE x m = m ++ [x]
  | [], _ => rfl
  | y :: r, h => by
    have h1 := h y (by simp)
    have ih := putK_last (x := x) (m := r) (fun z hz => h z (by simp [hz]))
    have h2 : ¬ keyE x = keyE y := fun e => lt_ne h1 e.symm
    unfold putK
    rw [if_neg (lt_asy h1), if_neg h2, ih]
    rfl

end Go.Proofs.Ytecjecdgjmipcaa

/-
  What a snapshot writes is parsed as it (plain).
-/
namespace Go.Proofs.Ytecjecdgjmipcaa
open Go.RowKit Go.Mk Go.Maps

theorem lastK_rise : ∀ {acc : List DD} {d : DD} {r : List DD}, Rise keyD (acc ++ d :: r) → rightD d = true → lastK acc < keyD d
  | [], d, r, _, hd => by
    have := keyD_right hd
    cases h : keyD d with
    | nil => exact (this h).elim
    | cons a t => exact List.nil_lt_cons _ _
  | [x], d, r, h, _ => (rise_cons.1 h).1 d (by simp)
  | _ :: y :: acc, d, r, h, hd => lastK_rise (acc := y :: acc) (rise_cons.1 h).2 hd

theorem parseN_oct : ∀ (l acc : List DD) (t : List UInt8), Rise keyD (acc ++ l) → (∀ d ∈ l, rightD d = true) → parseN l.length ⟨octsL l ++ t, 0⟩ acc = (0, acc ++ l, ⟨t, 0⟩)
  | [], acc, t, _, _ => by simp [parseN, octsL]
  | d :: l, acc, t, h, hr => by
    have h1 := hr d (by simp)
    have e1 : octsL (d :: l) ++ t = octD d ++ (octsL l ++ t) := by simp [octsL]
    rw [e1, List.length_cons, parseN, judge_oct d _ h1 (right_small h1), read_oct d _ h1 (right_small h1)]
    dsimp only
    rw [if_neg (by simp), if_pos (lastK_rise h h1), parseN_oct l (acc ++ [d]) t (by simpa using h) (fun x hx => hr x (by simp [hx]))]
    simp

theorem parse_oct {l : List DD} (h : Rise keyD l) (hr : ∀ d ∈ l, rightD d = true) (hl : l.length ≤ 500) : parseL (octS l) = (0, l) := by
  have hn := read_num l.length (octsL l) (by omega)
  have hp := parseN_oct l [] [] (by simpa using h) hr
  rw [List.append_nil, List.nil_append] at hp
  unfold parseL octS
  rw [hn]
  dsimp only
  rw [if_neg (by simp), if_neg (by omega), Int.toNat_natCast, hp]
  unfold finP
  simp [RS.endE]

theorem octS_inj {l m : List DD} (h : Rise keyD l) (hr : ∀ d ∈ l, rightD d = true) (hl : l.length ≤ 500) (h' : Rise keyD m) (hr' : ∀ d ∈ m, rightD d = true) (hl' : m.length ≤ 500) (e : octS l = octS m) : l = m := by
  have h1 := parse_oct h hr hl
  rw [e, parse_oct h' hr' hl'] at h1
  exact (Prod.mk.inj h1).2.symm

theorem octS_len {l : List DD} (hr : ∀ d ∈ l, rightD d = true) : (octS l).length ≤ 4 + 10000 * l.length := by
  have := octsL_len l (fun d hd => right_small (hr d hd))
  unfold octS
  rw [List.length_append]
  have h4 : (bigB 4 l.length).length = 4 := by simp [bigB]
  omega

end Go.Proofs.Ytecjecdgjmipcaa
