/-
  How a snapshot is parsed, over lists (plain).
-/
import Derived.Test.YtecjecdgjmipcaaGreatGSr
import Derived.Test.YtecjecdgjmipcaaGreatPr
namespace Go.Proofs.YtecjecdgjmipcaaGreat
open Go.RowKit Go.Mk Go.Maps

def lastK : List DD → List UInt8
  | [] => []
  | [d] => keyD d
  | _ :: y :: r => lastK (y :: r)

theorem lastK_snoc : ∀ (l : List DD) (d : DD), lastK (l ++ [d]) = keyD d
  | [], _ => rfl
  | [_], _ => rfl
  | _ :: y :: r, d => lastK_snoc (y :: r) d

/-- n definitions more, each behind the last. -/
def parseN : Nat → RS → List DD → Int × List DD × RS
  | 0, s, acc => (0, acc, s)
  | n + 1, s, acc => if (judgeR (fieldsR s)).2 ≠ 0 then ((judgeR (fieldsR s)).2, [], s) else if lastK acc < keyD (judgeR (fieldsR s)).1 then parseN n (fieldsR s).1 (acc ++ [(judgeR (fieldsR s)).1]) else (32, [], s)

def finP (r : Int × List DD × RS) : Int × List DD := if r.1 ≠ 0 then (r.1, []) else if r.2.2.endE ≠ 0 then (r.2.2.endE, []) else (0, r.2.1)

def parseL (l : List UInt8) : Int × List DD :=
  if (RS.num ⟨l, 0⟩).1.err ≠ 0 then ((RS.num ⟨l, 0⟩).1.err, [])
  else if 500 < (RS.num ⟨l, 0⟩).2 then (21, [])
  else finP (parseN (RS.num ⟨l, 0⟩).2.toNat (RS.num ⟨l, 0⟩).1 [])

theorem judge_ok {r : RS × DD} (h : (judgeR r).2 = 0) : r.1.err = 0 ∧ rightD r.2 = true ∧ (judgeR r).1 = r.2 := by
  unfold judgeR at h ⊢
  by_cases h1 : r.1.err ≠ 0
  · rw [if_pos h1] at h; exact (h1 h).elim
  · rw [if_neg h1] at h ⊢
    by_cases h2 : rightD r.2 = true
    · rw [if_pos h2]; exact ⟨by omega, h2, rfl⟩
    · rw [if_neg h2] at h; exact absurd h (by decide)

/-- All keys lie below one that is behind the last. -/
theorem rise_last : ∀ {m : List Ent} {k : List UInt8}, Rise keyE m → lastK (dds m) < k → ∀ y ∈ m, keyE y < k
  | [], _, _, _, y, hy => absurd hy List.not_mem_nil
  | [x], k, _, h, y, hy => by
    rw [List.mem_singleton] at hy
    subst hy
    exact h
  | x :: z :: r, k, hr, h, y, hy => by
    obtain ⟨h1, h2⟩ := rise_cons.1 hr
    have ih := rise_last (m := z :: r) (k := k) h2 h
    rcases List.mem_cons.1 hy with rfl | hy
    · exact lt_tr (h1 z (by simp)) (ih z (by simp))
    · exact ih y hy

theorem putK_last {x : Ent} : ∀ {m : List Ent}, (∀ y ∈ m, keyE y < keyE x) → putK keyE x m = m ++ [x]
  | [], _ => rfl
  | y :: r, h => by
    have h1 := h y (by simp)
    have ih := putK_last (x := x) (m := r) (fun z hz => h z (by simp [hz]))
    have h2 : ¬ keyE x = keyE y := fun e => lt_ne h1 e.symm
    unfold putK
    rw [if_neg (lt_asy h1), if_neg h2, ih]
    rfl

end Go.Proofs.YtecjecdgjmipcaaGreat
