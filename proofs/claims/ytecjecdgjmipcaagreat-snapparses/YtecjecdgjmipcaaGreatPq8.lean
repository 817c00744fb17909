/-
  What a snapshot writes is parsed as it (plain).
-/
import Derived.Test.YtecjecdgjmipcaaGreatPp
import Derived.Test.YtecjecdgjmipcaaGreatPo
import Derived.Test.YtecjecdgjmipcaaGreatGTh
namespace Go.Proofs.YtecjecdgjmipcaaGreat
open Go.RowKit Go.Mk Go.Maps

theorem lastK_rise : ∀ {acc : List DD} {d : DD} {r : List DD}, Rise keyD (acc ++ d :: r) → rightD d = true → lastK acc < keyD d
  | [], d, r, _, hd => by
    have := keyD_right hd
    cases h : keyD d with
    | nil => exact (this h).elim
    | cons a t => exact List.nil_lt_cons _ _
  | [x], d, r, h, _ => (rise_cons.1 h).1 d (by simp)
  | _ :: y :: acc, d, r, h, hd => lastK_rise (acc := y :: acc) (rise_cons.1 h).2 hd

theorem parseN_oct : ∀ (l acc : List DD) (t : List UInt8), Rise keyD (acc ++ l) → (∀ d ∈ l, rightD d = true) → parseN l.length ⟨octsL l ++ t, 0⟩ acc = (0, acc ++ l, ⟨t, 0⟩)
  | [], acc, t, _, _ => by simp [parseN, octsL]
  | d :: l, acc, t, h, hr => by
    have h1 := hr d (by simp)
    have e1 : octsL (d :: l) ++ t = octD d ++ (octsL l ++ t) := by simp [octsL]
    rw [e1, List.length_cons, parseN, judge_oct d _ h1 (right_small h1), read_oct d _ h1 (right_small h1)]
    dsimp only
    rw [if_neg (by simp), if_pos (lastK_rise h h1), parseN_oct l (acc ++ [d]) t (by simpa using h) (fun x hx => hr x (by simp [hx]))]
    simp

theorem parse_oct {l : List DD} (h : Rise keyD l) (hr : ∀ d ∈ l, rightD d = true) (hl : l.length ≤ 500) : parseL (octS l) = (0, l) := by
  have hn := read_num l.length (octsL l) (by omega)
  have hp := parseN_oct l [] [] (by simpa using h) hr
  rw [List.append_nil, List.nil_append] at hp
  unfold parseL octS
  rw [hn]
  dsimp only
  rw [if_neg (by simp), if_neg (by omega), Int.toNat_natCast, hp]
  unfold finP
  simp [RS.endE]

theorem octS_inj {l m : List DD} (h : Rise keyD l) (hr : ∀ d ∈ l, rightD d = true) (hl : l.length ≤ 500) (h' : Rise keyD m) (hr' : ∀ d ∈ m, rightD d = true) (hl' : m.length ≤ 500) (e : octS l = octS m) : l = m := by
  have h1 := parse_oct h hr hl
  rw [e, parse_oct h' hr' hl'] at h1
  exact (Prod.mk.inj h1).2.symm

theorem octS_len {l : List DD} (hr : ∀ d ∈ l, rightD d = true) : (octS l).length ≤ 4 + 10000 * l.length := by
  have := octsL_len l (fun d hd => right_small (hr d hd))
  unfold octS
  rw [List.length_append]
  have h4 : (bigB 4 l.length).length = 4 := by simp [bigB]
  omega

end Go.Proofs.YtecjecdgjmipcaaGreat
