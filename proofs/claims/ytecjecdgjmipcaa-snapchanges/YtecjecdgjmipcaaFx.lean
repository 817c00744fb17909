/-
  Changes in a row that came in, as they lie in memory.
-/
import Derived.Test.YtecjecdgjmipcaaFe
import Derived.Test.YtecjecdgjmipcaaL8x
namespace Go.Proofs.Ytecjecdgjmipcaa
open Go.ChangeShapes Go.WideShapes Go.ChangeAt Go.RowKit Go.Mk

theorem cds_of_row {w : World} {B : Nat} {la : Option Addr} (n : Nat) (h : 0 < n → ∃ b off, la = some ⟨b, off, none⟩ ∧ b < B ∧ ∀ j, j < n → ∃ cs', (∃ y : tyChange.Val, Fits w B tyChange cs' y) ∧ ∀ i u, cs'[i]? = some u → w.cell? ⟨b, off + j * 8 + i, none⟩ = some u) :
    ∃ cs : List CD, cs.length = n ∧ Cds w B la cs := by
  by_cases hn : 0 < n
  · obtain ⟨b, off, rfl, hb, hc⟩ := h hn
    have : ∀ m, m ≤ n → ∃ cs : List CD, cs.length = m ∧ (∀ j (hj : j < cs.length), Co w b (off + j * 8) cs[j]) ∧ ∀ c ∈ cs, Cin w B c := by
      intro m
      induction m with
      | zero => intro _; exact ⟨[], rfl, fun j hj => by simp at hj, by simp⟩
      | succ m ih =>
        intro hm
        obtain ⟨cs, h1, h2, h3⟩ := ih (by omega)
        obtain ⟨cs', ⟨y, hf⟩, hcell⟩ := hc m (by omega)
        obtain ⟨c, rfl, hin⟩ := chg_cells hf
        refine ⟨cs ++ [c], by simp [h1], fun j hj => ?_, fun e he => ?_⟩
        · by_cases hjm : j < cs.length
          · rw [List.getElem_append_left hjm]
            exact h2 j hjm
          · have hje : j = cs.length := by simp at hj; omega
            subst hje
            rw [List.getElem_append_right (Nat.le_refl _)]
            simp only [Nat.sub_self, List.getElem_cons_zero]
            rw [h1]
            exact ⟨hcell 0 _ rfl, hcell 1 _ rfl, hcell 2 _ rfl, hcell 3 _ rfl, hcell 4 _ rfl, hcell 5 _ rfl, hcell 6 _ rfl, hcell 7 _ rfl⟩
        · rcases List.mem_append.1 he with he | he
          · exact h3 e he
          · rw [List.mem_singleton] at he
            subst he
            exact hin
    obtain ⟨cs, h1, h2, h3⟩ := this n (Nat.le_refl _)
    exact ⟨cs, h1, ⟨fun _ => ⟨b, off, rfl, hb, h2⟩, h3⟩⟩
  · obtain rfl : n = 0 := by omega
    exact ⟨[], rfl, ⟨fun h => (h rfl).elim, by simp⟩⟩

theorem chgs_of {w : World} {B : Nat} {cs : List Value} : ∀ {v : (Ty.slice tyChange).Val} (_ : Fits w B (.slice tyChange) cs v), ∃ (la : Option Addr) (lc : Nat) (es : List CD), cs = [.slice la es.length lc] ∧ Cds w B la es
  | (la, lc, (l : List tyChange.Val)), h => by
    have h5 : l ≠ [] → ∃ b off, la = some ⟨b, off, none⟩ ∧ b < B ∧ ∀ j (hj : j < l.length), ∃ cs', Fits w B tyChange cs' l[j] ∧ ∀ i u, cs'[i]? = some u → w.cell? ⟨b, off + j * 8 + i, none⟩ = some u := h.2.2.2.2
    obtain ⟨es, h1, h2⟩ := cds_of_row (w := w) (B := B) (la := la) l.length (fun hn => by
      obtain ⟨b, off, e, hb, hc⟩ := h5 (by intro e; rw [e] at hn; simp at hn)
      exact ⟨b, off, e, hb, fun j hj => by obtain ⟨cs', hf, hcell⟩ := hc j hj; exact ⟨cs', ⟨_, hf⟩, hcell⟩⟩)
    exact ⟨la, lc, es, by rw [h1]; exact h.1, h2⟩

end Go.Proofs.Ytecjecdgjmipcaa
