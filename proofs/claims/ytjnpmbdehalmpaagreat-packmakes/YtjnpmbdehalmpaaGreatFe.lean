/-
  Definitions in a row, and changes, that came in, as they lie in memory.
-/
import Derived.Test.YtjnpmbdehalmpaaGreatFdf
import Derived.Test.YtjnpmbdehalmpaaGreatL8c
namespace Go.Proofs.YtjnpmbdehalmpaaGreat
open Go.ChangeShapes Go.WideShapes Go.ChangeAt Go.RowKit Go.Mk

/-- A row of which each element is a definition. -/
theorem ds_of_row {w : World} {B : Nat} {la : Option Addr} (n : Nat) (h : 0 < n → ∃ b off, la = some ⟨b, off, none⟩ ∧ b < B ∧ ∀ j, j < n → ∃ cs', (∃ y : tyDef.Val, Fits w B tyDef cs' y) ∧ ∀ i u, cs'[i]? = some u → w.cell? ⟨b, off + j * 6 + i, none⟩ = some u) :
    ∃ es : List Ent, es.length = n ∧ Ds w B la es := by
  by_cases hn : 0 < n
  · obtain ⟨b, off, rfl, hb, hc⟩ := h hn
    have : ∀ m, m ≤ n → ∃ es : List Ent, es.length = m ∧ (∀ j (hj : j < es.length), Bo w b (off + j * 6) es[j].2.1 es[j].2.2 es[j].1) ∧ ∀ e ∈ es, Lies w B e.2.1 (strs e.1.vs) ∧ e.1.vs.length ≤ e.2.2 := by
      intro m
      induction m with
      | zero => intro _; exact ⟨[], rfl, fun j hj => by simp at hj, by simp⟩
      | succ m ih =>
        intro hm
        obtain ⟨es, h1, h2, h3⟩ := ih (by omega)
        obtain ⟨cs', ⟨y, hf⟩, hcell⟩ := hc m (by omega)
        obtain ⟨ao, cap, d, rfl, hl, hcp, _⟩ := def_cells hf
        refine ⟨es ++ [(d, ao, cap)], by simp [h1], fun j hj => ?_, fun e he => ?_⟩
        · by_cases hjm : j < es.length
          · rw [List.getElem_append_left hjm]
            exact h2 j hjm
          · have hje : j = es.length := by simp at hj; omega
            subst hje
            rw [List.getElem_append_right (Nat.le_refl _)]
            simp only [Nat.sub_self, List.getElem_cons_zero]
            rw [h1]
            exact ⟨hcell 0 _ rfl, hcell 1 _ rfl, hcell 2 _ rfl, hcell 3 _ rfl, hcell 4 _ rfl, hcell 5 _ rfl⟩
        · rcases List.mem_append.1 he with he | he
          · exact h3 e he
          · rw [List.mem_singleton] at he
            subst he
            exact ⟨hl, hcp⟩
    obtain ⟨es, h1, h2, h3⟩ := this n (Nat.le_refl _)
    exact ⟨es, h1, ⟨fun _ => ⟨b, off, rfl, hb, h2⟩, h3⟩⟩
  · obtain rfl : n = 0 := by omega
    exact ⟨[], rfl, ⟨fun h => (h rfl).elim, by simp⟩⟩

theorem defs_of {w : World} {B : Nat} {cs : List Value} : ∀ {v : (Ty.slice tyDef).Val} (_ : Fits w B (.slice tyDef) cs v), ∃ (la : Option Addr) (lc : Nat) (es : List Ent), cs = [.slice la es.length lc] ∧ Ds w B la es
  | (la, lc, (l : List tyDef.Val)), h => by
    have h5 : l ≠ [] → ∃ b off, la = some ⟨b, off, none⟩ ∧ b < B ∧ ∀ j (hj : j < l.length), ∃ cs', Fits w B tyDef cs' l[j] ∧ ∀ i u, cs'[i]? = some u → w.cell? ⟨b, off + j * 6 + i, none⟩ = some u := h.2.2.2.2
    obtain ⟨es, h1, h2⟩ := ds_of_row (w := w) (B := B) (la := la) l.length (fun hn => by
      obtain ⟨b, off, e, hb, hc⟩ := h5 (by intro e; rw [e] at hn; simp at hn)
      exact ⟨b, off, e, hb, fun j hj => by obtain ⟨cs', hf, hcell⟩ := hc j hj; exact ⟨cs', ⟨_, hf⟩, hcell⟩⟩)
    exact ⟨la, lc, es, by rw [h1]; exact h.1, h2⟩

def tyChange : Ty := .struct (.pair .bool (.pair tyDef (.pair .str .unit)))

theorem chg_cells {w : World} {B : Nat} {cs : List Value} : ∀ {y : tyChange.Val} (_ : Fits w B tyChange cs y), ∃ c : CD, cs = c.cells.toList ∧ Cin w B c
  | (dr, d, key, ()), h => by
    obtain ⟨_, _, rfl, rfl, _, _, rfl, hd, _, _, rfl, ⟨rfl, hk⟩, h0⟩ := h
    obtain rfl := h0
    obtain ⟨ao, cap, d', rfl, g1, g2, _⟩ := def_cells (show Fits w B tyDef _ d from hd)
    exact ⟨⟨dr, d', ao, cap, key.data.toList⟩, rfl, ⟨g1, g2, hk⟩⟩

end Go.Proofs.YtjnpmbdehalmpaaGreat
