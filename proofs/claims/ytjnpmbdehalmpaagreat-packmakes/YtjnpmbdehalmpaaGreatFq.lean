/-
  Edits that came in, as they lie in memory.
-/
import Derived.Test.YtjnpmbdehalmpaaGreatFe
import Derived.Test.YtjnpmbdehalmpaaGreatGPe
namespace Go.Proofs.YtjnpmbdehalmpaaGreat
open Go.ChangeShapes Go.WideShapes Go.ChangeAt Go.RowKit Go.Mk

def tyEdit : Ty := .struct (.pair .str (.pair (.slice tyDef) (.pair (.slice tyDef) .unit)))

theorem sd_of {w : World} {B : Nat} {cs : List Value} : ∀ {v : (Ty.slice tyDef).Val} (_ : Fits w B (.slice tyDef) cs v), ∃ s : SD, cs = [s.val] ∧ SDs w B s
  | (la, lc, (l : List tyDef.Val)), h => by
    obtain ⟨la', lc', es, h1, h2⟩ := defs_of h
    have h3 : l.length ≤ lc := h.2.1
    have h4 : cs = [.slice la l.length lc] := h.1
    rw [h4] at h1
    simp only [List.cons.injEq, Value.slice.injEq, and_true] at h1
    obtain ⟨rfl, hl, rfl⟩ := h1
    exact ⟨⟨la, lc, es⟩, by rw [h4, hl]; rfl, ⟨h2, by show es.length ≤ lc; omega⟩⟩

theorem ed_cells {w : World} {B : Nat} {cs : List Value} : ∀ {y : tyEdit.Val} (_ : Fits w B tyEdit cs y), ∃ e : EE, cs = cellsP1 e ∧ SDs w B e.old ∧ SDs w B e.new
  | (key, o, n, ()), h => by
    obtain ⟨_, _, rfl, ⟨rfl, hk⟩, _, _, rfl, ho, _, _, rfl, hn, h0⟩ := h
    obtain rfl := h0
    obtain ⟨so, rfl, h1⟩ := sd_of (show Fits w B (.slice tyDef) _ o from ho)
    obtain ⟨sn, rfl, h2⟩ := sd_of (show Fits w B (.slice tyDef) _ n from hn)
    exact ⟨⟨key.data.toList, so, sn⟩, rfl, h1, h2⟩

theorem eds_of {w : World} {B : Nat} {cs : List Value} : ∀ {v : (Ty.slice tyEdit).Val} (_ : Fits w B (.slice tyEdit) cs v), ∃ (pa : Option Addr) (pc : Nat) (p : List EE), cs = [.slice pa p.length pc] ∧ p.length ≤ pc ∧ Es w B pa p
  | (pa, pc, (l : List tyEdit.Val)), h => by
    have h5 : l ≠ [] → ∃ b off, pa = some ⟨b, off, none⟩ ∧ b < B ∧ ∀ j (hj : j < l.length), ∃ cs', Fits w B tyEdit cs' l[j] ∧ ∀ i u, cs'[i]? = some u → w.cell? ⟨b, off + j * 3 + i, none⟩ = some u := h.2.2.2.2
    have hcap : l.length ≤ pc := h.2.1
    by_cases hn : l = []
    · exact ⟨pa, pc, [], by rw [h.1, hn]; rfl, Nat.zero_le _, Es.nil _ _ _⟩
    · obtain ⟨b, off, rfl, hb, hc⟩ := h5 hn
      have : ∀ m, m ≤ l.length → ∃ p : List EE, p.length = m ∧ (∀ j (hj : j < p.length), Eo w b (off + j * 3) p[j]) ∧ ∀ e ∈ p, SDs w B e.old ∧ SDs w B e.new := by
        intro m
        induction m with
        | zero => intro _; exact ⟨[], rfl, fun j hj => by simp at hj, by simp⟩
        | succ m ih =>
          intro hm
          obtain ⟨p, h1, h2, h3⟩ := ih (by omega)
          obtain ⟨cs', hf, hcell⟩ := hc m (by omega)
          obtain ⟨e, rfl, g1, g2⟩ := ed_cells hf
          refine ⟨p ++ [e], by simp [h1], fun j hj => ?_, fun x hx => ?_⟩
          · by_cases hjm : j < p.length
            · rw [List.getElem_append_left hjm]
              exact h2 j hjm
            · have hje : j = p.length := by simp at hj; omega
              subst hje
              rw [List.getElem_append_right (Nat.le_refl _)]
              simp only [Nat.sub_self, List.getElem_cons_zero]
              rw [h1]
              exact ⟨hcell 0 _ rfl, hcell 1 _ rfl, hcell 2 _ rfl⟩
          · rcases List.mem_append.1 hx with hx | hx
            · exact h3 x hx
            · rw [List.mem_singleton] at hx
              subst hx
              exact ⟨g1, g2⟩
      obtain ⟨p, h1, h2, h3⟩ := this l.length (Nat.le_refl _)
      exact ⟨some ⟨b, off, none⟩, pc, p, by rw [h1]; exact h.1, by rw [h1]; exact hcap, ⟨fun _ => ⟨b, off, rfl, hb, h2⟩, h3⟩⟩

end Go.Proofs.YtjnpmbdehalmpaaGreat
