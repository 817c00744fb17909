/-
  Lemmas towards the claim of this folder: contracts of the functions that the law reaches; joined texts.
-/
import Derived.Test.YtecjecdgjmipcaaGreatFits
import Derived.Test.YtecjecdgjmipcaaGreatSs
import Derived.Test.YtecjecdgjmipcaaGreatGNm
import Derived.Test.YtecjecdgjmipcaaGreatGL8c
import Derived.Test.YtecjecdgjmipcaaGreatGEe
/-
  A definition that came in, as it lies in memory.
-/
namespace Go.Proofs.YtecjecdgjmipcaaGreat
open Go.ChangeShapes Go.WideShapes Go.ChangeAt Go.RowKit Go.Mk

def tyDef : Ty := .struct (.pair (.int .i64) (.pair .str (.pair .str (.pair (.slice .str) (.pair .str (.pair .str .unit))))))

theorem strs_in {w : World} {B : Nat} {cs : List Value} {v : (Ty.slice .str).Val} (h : Fits w B (.slice .str) cs v) :
    ∃ (ao : Option Addr) (cap : Nat) (la : List (List UInt8)), cs = [.slice ao la.length cap] ∧ Lies w B ao (strs la) ∧ la.length ≤ cap ∧ cap ≤ maxLen := by
  obtain ⟨ao, cap, l, -, h1, h2, h3, _, h5, _⟩ := fits_strs h
  refine ⟨ao, cap, l.map (fun b => b.data.toList), by rw [List.length_map]; exact h1, ?_, by rw [List.length_map]; omega, h3⟩
  have e : strs (l.map (fun b => b.data.toList)) = l.map .string := by
    unfold strs
    rw [List.map_map]
    rfl
  rw [e]
  exact h5

theorem def_cells {w : World} {B : Nat} {cs : List Value} : ∀ {y : tyDef.Val} (_ : Fits w B tyDef cs y), ∃ (ao : Option Addr) (cap : Nat) (d : DD), cs = [.int .i64 d.k, .string (bs d.c), .string (bs d.p), .slice ao d.vs.length cap, .string (bs d.s), .string (bs d.t)] ∧
    Lies w B ao (strs d.vs) ∧ d.vs.length ≤ cap ∧ cap ≤ maxLen ∧ (-9223372036854775808 ≤ d.k ∧ d.k ≤ 9223372036854775807) ∧ (d.c.length ≤ maxLen ∧ d.p.length ≤ maxLen ∧ d.s.length ≤ maxLen ∧ d.t.length ≤ maxLen)
  | (k, c, p, q, s, t, ()), h => by
    obtain ⟨_, _, rfl, ⟨rfl, hk⟩, _, _, rfl, ⟨rfl, hc⟩, _, _, rfl, ⟨rfl, hp⟩, _, _, rfl, hq, _, _, rfl, ⟨rfl, hs⟩, _, _, rfl, ⟨rfl, ht⟩, h0⟩ := h
    obtain rfl := h0
    obtain ⟨ao, cap, la, rfl, g1, g2, g3⟩ := strs_in hq
    exact ⟨ao, cap, ⟨k, c.data.toList, p.data.toList, la, s.data.toList, t.data.toList⟩, rfl, g1, g2, g3, bounds_i64 hk, hc, hp, hs, ht⟩

end Go.Proofs.YtecjecdgjmipcaaGreat

/-
  Definitions in a row, and changes, that came in, as they lie in memory.
-/
namespace Go.Proofs.YtecjecdgjmipcaaGreat
open Go.ChangeShapes Go.WideShapes Go.ChangeAt Go.RowKit Go.Mk

/-- A row of which each element is a definition. -/
theorem ds_of_row {w : World} {B : Nat} {la : Option Addr} (n : Nat) (h : 0 < n → ∃ b off, la = some ⟨b, off, none⟩ ∧ b < B ∧ ∀ j, j < n → ∃ cs', (∃ y : tyDef.Val, Fits w B tyDef cs' y) ∧ ∀ i u, cs'[i]? = some u → w.cell? ⟨b, off + j * 6 + i, none⟩ = some u) :
    ∃ es : List Ent, es.length = n ∧ Ds w B la es := by
  by_cases hn : 0 < n
  · obtain ⟨b, off, rfl, hb, hc⟩ := h hn
    have : ∀ m, m ≤ n → ∃ es : List Ent, es.length = m ∧ (∀ j (hj : j < es.length), Bo w b (off + j * 6) es[j].2.1 es[j].2.2 es[j].1) ∧ ∀ e ∈ es, Lies w B e.2.1 (strs e.1.vs) ∧ e.1.vs.length ≤ e.2.2 := by
      intro m
      induction m with
      | zero => intro _; exact ⟨[], rfl, fun j hj => by simp at hj, by simp⟩
      | succ m ih =>
        intro hm
        obtain ⟨es, h1, h2, h3⟩ := ih (by omega)
        obtain ⟨cs', ⟨y, hf⟩, hcell⟩ := hc m (by omega)
        obtain ⟨ao, cap, d, rfl, hl, hcp, _⟩ := def_cells hf
        refine ⟨es ++ [(d, ao, cap)], by simp [h1], fun j hj => ?_, fun e he => ?_⟩
        · by_cases hjm : j < es.length
          · rw [List.getElem_append_left hjm]
            exact h2 j hjm
          · have hje : j = es.length := by simp at hj; omega
            subst hje
            rw [List.getElem_append_right (Nat.le_refl _)]
            simp only [Nat.sub_self, List.getElem_cons_zero]
            rw [h1]
            exact ⟨hcell 0 _ rfl, hcell 1 _ rfl, hcell 2 _ rfl, hcell 3 _ rfl, hcell 4 _ rfl, hcell 5 _ rfl⟩
        · rcases List.mem_append.1 he with he | he
          · exact h3 e he
          · rw [List.mem_singleton] at he
            subst he
            exact ⟨hl, hcp⟩
    obtain ⟨es, h1, h2, h3⟩ := this n (Nat.le_refl _)
    exact ⟨es, h1, ⟨fun _ => ⟨b, off, rfl, hb, h2⟩, h3⟩⟩
  · obtain rfl : n = 0 := by omega
    exact ⟨[], rfl, ⟨fun h => (h rfl).elim, by simp⟩⟩

theorem defs_of {w : World} {B : Nat} {cs : List Value} : ∀ {v : (Ty.slice tyDef).Val} (_ : Fits w B (.slice tyDef) cs v), ∃ (la : Option Addr) (lc : Nat) (es : List Ent), cs = [.slice la es.length lc] ∧ Ds w B la es
  | (la, lc, (l : List tyDef.Val)), h => by
    have h5 : l ≠ [] → ∃ b off, la = some ⟨b, off, none⟩ ∧ b < B ∧ ∀ j (hj : j < l.length), ∃ cs', Fits w B tyDef cs' l[j] ∧ ∀ i u, cs'[i]? = some u → w.cell? ⟨b, off + j * 6 + i, none⟩ = some u := h.2.2.2.2
    obtain ⟨es, h1, h2⟩ := ds_of_row (w := w) (B := B) (la := la) l.length (fun hn => by
      obtain ⟨b, off, e, hb, hc⟩ := h5 (by intro e; rw [e] at hn; simp at hn)
      exact ⟨b, off, e, hb, fun j hj => by obtain ⟨cs', hf, hcell⟩ := hc j hj; exact ⟨cs', ⟨_, hf⟩, hcell⟩⟩)
    exact ⟨la, lc, es, by rw [h1]; exact h.1, h2⟩

def tyChange : Ty := .struct (.pair .bool (.pair tyDef (.pair .str .unit)))

theorem chg_cells {w : World} {B : Nat} {cs : List Value} : ∀ {y : tyChange.Val} (_ : Fits w B tyChange cs y), ∃ c : CD, cs = c.cells.toList ∧ Cin w B c
  | (dr, d, key, ()), h => by
    obtain ⟨_, _, rfl, rfl, _, _, rfl, hd, _, _, rfl, ⟨rfl, hk⟩, h0⟩ := h
    obtain rfl := h0
    obtain ⟨ao, cap, d', rfl, g1, g2, _⟩ := def_cells (show Fits w B tyDef _ d from hd)
    exact ⟨⟨dr, d', ao, cap, key.data.toList⟩, rfl, ⟨g1, g2, hk⟩⟩

end Go.Proofs.YtecjecdgjmipcaaGreat

/-
  Edits that came in, as they lie in memory.
-/
namespace Go.Proofs.YtecjecdgjmipcaaGreat
open Go.ChangeShapes Go.WideShapes Go.ChangeAt Go.RowKit Go.Mk

def tyEdit : Ty := .struct (.pair .str (.pair (.slice tyDef) (.pair (.slice tyDef) .unit)))

theorem sd_of {w : World} {B : Nat} {cs : List Value} : ∀ {v : (Ty.slice tyDef).Val} (_ : Fits w B (.slice tyDef) cs v), ∃ s : SD, cs = [s.val] ∧ SDs w B s
  | (la, lc, (l : List tyDef.Val)), h => by
    obtain ⟨la', lc', es, h1, h2⟩ := defs_of h
    have h3 : l.length ≤ lc := h.2.1
    have h4 : cs = [.slice la l.length lc] := h.1
    rw [h4] at h1
    simp only [List.cons.injEq, Value.slice.injEq, and_true] at h1
    obtain ⟨rfl, hl, rfl⟩ := h1
    exact ⟨⟨la, lc, es⟩, by rw [h4, hl]; rfl, ⟨h2, by show es.length ≤ lc; omega⟩⟩

theorem ed_cells {w : World} {B : Nat} {cs : List Value} : ∀ {y : tyEdit.Val} (_ : Fits w B tyEdit cs y), ∃ e : EE, cs = cellsP1 e ∧ SDs w B e.old ∧ SDs w B e.new
  | (key, o, n, ()), h => by
    obtain ⟨_, _, rfl, ⟨rfl, hk⟩, _, _, rfl, ho, _, _, rfl, hn, h0⟩ := h
    obtain rfl := h0
    obtain ⟨so, rfl, h1⟩ := sd_of (show Fits w B (.slice tyDef) _ o from ho)
    obtain ⟨sn, rfl, h2⟩ := sd_of (show Fits w B (.slice tyDef) _ n from hn)
    exact ⟨⟨key.data.toList, so, sn⟩, rfl, h1, h2⟩

theorem eds_of {w : World} {B : Nat} {cs : List Value} : ∀ {v : (Ty.slice tyEdit).Val} (_ : Fits w B (.slice tyEdit) cs v), ∃ (pa : Option Addr) (pc : Nat) (p : List EE), cs = [.slice pa p.length pc] ∧ p.length ≤ pc ∧ Es w B pa p
  | (pa, pc, (l : List tyEdit.Val)), h => by
    have h5 : l ≠ [] → ∃ b off, pa = some ⟨b, off, none⟩ ∧ b < B ∧ ∀ j (hj : j < l.length), ∃ cs', Fits w B tyEdit cs' l[j] ∧ ∀ i u, cs'[i]? = some u → w.cell? ⟨b, off + j * 3 + i, none⟩ = some u := h.2.2.2.2
    have hcap : l.length ≤ pc := h.2.1
    by_cases hn : l = []
    · exact ⟨pa, pc, [], by rw [h.1, hn]; rfl, Nat.zero_le _, Es.nil _ _ _⟩
    · obtain ⟨b, off, rfl, hb, hc⟩ := h5 hn
      have : ∀ m, m ≤ l.length → ∃ p : List EE, p.length = m ∧ (∀ j (hj : j < p.length), Eo w b (off + j * 3) p[j]) ∧ ∀ e ∈ p, SDs w B e.old ∧ SDs w B e.new := by
        intro m
        induction m with
        | zero => intro _; exact ⟨[], rfl, fun j hj => by simp at hj, by simp⟩
        | succ m ih =>
          intro hm
          obtain ⟨p, h1, h2, h3⟩ := ih (by omega)
          obtain ⟨cs', hf, hcell⟩ := hc m (by omega)
          obtain ⟨e, rfl, g1, g2⟩ := ed_cells hf
          refine ⟨p ++ [e], by simp [h1], fun j hj => ?_, fun x hx => ?_⟩
          · by_cases hjm : j < p.length
            · rw [List.getElem_append_left hjm]
              exact h2 j hjm
            · have hje : j = p.length := by simp at hj; omega
              subst hje
              rw [List.getElem_append_right (Nat.le_refl _)]
              simp only [Nat.sub_self, List.getElem_cons_zero]
              rw [h1]
              exact ⟨hcell 0 _ rfl, hcell 1 _ rfl, hcell 2 _ rfl⟩
          · rcases List.mem_append.1 hx with hx | hx
            · exact h3 x hx
            · rw [List.mem_singleton] at hx
              subst hx
              exact ⟨g1, g2⟩
      obtain ⟨p, h1, h2, h3⟩ := this l.length (Nat.le_refl _)
      exact ⟨some ⟨b, off, none⟩, pc, p, by rw [h1]; exact h.1, by rw [h1]; exact hcap, ⟨fun _ => ⟨b, off, rfl, hb, h2⟩, h3⟩⟩

end Go.Proofs.YtecjecdgjmipcaaGreat
