/-
  CONTRACTS of package merge: merged.
-/
import Derived.Test.YtlnincdmdegaoaaGreatDya
import Derived.Test.YtlnincdmdegaoaaGreatGSu
namespace Go.Proofs.YtlnincdmdegaoaaGreat
open Go.RowKit Go.Mk Go.Maps Go.Shelf

/-! ### What is no map's block stays where a map turns -/

def NoCell (W : World) (n : Nat) : Prop := ∃ o, W.heap[n]? = some o ∧ o.isCells = false

theorem TbU.nocell {W : World} {b : Nat} {l : List (List UInt8)} (h : TbU W b l) : NoCell W b := by
  obtain ⟨es, clock, hb, _⟩ := h.own
  exact ⟨_, hb, rfl⟩
theorem Tb.nocell {W : World} {b : Nat} {m : List Ent} (h : Tb W b m) : NoCell W b := by
  obtain ⟨es, clock, hb, _⟩ := h.own
  exact ⟨_, hb, rfl⟩

theorem lies_over {A B : World} {N n : Nat} {ao : Option Addr} {vs : List Value} (h : Lies A N ao vs) (hn : NoCell A n) (hk : Kept (fun k => k = n) A B) : Lies B N ao vs :=
  h.kept hk (fun hne a ha e => by
    obtain ⟨b, off, e1, _, hc⟩ := h hne
    rw [e1] at ha
    cases ha
    obtain ⟨t, ts, hts⟩ := List.exists_cons_of_ne_nil hne
    exact cell_block (hc 0 t (by rw [hts]; rfl)) hn e)

theorem Bo.over {A B : World} {b o n : Nat} {ao : Option Addr} {cap : Nat} {d : DD} (h : Bo A b o ao cap d) (hn : NoCell A n) (hk : Kept (fun k => k = n) A B) : Bo B b o ao cap d :=
  h.kept hk (cell_block h.c0 hn)

theorem Ds.over {A B : World} {N n : Nat} {la : Option Addr} {es : List Ent} (h : Ds A N la es) (hn : NoCell A n) (hk : Kept (fun k => k = n) A B) : Ds B N la es :=
  ⟨fun hne => by
    obtain ⟨b, off, e, hb, hc⟩ := h.row hne
    exact ⟨b, off, e, hb, fun j hj => (hc j hj).over hn hk⟩, fun e he => ⟨lies_over (h.lies e he).1 hn hk, (h.lies e he).2⟩⟩

theorem SDs.over {A B : World} {N n : Nat} {s : SD} (h : SDs A N s) (hn : NoCell A n) (hk : Kept (fun k => k = n) A B) : SDs B N s := ⟨h.ds.over hn hk, h.cap⟩

theorem Eo.over {A B : World} {b o n : Nat} {e : EE} (h : Eo A b o e) (hn : NoCell A n) (hk : Kept (fun k => k = n) A B) : Eo B b o e :=
  h.kept hk (cell_block h.c0 hn)

theorem Es.over {A B : World} {N n : Nat} {pa : Option Addr} {p : List EE} (h : Es A N pa p) (hn : NoCell A n) (hk : Kept (fun k => k = n) A B) : Es B N pa p :=
  ⟨fun hne => by
    obtain ⟨b, off, e, hb, hc⟩ := h.row hne
    exact ⟨b, off, e, hb, fun j hj => (hc j hj).over hn hk⟩, fun e he => ⟨(h.lies e he).1.over hn hk, (h.lies e he).2.over hn hk⟩⟩

/-! ### The table under way -/

theorem nw_newM (w : World) : Nw w [] ((w.alloc (.map #[] 0)).alloc (.cells #[.map (some w.heap.size)] 57)) := by
  have h1 := (tb_new w).keep ((Kept.refl (fun _ => False) _).alloc (.cells #[.map (some w.heap.size)] 57))
  have h2 := World.cell?_alloc_new (w.alloc (.map #[] 0)) #[.map (some w.heap.size)] 57 0
  rw [World.size_alloc] at h2
  exact ⟨h1, h2, ((Kept.refl _ w).alloc _).alloc _, by simp⟩

theorem Nw.kept {S : Nat → Prop} {w : World} {m : List Ent} {A B : World} (h : Nw w m A) (hk : Kept S A B) (h0 : ¬ S w.heap.size) (h1 : ¬ S (w.heap.size + 1)) (hr : ∀ e ∈ m, e.1.vs ≠ [] → ∀ a, e.2.1 = some a → ¬ S a.block) (hlow : ∀ k, k < w.heap.size → ¬ S k) : Nw w m B :=
  ⟨h.tb.kept hk h0 hr, (hk.cell (p := ⟨w.heap.size + 1, 0, none⟩) (World.block_lt_of_cell? _ _ h.cell) h1).trans h.cell, h.k.trans hk (fun i hi e => hlow i hi e), Nat.le_trans h.sz hk.size⟩

/-- Where the loop's own two blocks turn. -/
theorem Nw.loop {w : World} {m : List Ent} {A B : World} {n : Nat} (h : Nw w m A) (hk : Kept (fun k => k = n ∨ k = n + 1) A B) (hn : w.heap.size + 1 < n) (hr : ∀ e ∈ m, e.1.vs ≠ [] → ∀ a, e.2.1 = some a → a.block ≠ n ∧ a.block ≠ n + 1) : Nw w m B :=
  h.kept hk (by omega) (by omega) (fun e he hv a ha hS => by
    have h1 := hr e he hv a ha
    rcases hS with hS | hS
    · exact h1.1 hS
    · exact h1.2 hS) (fun k hk' h => by omega)

theorem Tb.over {A B : World} {b n : Nat} {m : List Ent} (h : Tb A b m) (hne : b ≠ n) (hn : NoCell A n) (hk : Kept (fun k => k = n) A B) : Tb B b m :=
  h.kept hk hne (fun e he hv a ha hS => by
    obtain ⟨g, off, e1, _, hc⟩ := (h.lies e he).1 (by unfold strs; simpa using hv)
    rw [e1] at ha
    cases ha
    obtain ⟨t, ts, hts⟩ := List.exists_cons_of_ne_nil hv
    exact cell_block (hc 0 (.string (bs t)) (by rw [hts]; rfl)) hn hS)

theorem putK_sub {α : Type} {key : α → List UInt8} {a x : α} : ∀ {l : List α}, x ∈ putK key a l → x = a ∨ x ∈ l
  | [], h => by simp [putK] at h; exact .inl h
  | y :: r, h => by
    unfold putK at h
    split at h
    · rcases List.mem_cons.1 h with h | h
      · exact .inl h
      · exact .inr h
    · split at h
      · rcases List.mem_cons.1 h with h | h
        · exact .inl h
        · exact .inr (List.mem_cons_of_mem _ h)
      · rcases List.mem_cons.1 h with h | h
        · exact .inr (by rw [h]; exact List.mem_cons_self)
        · rcases putK_sub h with h | h
          · exact .inl h
          · exact .inr (List.mem_cons_of_mem _ h)

def putsE (es : List Ent) (m : List Ent) : List Ent := es.foldl (fun m e => putK keyE e m) m

theorem putsE_dds : ∀ (es m : List Ent), dds (putsE es m) = (dds es).foldl (fun o d => putK keyD d o) (dds m)
  | [], _ => rfl
  | e :: es, m => by
    have h := putsE_dds es (putK keyE e m)
    unfold putsE dds at *
    rw [List.foldl_cons, h, List.map_cons, List.foldl_cons]
    congr 1
    exact map_putK (f := fun e : Ent => e.1) (ka := keyE) (kb := keyD) (fun _ => rfl) e m

theorem putsE_take (es m : List Ent) (j : Nat) (h : j < es.length) : putsE (es.take (j + 1)) m = putK keyE es[j] (putsE (es.take j) m) := by
  unfold putsE
  rw [List.take_add_one, List.getElem?_eq_getElem h, Option.toList_some, List.foldl_append]
  rfl

theorem putsE_snoc (es m : List Ent) (x : Ent) : putsE (es ++ [x]) m = putK keyE x (putsE es m) := by simp [putsE, List.foldl_append]

theorem putsE_sub : ∀ (es m : List Ent) (x : Ent), x ∈ putsE es m → x ∈ es ∨ x ∈ m
  | [], _, _, h => .inr h
  | e :: es, m, x, h => by
    rcases putsE_sub es (putK keyE e m) x h with h | h
    · exact .inl (List.mem_cons_of_mem _ h)
    · rcases putK_sub h with h | h
      · exact .inl (by rw [h]; exact List.mem_cons_self)
      · exact .inr h

theorem putsE_len (es m : List Ent) : (putsE es m).length ≤ m.length + es.length := by
  have h := puts_len (dds es) (dds m)
  rw [← putsE_dds, dds_len, dds_len, dds_len] at h
  exact h

/-- An edit, put. -/
theorem editE_dds (m : List Ent) (e : EE) : dds (putsE e.new.es (dropK keyE e.key m)) = appS (dds m) (edE e) := by
  unfold appS
  rw [putsE_dds]
  congr 1
  exact map_dropK (f := fun e : Ent => e.1) (ka := keyE) (kb := keyD) (fun _ => rfl) e.key m

theorem appP_take (l : List DD) (p : List EE) (j : Nat) (h : j < p.length) : appP l ((eds p).take (j + 1)) = appS (appP l ((eds p).take j)) (edE p[j]) := by
  rw [eds_take p j h]
  unfold appP
  rw [List.foldl_append]
  rfl

theorem dropKE_len (k : List UInt8) (m : List Ent) : (dropK keyE k m).length ≤ m.length := List.length_filter_le _ _

/-- An edit whose new definitions are valid, of its key, one at most. -/
structure EdOk (e : EE) : Prop where
  key : e.key.length ≤ 3000000
  new : ∀ x ∈ e.new.es, rightD x.1 = true ∧ keyE x = e.key ∧ Len8 x.1
  one : e.new.es.length ≤ 1

theorem ed_ok {A B : List DD} (hA : Snp A) (hB : Snp B) {q : List EE} (hq : eds q = ofL A B) : ∀ e ∈ q, EdOk e := fun e he => by
  have hm : edE e ∈ ofL A B := by rw [← hq]; exact List.mem_map_of_mem he
  have h9 := of_len9 hA hB hq e he
  obtain ⟨h1, h2, h3⟩ := mem_ofL.1 hm
  have hn : dds e.new.es = getK keyD e.key B := h2
  refine ⟨ofL_keylen hA hB e.key (List.mem_map_of_mem (f := ED.key) hm), fun x hx => ?_, ?_⟩
  · have hx' : x.1 ∈ getK keyD e.key B := by rw [← hn]; exact List.mem_map_of_mem hx
    obtain ⟨g1, g2⟩ := mem_getK.1 hx'
    exact ⟨hB.right _ g1, g2, h9.new x hx⟩
  · have := getK_len hB.rise e.key
    rw [← hn, dds_len] at this
    exact this

/-- What merged answers: a new table. -/
def MgPost (w : World) (l : List DD) (e : Ending) (w' : World) : Prop := ∃ b m, e = .returned (.map (some b)) ∧ w.heap.size ≤ b ∧ Tb w' b m ∧ dds m = l ∧ Kept (fun _ => False) w w'

end Go.Proofs.YtlnincdmdegaoaaGreat
