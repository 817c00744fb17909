/-
  The laws of layer 10: three snapshots and the reference's lists, in arrays.
-/
import Derived.Test.YtlnincdmdegaoaaGreatL10o
import Derived.Test.YtlnincdmdegaoaaGreatR10b
import Derived.Test.YtlnincdmdegaoaaGreatL8x
import Derived.Test.YtlnincdmdegaoaaGreatGSk
namespace Go.Proofs.YtlnincdmdegaoaaGreat
open Go.RowKit Go.Mk Go.Maps

structure Q10 (w : World) (n1 n2 : Nat) (P : Nat → Option Addr) (X : Nat → SD) (wx : World) : Prop where
  p : A3 wx n1 (fun i => .pointer (P i))
  x : A3 wx n2 (valS X)
  sn : ∀ i, i < 3 → Sn wx (.pointer (P i)) (dds (X i).es)
  rl : ∀ i, i < 3 → Rl wx (X i).ao (X i).es
  k : Kept (fun _ => False) w wx

theorem Q10.keep {w : World} {n1 n2 : Nat} {P : Nat → Option Addr} {X : Nat → SD} {wx wy : World} (h : Q10 w n1 n2 P X wx) (hk : Kept (fun _ => False) wx wy) : Q10 w n1 n2 P X wy :=
  ⟨h.p.kept hk (fun h => h), h.x.kept hk (fun h => h), fun i hi => (h.sn i hi).keep hk, fun i hi => (h.rl i hi).keep hk, h.k.trans hk (fun _ _ h => h)⟩

theorem Q10.snp {w : World} {n1 n2 : Nat} {P : Nat → Option Addr} {X : Nat → SD} {wx : World} (h : Q10 w n1 n2 P X wx) (i : Nat) (hi : i < 3) : Snp (dds (X i).es) := ⟨(h.sn i hi).rise, (h.sn i hi).right⟩

/-- The cells that a law reads. -/
theorem Q10.cells {w : World} {n1 n2 : Nat} {P : Nat → Option Addr} {X : Nat → SD} {wx : World} (h : Q10 w n1 n2 P X wx) :
    wx.cell? ⟨n1, 0, none⟩ = some (.pointer (P 0)) ∧ wx.cell? ⟨n1, 1, none⟩ = some (.pointer (P 1)) ∧ wx.cell? ⟨n1, 2, none⟩ = some (.pointer (P 2)) ∧
    wx.cell? ⟨n2, 0, none⟩ = some (.slice (X 0).ao (X 0).es.length (X 0).cap) ∧ wx.cell? ⟨n2, 1, none⟩ = some (.slice (X 1).ao (X 1).es.length (X 1).cap) ∧ wx.cell? ⟨n2, 2, none⟩ = some (.slice (X 2).ao (X 2).es.length (X 2).cap) :=
  ⟨h.p.c 0 (by omega), h.p.c 1 (by omega), h.p.c 2 (by omega), h.x.c 0 (by omega), h.x.c 1 (by omega), h.x.c 2 (by omega)⟩

theorem q10_new {w w5 : World} {L : Nat → SD} {P : Nat → Option Addr} {X : Nat → SD} (k : Kept (fun _ => False) w w5) (hd : ∀ i, i < 3 → Done w5 (L i) (.pointer (P i)) (X i)) :
    Q10 w w5.heap.size (w5.heap.size + 1) P X ((w5.alloc (.cells #[.pointer (P 0), .pointer (P 1), .pointer (P 2)] 27)).alloc (.cells #[.slice (X 0).ao (X 0).es.length (X 0).cap, .slice (X 1).ao (X 1).es.length (X 1).cap, .slice (X 2).ao (X 2).es.length (X 2).cap] 23)) := by
  have hp : ∀ a, isPS (.pointer a) := fun a => .inl ⟨_, rfl⟩
  have hs : ∀ a n c, isPS (.slice a n c) := fun a n c => .inr ⟨_, _, _, rfl⟩
  have a1 := a3_new w5 (.pointer (P 0)) (.pointer (P 1)) (.pointer (P 2)) 27 (hp _) (hp _) (hp _) (fun i => .pointer (P i)) rfl rfl rfl
  have a2 := a3_new (w5.alloc (.cells #[.pointer (P 0), .pointer (P 1), .pointer (P 2)] 27)) (.slice (X 0).ao (X 0).es.length (X 0).cap) (.slice (X 1).ao (X 1).es.length (X 1).cap) (.slice (X 2).ao (X 2).es.length (X 2).cap) 23 (hs _ _ _) (hs _ _ _) (hs _ _ _) (valS X) rfl rfl rfl
  rw [World.size_alloc] at a2
  have k1 := (Kept.refl (fun _ => False) w5).alloc (.cells #[.pointer (P 0), .pointer (P 1), .pointer (P 2)] 27)
  have k2 := (Kept.refl (fun _ => False) (w5.alloc (.cells #[.pointer (P 0), .pointer (P 1), .pointer (P 2)] 27))).alloc (.cells #[.slice (X 0).ao (X 0).es.length (X 0).cap, .slice (X 1).ao (X 1).es.length (X 1).cap, .slice (X 2).ao (X 2).es.length (X 2).cap] 23)
  exact ⟨a1.kept k2 (fun h => h), a2, fun i hi => ((hd i hi).sn.keep k1).keep k2, fun i hi => ((hd i hi).rl.keep k1).keep k2, (k.trans k1 (fun _ _ h => h)).trans k2 (fun _ _ h => h)⟩

theorem keys3_le (A B C : List DD) : (keys3 A B C).length ≤ A.length + B.length + C.length := by
  have h2 : ∀ (l : List DD) (s : List (List UInt8)), Rise id s → (l.foldl (fun s d => putK id (keyD d) s) s).length ≤ s.length + l.length := by
    intro l
    induction l with
    | nil => intro s _; simp
    | cons d r ih =>
      intro s hs
      rw [List.foldl_cons]
      have h3 := ih _ (rise_putK (a := keyD d) hs)
      have h4 := putK_le (a := keyD d) hs
      simp only [List.length_cons]
      omega
  have h3 := h2 (A ++ B ++ C) [] List.Pairwise.nil
  simp only [List.length_nil, List.length_append, Nat.zero_add] at h3
  unfold keys3 keysL
  omega

theorem merge_le {A B C : List DD} (hB : Snp B) (hC : Snp C) : (mergeD A B C).length ≤ A.length + B.length + C.length := by
  have h1 : ∀ (s : List (List UInt8)) (f : List UInt8 → List DD), (∀ k, (f k).length ≤ 1) → (s.flatMap f).length ≤ s.length := by
    intro s f hf
    induction s with
    | nil => simp
    | cons k r ih => rw [List.flatMap_cons, List.length_append, List.length_cons]; have := hf k; omega
  have h2 : ∀ (l : List DD) (s : List (List UInt8)), Rise id s → (l.foldl (fun s d => putK id (keyD d) s) s).length ≤ s.length + l.length := by
    intro l
    induction l with
    | nil => intro s _; simp
    | cons d r ih =>
      intro s hs
      rw [List.foldl_cons]
      have h3 := ih _ (rise_putK (a := keyD d) hs)
      have h4 := putK_le (a := keyD d) hs
      simp only [List.length_cons]
      omega
  have h3 := h2 (A ++ B ++ C) [] List.Pairwise.nil
  simp only [List.length_nil, List.length_append, Nat.zero_add] at h3
  have h4 := h1 (keys3 A B C) (fun k => (mgK A B C k).getD []) (fun k => mg_len hB.rise hC.rise k [] (Nat.zero_le _))
  unfold mergeD
  unfold keys3 keysL at h4 ⊢
  omega

theorem choose_le {A B C : List DD} (hB : Snp B) (hC : Snp C) : (chooseD (fun _ => true) A B C).length ≤ A.length + B.length + C.length := by
  have h1 : ∀ (s : List (List UInt8)) (f : List UInt8 → List DD), (∀ k, (f k).length ≤ 1) → (s.flatMap f).length ≤ s.length := by
    intro s f hf
    induction s with
    | nil => simp
    | cons k r ih => rw [List.flatMap_cons, List.length_append, List.length_cons]; have := hf k; omega
  have h2 : ∀ (l : List DD) (s : List (List UInt8)), Rise id s → (l.foldl (fun s d => putK id (keyD d) s) s).length ≤ s.length + l.length := by
    intro l
    induction l with
    | nil => intro s _; simp
    | cons d r ih =>
      intro s hs
      rw [List.foldl_cons]
      have h3 := ih _ (rise_putK (a := keyD d) hs)
      have h4 := putK_le (a := keyD d) hs
      simp only [List.length_cons]
      omega
  have h3 := h2 (A ++ B ++ C) [] List.Pairwise.nil
  simp only [List.length_nil, List.length_append, Nat.zero_add] at h3
  have h4 := h1 (keys3 A B C) (fun k => (mgK A B C k).getD (if (fun _ => true) k = true then getK keyD k B else getK keyD k C)) (fun k => mg_len hB.rise hC.rise k _ (by split; exact getK_len hB.rise k; exact getK_len hC.rise k))
  unfold chooseD
  unfold keys3 keysL at h4 ⊢
  omega

end Go.Proofs.YtlnincdmdegaoaaGreat
