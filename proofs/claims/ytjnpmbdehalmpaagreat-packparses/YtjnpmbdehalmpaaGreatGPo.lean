/-
  Lemmas towards the claim of this folder: contracts of the functions that the law reaches; joined texts.
-/
import Derived.Test.YtjnpmbdehalmpaaGreatGFp
import Derived.Test.YtjnpmbdehalmpaaGreatGPr
import Derived.Test.YtjnpmbdehalmpaaGreatGDg
import Derived.Test.YtjnpmbdehalmpaaGreatGNg
import Derived.Deep.RegionHeld
import Derived.Deep.CutBlock
import Derived.Deep.DeepCutAuto
import Derived.Test.YtjnpmbdehalmpaaGreatRows
import Derived.Shelf.SlIter.Nil
import Derived.Shelf.SortM.Plain
import Derived.Shelf.SortM.SortNone
import Derived.Sort.KeysCollected
/-
  A definition's octets: what is written of it, and that it is read back (plain); def.Write; the reference's Octets.
-/
namespace Go.Proofs.YtjnpmbdehalmpaaGreat
open Go.RowKit Go.Mk

def octD (d : DD) : List UInt8 := bigB 4 d.k.toNat ++ (if d.k = 1 then encT d.c ++ encT d.p ++ encL d.vs else encT d.c ++ encT d.s ++ encT d.t)

def writeD (s : WS) (d : DD) : WS := if rightD d = true then (if d.k = 2 then (((s.num d.k).text d.c).text d.s).text d.t else (((s.num d.k).text d.c).text d.p).texts d.vs) else s.num (-1)

theorem writeD_right (o : List UInt8) (d : DD) (h : rightD d = true) (hs : SmallD d) : writeD ⟨o, 0⟩ d = ⟨o ++ octD d, 0⟩ := by
  have h1 := hs.c; have h2 := hs.p; have h3 := hs.n; have h4 := hs.s; have h5 := hs.t
  have hv : ∀ t ∈ d.vs, t.length ≤ 2147483647 := fun t ht => by have := hs.v t ht; omega
  unfold writeD octD
  rw [if_pos h]
  rcases right_kind h with hk | hk
  · rw [hk, if_neg (by decide), if_pos rfl]
    rw [show (1 : Int) = ((1 : Nat) : Int) from rfl, WS.num_enc _ 1 (by omega), WS.text_enc _ _ (by omega), WS.text_enc _ _ (by omega), WS.texts_enc _ _ (by omega) hv]
    simp [WS.enc]
  · rw [hk, if_pos rfl, if_neg (by decide)]
    rw [show (2 : Int) = ((2 : Nat) : Int) from rfl, WS.num_enc _ 2 (by omega), WS.text_enc _ _ (by omega), WS.text_enc _ _ (by omega), WS.text_enc _ _ (by omega)]
    simp [WS.enc]

theorem writeD_wrong (o : List UInt8) (d : DD) (h : rightD d = false) : writeD ⟨o, 0⟩ d = ⟨o, 2⟩ := by
  unfold writeD
  rw [if_neg (by simp [h])]
  simp [WS.num]

theorem sumL_le (l : List (List UInt8)) (h : ∀ t ∈ l, t.length ≤ 100) : sumL l ≤ 104 * l.length := by
  induction l with
  | nil => simp [sumL]
  | cons t l ih =>
    have h1 := ih (fun t ht => h t (List.mem_cons_of_mem _ ht))
    have h2 := h t List.mem_cons_self
    simp only [sumL, List.map_cons, List.sum_cons, List.length_cons] at *
    omega

theorem octD_len (d : DD) (hs : SmallD d) : (octD d).length ≤ 10000 := by
  have h1 := hs.c; have h2 := hs.p; have h3 := hs.n; have h4 := hs.s; have h5 := hs.t
  have h6 := sumL_le d.vs hs.v
  unfold octD
  rw [List.length_append, bigB_length]
  split
  · simp only [List.length_append, encT_len, encL_len]; omega
  · simp only [List.length_append, encT_len]; omega

/-- What was written of a valid one is read back. -/
theorem read_oct (d : DD) (t : List UInt8) (h : rightD d = true) (hs : SmallD d) : fieldsR ⟨octD d ++ t, 0⟩ = (⟨t, 0⟩, d) := by
  have h1 := hs.c; have h2 := hs.p; have h3 := hs.n; have h4 := hs.s; have h5 := hs.t
  have hv : ∀ t ∈ d.vs, t.length ≤ 2147483647 := fun t ht => by have := hs.v t ht; omega
  obtain ⟨k, c, p, vs, s, x⟩ := d
  dsimp only at h1 h2 h3 h4 h5 hv
  rcases right_kind h with hk | hk
  · dsimp only at hk
    subst hk
    have hr := h
    rw [rightD_one rfl] at hr
    simp only [rightC, Bool.and_eq_true, List.isEmpty_iff] at hr
    obtain ⟨⟨_, rfl⟩, rfl⟩ := hr
    have e0 : octD ⟨1, c, p, vs, [], []⟩ ++ t = bigB 4 1 ++ (encT c ++ (encT p ++ (encL vs ++ t))) := by simp [octD]
    have e1 := read_num 1 (encT c ++ (encT p ++ (encL vs ++ t))) (by omega)
    have e2 := read_text c (encT p ++ (encL vs ++ t)) (by omega)
    have e3 := read_text p (encL vs ++ t) (by omega)
    have e4 := read_texts vs t (by omega) hv
    rw [e0]
    unfold fieldsR
    rw [e1]
    simp [e2, e3, e4]
  · dsimp only at hk
    subst hk
    have hr := h
    rw [rightD_two rfl] at hr
    simp only [rightM, Bool.and_eq_true, List.isEmpty_iff] at hr
    obtain ⟨⟨_, rfl⟩, rfl⟩ := hr
    have e0 : octD ⟨2, c, [], [], s, x⟩ ++ t = bigB 4 2 ++ (encT c ++ (encT s ++ (encT x ++ t))) := by simp [octD]
    have e1 := read_num 2 (encT c ++ (encT s ++ (encT x ++ t))) (by omega)
    have e2 := read_text c (encT s ++ (encT x ++ t)) (by omega)
    have e3 := read_text s (encT x ++ t) (by omega)
    have e4 := read_text x t (by omega)
    rw [e0]
    unfold fieldsR
    rw [e1]
    simp [e2, e3, e4]

theorem judge_oct (d : DD) (t : List UInt8) (h : rightD d = true) (hs : SmallD d) : judgeR (fieldsR ⟨octD d ++ t, 0⟩) = (d, 0) := by
  rw [read_oct d t h hs]
  simp [judgeR, h]

theorem strs_map (l : List (List UInt8)) : (l.map bs).map .string = strs l := by
  unfold strs
  rw [List.map_map]
  rfl
theorem strL_map (l : List (List UInt8)) : strL (l.map bs) = l := by
  unfold strL
  rw [List.map_map]
  exact List.map_id _

theorem WrF.textsL {w : World} {F : Nat → Prop} {b : Nat} {s : WS} (h : WrF w F b s) (hF : ∀ k, w.heap.size ≤ k → F k) (la : Option Addr) (lc : Nat) (l : List (List UInt8)) {B : Nat} (hL : Lies w B la (strs l)) (hna : l ≠ [] → ∀ a, la = some a → ¬ F a.block) (hl : s.out.length + 4 + sumL l ≤ 274877906944) (hn : l.length ≤ 274877906944) (hs : ∀ t ∈ l, t.length ≤ 274877906944) :
    Calls Tryz.prog 26 #[.pointer (some ⟨b, 0, none⟩), .slice la l.length lc] w (WrFPost w F b (s.texts l)) := by
  have := WrF.texts h hF la lc (l.map bs) (B := B) (by rw [strs_map]; exact hL) (fun hne => hna (fun e => hne (by rw [e]; rfl))) (by rw [strL_map]; exact hl) (by rw [List.length_map]; exact hn) (fun t ht => by obtain ⟨x, hx, rfl⟩ := List.mem_map.1 ht; exact hs x hx)
  rwa [strL_map, List.length_map] at this

theorem rtextsL_any (la : Option Addr) (lc : Nat) (l : List (List UInt8)) (B : Nat) (w : World) (hB : B ≤ w.heap.size) (hL : Lies w B la (strs l)) (hn : l.length ≤ 2147483647) (hs : ∀ t ∈ l, t.length ≤ 2147483647) (hz : sumL l ≤ 1099511627776) :
    Calls Tryz.prog 47 #[.slice la l.length lc] w fun e w' => e = .returned (.string (bs (encL l))) ∧ Below w.heap.size w w' := by
  have := rtexts_any la lc (l.map bs) B w hB (by rw [strs_map]; exact hL) (by rw [List.length_map]; exact hn) (fun t ht => by obtain ⟨x, hx, rfl⟩ := List.mem_map.1 ht; exact hs x hx) (by rw [strL_map]; exact hz)
  rwa [strL_map, List.length_map] at this

end Go.Proofs.YtjnpmbdehalmpaaGreat

/-
  The library's maps.Keys, slices.Sorted and slices.Sort, as this program bears them.
-/
namespace Go.Proofs.YtjnpmbdehalmpaaGreat
open Go.RowKit Go.Maps Go.Sort Go.Shelf

def keysRen : Ren := ⟨fun | 7 => 84 | 10 => 105 | n => n,
  fun | 23 => 85 | 26 => 9 | 3 => 46 | 28 => 109 | 0 => 0 | 27 => 108 | 33 => 48 | 4 => 4 | n => n, fun n => n⟩

theorem keysLays : SlLaysZ.n7 Tryz.prog keysRen := {
  mixed := by kernel_rfl
  f7 := ⟨Tryz.f84.name, of_decide_eq_true (by kernel_rfl), Tryz.func84.trans (congrArg some (by kernel_rfl))⟩
  f10 := ⟨Tryz.f105.name, of_decide_eq_true (by kernel_rfl), Tryz.func105.trans (congrArg some (by kernel_rfl))⟩
  t0 := Tryz.underlying0
  a0 := Tryz.isAgg0
  z0 := Tryz.sizeOf0
  v0 := Tryz.zeroValue0
  t4 := Tryz.underlying4
  a4 := Tryz.isAgg4
  z4 := Tryz.sizeOf4
  v4 := Tryz.zeroValue4
  t23 := Tryz.underlying85
  a23 := Tryz.isAgg85
  z23 := Tryz.sizeOf85
  v23 := Tryz.zeroValue85
  t26 := Tryz.underlying9
  a26 := Tryz.isAgg9
  z26 := Tryz.sizeOf9
  v26 := Tryz.zeroValue9
  t27 := Tryz.underlying108
  a27 := Tryz.isAgg108
  z27 := Tryz.sizeOf108
  v27 := Tryz.zeroValue108
  t28 := Tryz.underlying109
  a28 := Tryz.isAgg109
  z28 := Tryz.sizeOf109
  v28 := Tryz.zeroValue109
  t33 := Tryz.underlying48
  a33 := Tryz.isAgg48
  z33 := Tryz.sizeOf48
  v33 := Tryz.zeroValue48
}

def sortedRen : Ren := ⟨fun | 6 => 83 | 8 => 103 | 9 => 104 | 11 => 110 | 13 => 112 | 12 => 111 | 23 => 126 | 24 => 127 | 14 => 117 | 15 => 118 | 16 => 119 | 17 => 120 | 18 => 121 | 19 => 122 | 20 => 123 | 21 => 124 | 22 => 125 | 25 => 132 | 26 => 133 | 27 => 134 | 28 => 135 | 29 => 136 | 30 => 137 | 31 => 140 | n => n,
  fun | 26 => 9 | 28 => 109 | 24 => 22 | 0 => 0 | 3 => 3 | 37 => 117 | 48 => 96 | 50 => 94 | 4 => 4 | 40 => 134 | 39 => 133 | 45 => 139 | 5 => 5 | 9 => 9 | 51 => 144 | 55 => 148 | 57 => 151 | 58 => 152 | 33 => 48 | n => n, fun n => n⟩

theorem sortedLays : SlLaysZ.n6 Tryz.prog sortedRen := {
  mixed := by kernel_rfl
  f6 := ⟨Tryz.f83.name, of_decide_eq_true (by kernel_rfl), Tryz.func83.trans (congrArg some (by kernel_rfl))⟩
  f8 := ⟨Tryz.f103.name, of_decide_eq_true (by kernel_rfl), Tryz.func103.trans (congrArg some (by kernel_rfl))⟩
  f11 := ⟨Tryz.f110.name, of_decide_eq_true (by kernel_rfl), Tryz.func110.trans (congrArg some (by kernel_rfl))⟩
  t0 := Tryz.underlying0
  a0 := Tryz.isAgg0
  z0 := Tryz.sizeOf0
  v0 := Tryz.zeroValue0
  t24 := Tryz.underlying22
  a24 := Tryz.isAgg22
  z24 := Tryz.sizeOf22
  v24 := Tryz.zeroValue22
  t26 := Tryz.underlying9
  a26 := Tryz.isAgg9
  z26 := Tryz.sizeOf9
  v26 := Tryz.zeroValue9
  t28 := Tryz.underlying109
  a28 := Tryz.isAgg109
  z28 := Tryz.sizeOf109
  v28 := Tryz.zeroValue109
  i26 := by kernel_rfl
}

def sortRen : Ren := ⟨fun | 6 => 104 | 8 => 112 | 9 => 111 | 19 => 126 | 20 => 127 | 21 => 117 | 22 => 118 | 23 => 119 | 24 => 120 | 25 => 121 | 26 => 122 | 27 => 123 | 28 => 124 | 29 => 125 | 36 => 132 | 31 => 133 | 32 => 134 | 37 => 135 | 38 => 136 | 39 => 137 | 41 => 140 | n => n,
  fun | 27 => 22 | 29 => 9 | 3 => 3 | 32 => 117 | 26 => 22 | 0 => 0 | 44 => 96 | 46 => 94 | 4 => 4 | 36 => 134 | 35 => 133 | 41 => 139 | 5 => 5 | 9 => 9 | 53 => 144 | 57 => 148 | 63 => 151 | 64 => 152 | n => n, fun n => n⟩

theorem sortLays : SlLaysM.n6 Tryz.prog sortRen := {
  mixed := by kernel_rfl
  f6 := ⟨Tryz.f104.name, of_decide_eq_true (by kernel_rfl), Tryz.func104.trans (congrArg some (by kernel_rfl))⟩
  f8 := Tryz.func112.trans (congrArg some (by kernel_rfl))
  f9 := ⟨Tryz.f111.name, of_decide_eq_true (by kernel_rfl), Tryz.func111.trans (congrArg some (by kernel_rfl))⟩
  f19 := Tryz.func126.trans (congrArg some (by kernel_rfl))
  f20 := Tryz.func127.trans (congrArg some (by kernel_rfl))
  f21 := ⟨Tryz.f117.name, of_decide_eq_true (by kernel_rfl), Tryz.func117.trans (congrArg some (by kernel_rfl))⟩
  f22 := ⟨Tryz.f118.name, of_decide_eq_true (by kernel_rfl), Tryz.func118.trans (congrArg some (by kernel_rfl))⟩
  f23 := ⟨Tryz.f119.name, of_decide_eq_true (by kernel_rfl), Tryz.func119.trans (congrArg some (by kernel_rfl))⟩
  f24 := ⟨Tryz.f120.name, of_decide_eq_true (by kernel_rfl), Tryz.func120.trans (congrArg some (by kernel_rfl))⟩
  f25 := ⟨Tryz.f121.name, of_decide_eq_true (by kernel_rfl), Tryz.func121.trans (congrArg some (by kernel_rfl))⟩
  f26 := ⟨Tryz.f122.name, of_decide_eq_true (by kernel_rfl), Tryz.func122.trans (congrArg some (by kernel_rfl))⟩
  f27 := ⟨Tryz.f123.name, of_decide_eq_true (by kernel_rfl), Tryz.func123.trans (congrArg some (by kernel_rfl))⟩
  f28 := ⟨Tryz.f124.name, of_decide_eq_true (by kernel_rfl), Tryz.func124.trans (congrArg some (by kernel_rfl))⟩
  f29 := ⟨Tryz.f125.name, of_decide_eq_true (by kernel_rfl), Tryz.func125.trans (congrArg some (by kernel_rfl))⟩
  f31 := Tryz.func133.trans (congrArg some (by kernel_rfl))
  f32 := Tryz.func134.trans (congrArg some (by kernel_rfl))
  f36 := ⟨Tryz.f132.name, of_decide_eq_true (by kernel_rfl), Tryz.func132.trans (congrArg some (by kernel_rfl))⟩
  f37 := ⟨Tryz.f135.name, of_decide_eq_true (by kernel_rfl), Tryz.func135.trans (congrArg some (by kernel_rfl))⟩
  f38 := ⟨Tryz.f136.name, of_decide_eq_true (by kernel_rfl), Tryz.func136.trans (congrArg some (by kernel_rfl))⟩
  f39 := ⟨Tryz.f137.name, of_decide_eq_true (by kernel_rfl), Tryz.func137.trans (congrArg some (by kernel_rfl))⟩
  f41 := ⟨Tryz.f140.name, of_decide_eq_true (by kernel_rfl), Tryz.func140.trans (congrArg some (by kernel_rfl))⟩
  t0 := Tryz.underlying0
  a0 := Tryz.isAgg0
  z0 := Tryz.sizeOf0
  v0 := Tryz.zeroValue0
  t3 := Tryz.underlying3
  a3 := Tryz.isAgg3
  z3 := Tryz.sizeOf3
  v3 := Tryz.zeroValue3
  t4 := Tryz.underlying4
  a4 := Tryz.isAgg4
  z4 := Tryz.sizeOf4
  v4 := Tryz.zeroValue4
  t5 := Tryz.underlying5
  a5 := Tryz.isAgg5
  z5 := Tryz.sizeOf5
  v5 := Tryz.zeroValue5
  t9 := Tryz.underlying9
  a9 := Tryz.isAgg9
  z9 := Tryz.sizeOf9
  v9 := Tryz.zeroValue9
  t26 := Tryz.underlying22
  a26 := Tryz.isAgg22
  z26 := Tryz.sizeOf22
  v26 := Tryz.zeroValue22
  t27 := Tryz.underlying22
  a27 := Tryz.isAgg22
  z27 := Tryz.sizeOf22
  v27 := Tryz.zeroValue22
  t29 := Tryz.underlying9
  a29 := Tryz.isAgg9
  z29 := Tryz.sizeOf9
  v29 := Tryz.zeroValue9
  t32 := Tryz.underlying117
  a32 := Tryz.isAgg117
  z32 := Tryz.sizeOf117
  v32 := Tryz.zeroValue117
  t35 := Tryz.underlying133
  a35 := Tryz.isAgg133
  z35 := Tryz.sizeOf133
  v35 := Tryz.zeroValue133
  t36 := Tryz.underlying134
  a36 := Tryz.isAgg134
  z36 := Tryz.sizeOf134
  v36 := Tryz.zeroValue134
  t41 := Tryz.underlying139
  a41 := Tryz.isAgg139
  z41 := Tryz.sizeOf139
  v41 := Tryz.zeroValue139
  t44 := Tryz.underlying96
  a44 := Tryz.isAgg96
  z44 := Tryz.sizeOf96
  v44 := Tryz.zeroValue96
  t46 := Tryz.underlying94
  a46 := Tryz.isAgg94
  z46 := Tryz.sizeOf94
  v46 := Tryz.zeroValue94
  t53 := Tryz.underlying144
  a53 := Tryz.isAgg144
  z53 := Tryz.sizeOf144
  v53 := Tryz.zeroValue144
  t57 := Tryz.underlying148
  a57 := Tryz.isAgg148
  z57 := Tryz.sizeOf148
  v57 := Tryz.zeroValue148
  t63 := Tryz.underlying151
  a63 := Tryz.isAgg151
  z63 := Tryz.sizeOf151
  v63 := Tryz.zeroValue151
  t64 := Tryz.underlying152
  a64 := Tryz.isAgg152
  z64 := Tryz.sizeOf152
  v64 := Tryz.zeroValue152
}

/-- slices.Sort's two contracts, at the fence that asks nothing. -/
theorem sortsIn (m : Nat) : AnyZ.SortsIn Tryz.prog sortedRen Fence.wide m :=
  ⟨fun blk off cap ss W hH hblk hsz => callsIn_wide.2 (AnyM.slices_Sort_string sortLays blk off cap ss W hH hblk hsz),
   fun p cap W => callsIn_wide.2 (AnyM.slices_Sort_string_none sortLays p cap W)⟩

end Go.Proofs.YtjnpmbdehalmpaaGreat

/-
  slices.Sorted(maps.Keys(m)) of a table: its keys, rising; All.
-/
namespace Go.Proofs.YtjnpmbdehalmpaaGreat
open Go.RowKit Go.Mk Go.Maps Go.Shelf

theorem dat_keys (l : List Ent) : strKeys (datM l) = l.map keyE := by
  simp [strKeys, datM, strOf, Function.comp_def]

theorem keys_sorted {m : List Ent} (h : Rise keyE m) {ss : List (List UInt8)} (hp : ss.Perm (strKeys (datM m))) : ss.mergeSort (fun x y => decide (x ≤ y)) = m.map keyE := by
  rw [dat_keys] at hp
  rw [show ss.mergeSort (fun x y => decide (x ≤ y)) = (m.map keyE).mergeSort leB from mergeSort_of_perm hp]
  refine List.mergeSort_of_pairwise ?_
  rw [List.pairwise_map]
  refine h.imp ?_
  intro a b hab
  simp only [leB, decide_eq_true_eq]
  exact List.le_of_lt hab

set_option maxHeartbeats 400000 in
theorem mkeys_any (mb : Option Nat) (w : World) : Calls Tryz.prog 84 #[.map mb] w fun e w' => e = .returned (.func (.func 105) #[] #[.pointer (some ⟨w.heap.size, 0, none⟩)]) ∧ w' = w.alloc (.cells #[.map mb] 85) := by
  go_enter Tryz.func84, Tryz.ntmps84
  go_wp2
  go_ret
  exact ⟨rfl, rfl⟩

def KsPost (w : World) (m : List Ent) (e : Ending) (w' : World) : Prop := ∃ ao cap, e = .returned (.slice ao m.length cap) ∧ w'.ownsRow w.heap.size 9 1 (.slice ao m.length cap) m.length (strs (m.map keyE)) ∧ Kept (fun _ => False) w w'

theorem kept_of_belowsize {w w' : World} (h : Below w.heap.size w w') : Kept (fun _ => False) w w' := ⟨h.os, h.tape, h.output, h.size, fun k hk _ => h.block k hk⟩

theorem ksorted_some (b : Nat) (m : List Ent) (Bm : Nat) (w : World) (hB : Bm < w.heap.size) (hm : w.cell? ⟨Bm, 0, none⟩ = some (.map (some b))) (ht : Tb w b m) (hl : m.length ≤ 1000000) :
    Calls Tryz.prog 83 #[.func (.func 105) #[] #[.pointer (some ⟨Bm, 0, none⟩)]] w (KsPost w m) := by
  have hseq : SeqGives Fence.wide 2 Tryz.prog 105 #[.pointer (some ⟨Bm, 0, none⟩)] encStr (fun ss => ss.Perm (strKeys (datM m))) (Maps.size (datM m)) w :=
    AnyZ.keys_gives (ρ := keysRen) { keysLays with } Fence.wide _ trivial rfl (by omega) Bm b m.length (datM m) w hB hm ht.own
  have hsz := dat_size m
  have cS := AnyZ.sorted_in sortedLays Fence.wide 5 trivial trivial trivial trivial rfl (by omega) (sortsIn _) (enters_of Tryz.func104 (by kernel_rfl) rfl) 105 #[.pointer (some ⟨Bm, 0, none⟩)] trivial (enters_of Tryz.func105 (by kernel_rfl) rfl) _ _ (by rw [hsz]; unfold maxLen; omega) (by rw [hsz]; omega) _ hseq
  change CallsIn _ _ Tryz.prog 83 _ _ _ at cS
  refine (callsIn_wide.1 cS).mono fun e w' ⟨v, ss, he, hp, hrow, _, hb⟩ => ?_
  rw [keys_sorted ht.rise hp] at hrow
  have hlen : ss.length = m.length := by have := hp.length_eq; rw [dat_keys, List.length_map] at this; exact this
  rw [hlen] at hrow
  obtain ⟨ao, cap, rfl⟩ := owns_slice hrow
  exact ⟨ao, cap, he, hrow, kept_of_belowsize hb⟩

theorem ksorted_nil (Bm : Nat) (w : World) (hB : Bm < w.heap.size) (hm : w.cell? ⟨Bm, 0, none⟩ = some (.map none)) :
    Calls Tryz.prog 83 #[.func (.func 105) #[] #[.pointer (some ⟨Bm, 0, none⟩)]] w (KsPost w []) := by
  have hseq : SeqGives Fence.wide 2 Tryz.prog 105 #[.pointer (some ⟨Bm, 0, none⟩)] encStr (fun ss : List (List UInt8) => ss = []) 0 w :=
    AnyZ.keys_gives_nil (ρ := keysRen) { keysLays with } Fence.wide _ trivial rfl Bm w hB hm
  have cS := AnyZ.sorted_in sortedLays Fence.wide 5 trivial trivial trivial trivial rfl (by omega) (sortsIn _) (enters_of Tryz.func104 (by kernel_rfl) rfl) 105 #[.pointer (some ⟨Bm, 0, none⟩)] trivial (enters_of Tryz.func105 (by kernel_rfl) rfl) _ 0 (Nat.zero_le _) (by omega) _ hseq
  change CallsIn _ _ Tryz.prog 83 _ _ _ at cS
  refine (callsIn_wide.1 cS).mono fun e w' ⟨v, ss, he, hp, hrow, _, hb⟩ => ?_
  subst hp
  rw [List.mergeSort_nil] at hrow
  obtain ⟨ao, cap, rfl⟩ := owns_slice hrow
  exact ⟨ao, cap, he, hrow, kept_of_belowsize hb⟩

theorem ksorted_any (p : Option Nat) (m : List Ent) (Bm : Nat) (w : World) (hm : w.cell? ⟨Bm, 0, none⟩ = some (.map p)) (ht : TbO w p m) (hl : m.length ≤ 1000000) :
    Calls Tryz.prog 83 #[.func (.func 105) #[] #[.pointer (some ⟨Bm, 0, none⟩)]] w (KsPost w m) := by
  have hB : Bm < w.heap.size := World.block_lt_of_cell? _ _ hm
  rcases ht with ⟨rfl, rfl⟩ | ⟨b, rfl, ht⟩
  · exact ksorted_nil Bm w hB hm
  · exact ksorted_some b m Bm w hB hm ht hl

/-- What All's function has captured: the keys and the table. -/
structure Al (w : World) (p : Option Nat) (m : List Ent) (Bk Bm : Nat) (wx : World) : Prop where
  keys : ∃ ao cap, wx.cell? ⟨Bk, 0, none⟩ = some (.slice ao m.length cap) ∧ wx.ownsRow w.heap.size 9 1 (.slice ao m.length cap) m.length (strs (m.map keyE))
  tab : wx.cell? ⟨Bm, 0, none⟩ = some (.map p)
  tb : TbO wx p m
  k : Kept (fun _ => False) w wx
  bk : w.heap.size ≤ Bk
  bm : w.heap.size ≤ Bm

set_option maxHeartbeats 400000 in
theorem all_any (v : Value) (p : Option Nat) (m : List Ent) (w : World) (hp : SnP w v p) (ht : TbO w p m) (hl : m.length ≤ 1000000) :
    Calls Tryz.prog 41 #[v] w fun e w' => ∃ Bk Bm, e = .returned (.func (.func 85) #[] #[.pointer (some ⟨Bk, 0, none⟩), .pointer (some ⟨Bm, 0, none⟩)]) ∧ Al w p m Bk Bm w' := by
  have HT := Lib.hid (table_any hp)
  have KA := Lib.hid ((Kept.refl (fun _ => False) w).alloc (.cells #[.map p] 85))
  have CA := Lib.hid (show (w.alloc (.cells #[.map p] 85)).cell? ⟨w.heap.size, 0, none⟩ = some (.map p) from World.cell?_alloc_new w _ _ 0)
  have TB := Lib.hid ht; have HL := Lib.hid hl
  clear hp ht hl
  go_enter Tryz.func41, Tryz.ntmps41
  go_wp2_with fail
  refine HT.out.mono ?_; rintro e w1 ⟨rfl, rfl⟩
  have ca := CA.out
  go_wp2_with fail
  refine (mkeys_any p _).mono ?_; rintro e w1 ⟨rfl, hw1⟩
  have K1 := Lib.hid (KA.out.trans (show Kept (fun _ => False) (w.alloc (.cells #[.map p] 85)) w1 by rw [hw1]; exact (Kept.refl _ _).alloc _) (fun _ _ h => h))
  have C1 := Lib.hid (show w1.cell? ⟨w.heap.size, 0, none⟩ = some (.map p) by
    rw [hw1, World.cell?_alloc_lt _ _ _ (by simp)]; exact CA.out)
  have D1 := Lib.hid (show w1.cell? ⟨(w.alloc (.cells #[.map p] 85)).heap.size, 0, none⟩ = some (.map p) by rw [hw1]; exact World.cell?_alloc_new _ _ _ 0)
  have S1 := Lib.hid (show w1.heap.size = w.heap.size + 2 by rw [hw1]; simp)
  clear hw1 ca
  rw [World.size_alloc] at D1 ⊢
  go_wp2_with fail
  refine (ksorted_any p m (w.heap.size + 1) w1 D1.out (TB.out.keep K1.out) HL.out).mono ?_
  rintro e w2 ⟨ao, cap, rfl, ho, k2⟩
  have hs2 := k2.size
  have K2 := Lib.hid (K1.out.trans k2 (fun _ _ h => h))
  have C2 := Lib.hid ((k2.cell (p := ⟨w.heap.size, 0, none⟩) (World.block_lt_of_cell? _ _ C1.out) (fun h => h)).trans C1.out)
  have AL := Lib.hid (show Al w p m w2.heap.size w.heap.size (w2.alloc (.cells #[.slice ao m.length cap] 22)) from
    ⟨⟨ao, cap, World.cell?_alloc_new _ _ _ 0, owns_base (owns_kept (S := fun _ => False) ho ((Kept.refl _ _).alloc _) (fun _ _ h => h)) (fun k hk => by have := (owns_lt ho k hk).1; have := S1.out; omega)⟩,
      by rw [World.cell?_alloc_lt _ _ _ (World.block_lt_of_cell? _ _ C2.out)]; exact C2.out, (TB.out.keep K2.out).keep ((Kept.refl _ _).alloc _), K2.out.alloc _, by have := S1.out; omega, Nat.le_refl _⟩)
  clear ho k2
  go_wp2
  go_ret
  exact ⟨_, _, rfl, AL.out⟩

end Go.Proofs.YtjnpmbdehalmpaaGreat
