/-
  CONTRACTS of package octet's Writer.
-/
import Derived.Test.YtjnpmbdehalmpaaGreatGNb
namespace Go.Proofs.YtjnpmbdehalmpaaGreat
open Go.RowKit Go.Mk


/-- The k lowest bytes of a number, the most significant one first. -/
def bigB : Nat → Nat → List UInt8
  | 0, _ => []
  | k + 1, u => UInt8.ofNat (u / 256 ^ k) :: bigB k u

theorem bigB_length (k u : Nat) : (bigB k u).length = k := by induction k with
  | zero => rfl
  | succ k ih => simp [bigB, ih]

theorem big_byte (u q : Nat) : Value.int .u8 ((u : Int) / 2 ^ (8 * (q + 1) - 8) % 256) = bv (UInt8.ofNat (u / 256 ^ q)) := by
  have e : 8 * (q + 1) - 8 = 8 * q := by omega
  have e2 : (2 : Nat) ^ (8 * q) = 256 ^ q := by rw [Nat.pow_mul]
  have e3 : ((2 : Int) ^ (8 * q)) = ((256 ^ q : Nat) : Int) := by rw [← e2]; norm_cast
  rw [e, e3]
  simp only [bv, UInt8.toNat_ofNat']
  congr 1

set_option maxHeartbeats 400000 in
set_option maxRecDepth 100000 in
theorem appendBig_any (v : Value) (n : Nat) (xs : List Value) (u k : Nat) (w : World) (hown : w.ownsRow 0 5 1 v n xs) (hk1 : 1 ≤ k) (hk8 : k ≤ 8) (hn : n ≤ 1099511627776) :
    Calls Tryz.prog 66 #[v, .int .u64 u, .int .i64 k] w fun e w' => ∃ v', e = .returned v' ∧ w'.ownsRow 0 5 1 v' (n + k) (xs ++ (bigB k u).map bv) ∧ w.grownBy w' v.ownBlock ∧ (v'.ownBlock = v.ownBlock ∨ ∃ b, v'.ownBlock = some b ∧ w.heap.size ≤ b) := by
  obtain ⟨i0, hi, hz0, hz1, hz2⟩ := info_parts Tryz.infoByte
  go_enter Tryz.func66, Tryz.ntmps66
  go_wp2
  go_loopg [0, 7] k (fun m d c wr => ∃ r done, m = r ∧ r ≤ k ∧ c = .int .i64 (8 * (r : Int) - 8) ∧ done ++ bigB r u = bigB k u ∧ wr.ownsRow 0 5 1 d (n + (k - r)) (xs ++ done.map bv) ∧ w.grownBy wr v.ownBlock ∧ (d.ownBlock = v.ownBlock ∨ ∃ b, d.ownBlock = some b ∧ w.heap.size ≤ b))
  case atStart => exact ⟨k, [], rfl, Nat.le_refl _, by go_num, rfl, by simpa using hown, World.grownBy.refl _ _, .inl rfl⟩
  case round =>
    obtain ⟨r, done, hm, hr, rfl, hd, ho, hg, hb⟩ := hrel
    by_cases h0 : 1 ≤ r
    · have hs63 : (8 * (r : Int) - 8) < 64 := by omega
      go_wp2_with (at_builtin; refine wpList_app _ rfl (.tmp 15) (.tmp 20) 28 28 rfl 5 i0 (.int .u8 0) 1 1 Tryz.underlying28 hi hz0 hz1 hz2 rfl _ _ _ rfl (ho.alloc _) (.slice (some ⟨wr.heap.size, 0, none⟩) 1 1) 1 [.int .u8 ((u : Int) / 2 ^ (8 * r - 8) % 256)] rfl (src_one Tryz.underlying28 wr _ _ rfl) ?b1 ?b2 ?next)
      case b1 => unfold maxLen; omega
      case b2 => omega
      case next =>
        intro v' w' hown' hgrow' hb' _
        go_wp2
        go_roundg (r - 1)
        case measure => omega
        case rel =>
          obtain ⟨q, rfl⟩ : ∃ q, r = q + 1 := ⟨r - 1, by omega⟩
          refine ⟨q, done ++ [UInt8.ofNat (u / 256 ^ q)], rfl, by omega, by go_num, by rw [← hd]; simp [bigB], ?_, ?_, ?_⟩
          · rw [big_byte] at hown'
            rw [show n + (k - q) = n + (k - (q + 1)) + 1 by omega, List.map_append]
            exact hown'
          · exact grown_trans (grown_trans hg (World.grownBy_alloc _ _ none) (by simp)) hgrow' (fun i hi e => by
              rcases hb with hb | ⟨b, hb, hlt⟩
              · rw [← hb]; exact e
              · rw [hb] at e; cases e; omega)
          · have hsz := hg.size
            rcases hb' with h' | h'
            · rw [h']; exact hb
            · exact .inr ⟨_, h', by omega⟩
    · obtain rfl : r = 0 := by omega
      go_wp2
      go_ret
      simp only [bigB, List.append_nil] at hd
      subst hd
      exact ⟨_, rfl, by simpa using ho, hg, hb⟩

/-- An int as a uint64. -/
def asU64 (n : Int) : Nat := (IntKind.u64.wrap n).toNat
theorem asU64_eq (n : Int) : IntKind.u64.wrap n = (asU64 n : Int) := by
  unfold asU64
  rw [IntKind.wrap_u64]
  omega

/-- What a Writer holds: what has been written, and its error. -/
structure WS where
  out : List UInt8
  err : Int

def WS.num (s : WS) (n : Int) : WS := if s.err ≠ 0 then s else if n < 0 ∨ 2147483647 < n then ⟨s.out, 2⟩ else ⟨s.out ++ bigB 4 n.toNat, 0⟩
def WS.int (s : WS) (n : Int) : WS := if s.err ≠ 0 then s else ⟨s.out ++ bigB 8 (asU64 n), 0⟩
def WS.text (s : WS) (t : List UInt8) : WS := if (s.num t.length).err ≠ 0 then s.num t.length else ⟨(s.num t.length).out ++ t, 0⟩
def WS.texts (s : WS) (l : List (List UInt8)) : WS := l.foldl WS.text (s.num l.length)

/-- The Writer at block b: its slice at ao, of capacity cap. -/
structure Wr (w : World) (b : Nat) (ao : Option Addr) (cap : Nat) (s : WS) : Prop where
  c0 : w.cell? ⟨b, 0, none⟩ = some (.slice ao s.out.length cap)
  c1 : w.cell? ⟨b, 1, none⟩ = some (.int .i64 s.err)
  f0 : w.frozen? ⟨b, 0, none⟩ = false
  f1 : w.frozen? ⟨b, 1, none⟩ = false
  own : w.ownsRow 0 5 1 (.slice ao s.out.length cap) s.out.length (s.out.map bv)
  ne : (Value.slice ao s.out.length cap).ownBlock ≠ some b

/-- What a call on a Writer turns: its own block, its row. -/
structure WStep (w w' : World) (b : Nat) (ao ao' : Option Addr) : Prop where
  kept : Kept (fun k => k = b ∨ (Value.slice ao 0 0).ownBlock = some k) w w'
  row : (Value.slice ao' 0 0).ownBlock = (Value.slice ao 0 0).ownBlock ∨ ∃ k, (Value.slice ao' 0 0).ownBlock = some k ∧ w.heap.size ≤ k

theorem own_any (ao : Option Addr) (n c : Nat) : (Value.slice ao n c).ownBlock = (Value.slice ao 0 0).ownBlock := by cases ao <;> rfl

theorem WStep.refl (w : World) (b : Nat) (ao : Option Addr) : WStep w w b ao ao := ⟨Kept.refl _ _, .inl rfl⟩

theorem WStep.trans {w w1 w2 : World} {b : Nat} {ao ao1 ao2 : Option Addr} (h : WStep w w1 b ao ao1) (k : WStep w1 w2 b ao1 ao2) : WStep w w2 b ao ao2 := by
  refine ⟨h.kept.trans k.kept fun i hi hs => ?_, ?_⟩
  · rcases hs with hs | hs
    · exact .inl hs
    · rcases h.row with hr | ⟨j, hr, hj⟩
      · exact .inr (by rw [← hr]; exact hs)
      · rw [hr] at hs; cases hs; omega
  · have hsz := h.kept.size
    rcases k.row with kr | ⟨j, kr, hj⟩
    · rw [kr]; exact h.row
    · exact .inr ⟨j, kr, by omega⟩

def WrPost (w : World) (b : Nat) (ao : Option Addr) (s' : WS) (e : Ending) (w' : World) : Prop := e = .returned (.tuple #[]) ∧ ∃ ao' cap', Wr w' b ao' cap' s' ∧ WStep w w' b ao ao'

theorem Wr.lt {w : World} {b : Nat} {ao : Option Addr} {cap : Nat} {s : WS} (h : Wr w b ao cap s) : b < w.heap.size := World.block_lt_of_cell? _ _ h.c0

/-- Behind a call that has grown the row: the new slice is stored. -/
theorem Wr.stored {w w1 : World} {b : Nat} {ao ao' : Option Addr} {cap cap' : Nat} {s s' : WS} (h : Wr w b ao cap s) (he : s'.err = s.err) (hg : w.grownBy w1 (Value.slice ao s.out.length cap).ownBlock)
    (ho : w1.ownsRow 0 5 1 (.slice ao' s'.out.length cap') s'.out.length (s'.out.map bv)) (hr : (Value.slice ao' s'.out.length cap').ownBlock = (Value.slice ao s.out.length cap).ownBlock ∨ ∃ k, (Value.slice ao' s'.out.length cap').ownBlock = some k ∧ w.heap.size ≤ k) :
    Wr (w1.setCell ⟨b, 0, none⟩ (.slice ao' s'.out.length cap')) b ao' cap' s' ∧ WStep w (w1.setCell ⟨b, 0, none⟩ (.slice ao' s'.out.length cap')) b ao ao' := by
  have hb := h.lt
  have hne : (Value.slice ao' s'.out.length cap').ownBlock ≠ some b := by
    rcases hr with hr | ⟨k, hr, hk⟩
    · rw [hr]; exact h.ne
    · rw [hr]; simp; omega
  have k1 : w1.cell? ⟨b, 1, none⟩ = some (.int .i64 s.err) := hg.cell h.c1 (Ne.symm h.ne)
  have k0 : w1.cell? ⟨b, 0, none⟩ = _ := hg.cell h.c0 (Ne.symm h.ne)
  have hblk := hg.block b hb (Ne.symm h.ne)
  refine ⟨⟨World.cell?_setCell_same _ _ _ k0, ?_, ?_, ?_, ?_, hne⟩, ?_, ?_⟩
  · rw [World.cell?_setCell_other _ _ _ _ (by simp), k1, he]
  · rw [World.frozen?_setCell, World.frozen?_of_block (a := ⟨b, 0, none⟩) hblk]; exact h.f0
  · rw [World.frozen?_setCell, World.frozen?_of_block (a := ⟨b, 1, none⟩) hblk]; exact h.f1
  · refine owns_kept (S := fun k => k = b) ho (Kept.setCell (p := ⟨b, 0, none⟩) (Kept.refl (fun k => k = b) w1) (fun _ => rfl) _) (fun k hk e => hne (by rw [hk, e]))
  · refine Kept.setCell (Kept.grown (Kept.refl _ _) hg (fun k hk _ => .inr (by rw [← own_any ao s.out.length cap]; exact hk))) (fun _ => .inl rfl) _
  · rw [← own_any ao' s'.out.length cap', ← own_any ao s.out.length cap]; exact hr

set_option maxHeartbeats 400000 in
theorem wnum_any (b : Nat) (ao : Option Addr) (cap : Nat) (s : WS) (n : Int) (w : World) (h : Wr w b ao cap s) (hl : s.out.length ≤ 1099511627776) :
    Calls Tryz.prog 24 #[.pointer (some ⟨b, 0, none⟩), .int .i64 n] w (WrPost w b ao (s.num n)) := by
  have c0 := h.c0
  have c1 := h.c1
  have f0 := h.f0
  have f1 := h.f1
  by_cases he : s.err = 0
  · have he1 : (s.err != 0) = false := by simp [he]
    by_cases h1 : n < 0 ∨ 2147483647 < n
    · have e : s.num n = ⟨s.out, 2⟩ := by simp [WS.num, he, h1]
      have fin : Wr (w.setCell ⟨b, 1, none⟩ (.int .i64 2)) b ao cap ⟨s.out, 2⟩ ∧ WStep w (w.setCell ⟨b, 1, none⟩ (.int .i64 2)) b ao ao := by
        have hk := Kept.setCell (p := ⟨b, 1, none⟩) (Kept.refl (fun k => k = b) w) (fun _ => rfl) (.int .i64 2)
        refine ⟨⟨?_, World.cell?_setCell_same _ _ _ c1, ?_, ?_, owns_kept h.own hk (fun k hk e => h.ne (by rw [hk, e])), h.ne⟩, hk.mono (fun _ _ e => .inl e), .inl rfl⟩
        · rw [World.cell?_setCell_other _ _ _ _ (by simp)]; exact c0
        · rw [World.frozen?_setCell]; exact f0
        · rw [World.frozen?_setCell]; exact f1
      have E := Lib.hid e; clear e; have HE := Lib.hid he; clear he
      have FIN := Lib.hid fin; clear fin
      rcases h1 with h1 | h1
      · go_enter Tryz.func24, Tryz.ntmps24
        go_wp2
        refine bodyPost_ret (results_none rfl _ _ _) rfl ?_
        exact ⟨rfl, _, _, by rw [E.out]; exact FIN.out.1, FIN.out.2⟩
      · have h2 : ¬ n < 0 := by omega
        go_enter Tryz.func24, Tryz.ntmps24
        go_wp2
        refine bodyPost_ret (results_none rfl _ _ _) rfl ?_
        exact ⟨rfl, _, _, by rw [E.out]; exact FIN.out.1, FIN.out.2⟩
    · have e : s.num n = ⟨s.out ++ bigB 4 n.toNat, 0⟩ := by simp [WS.num, he, h1]
      have E := Lib.hid e; clear e; have HE := Lib.hid he; clear he
      have h2 : 0 ≤ n := by omega
      have h3 : n ≤ 2147483647 := by omega
      clear h1
      obtain ⟨m, rfl⟩ := Int.eq_ofNat_of_zero_le h2
      have H := Lib.hid h; clear h
      go_enter Tryz.func24, Tryz.ntmps24
      go_wp2_with fail
      refine (appendBig_any _ _ _ m 4 _ H.out.own (by omega) (by omega) hl).mono ?_
      rintro e w1 ⟨v', rfl, ho, hg, hb⟩
      obtain ⟨ao', cap', rfl⟩ := owns_slice ho
      have fin := H.out.stored (s' := ⟨s.out ++ bigB 4 m, s.err⟩) (ao' := ao') (cap' := cap') rfl hg (by simpa [bigB_length] using ho) (by simpa [bigB_length] using hb)
      have k0 := hg.cell c0 (Ne.symm H.out.ne)
      have kf : w1.frozen? ⟨b, 0, none⟩ = false := (World.frozen?_of_block (a := ⟨b, 0, none⟩) (hg.block b H.out.lt (Ne.symm H.out.ne))).trans f0
      have FIN := Lib.hid fin; clear fin ho hg hb
      go_wp2
      go_end0
      refine ⟨rfl, ao', cap', ?_⟩
      rw [E.out, ← HE.out]
      simpa [bigB_length] using FIN.out
  · have e : s.num n = s := by simp [WS.num, he]
    have E := Lib.hid e; clear e
    have he1 : (s.err != 0) = true := by simp [he]
    go_enter Tryz.func24, Tryz.ntmps24
    go_wp2
    refine bodyPost_ret (results_none rfl _ _ _) rfl ?_
    exact ⟨rfl, _, _, by rw [E.out]; exact h, WStep.refl _ _ _⟩

theorem WS.num_err (s : WS) (n : Int) (h : s.err ≠ 0) : s.num n = s := by simp [WS.num, h]
theorem WS.num_ok (s : WS) (n : Nat) (h : s.err = 0) (hn : n ≤ 2147483647) : s.num n = ⟨s.out ++ bigB 4 n, 0⟩ := by
  have : ¬ ((n : Int) < 0 ∨ 2147483647 < (n : Int)) := by omega
  simp [WS.num, h, this]
theorem WS.num_len (s : WS) (n : Int) : (s.num n).out.length ≤ s.out.length + 4 := by
  unfold WS.num; split <;> (try split) <;> simp [bigB_length]
theorem WS.text_len (s : WS) (t : List UInt8) : (s.text t).out.length ≤ s.out.length + 4 + t.length := by
  have := s.num_len t.length
  unfold WS.text; split <;> simp <;> omega

set_option maxHeartbeats 400000 in
theorem wtext_any (b : Nat) (ao : Option Addr) (cap : Nat) (s : WS) (t : ByteArray) (w : World) (h : Wr w b ao cap s) (hl : s.out.length ≤ 549755813888) (ht : t.size ≤ 549755813888) :
    Calls Tryz.prog 25 #[.pointer (some ⟨b, 0, none⟩), .string t] w (WrPost w b ao (s.text t.data.toList)) := by
  obtain ⟨i0, hi, hz0, hz1, hz2⟩ := info_parts Tryz.infoByte
  have elen : t.data.toList.length = t.size := rfl
  have hnl := s.num_len t.size
  have e : s.text t.data.toList = if (s.num t.size).err ≠ 0 then s.num t.size else ⟨(s.num t.size).out ++ t.data.toList, 0⟩ := by unfold WS.text; rw [elen]
  have E := Lib.hid e; clear e elen
  have H := Lib.hid h; clear h
  go_enter Tryz.func25, Tryz.ntmps25
  go_wp2_with fail
  refine (wnum_any b ao cap s t.size w H.out (by omega)).mono ?_
  rintro e w1 ⟨rfl, ao1, cap1, h1, st1⟩
  generalize s.num t.size = s1 at *
  have c0 := h1.c0
  have c1 := h1.c1
  have f0 := h1.f0
  have H1 := Lib.hid h1; clear h1
  by_cases he : s1.err = 0
  · have he1 : (s1.err == 0) = true := by simp [he]
    have HE := Lib.hid he; clear he
    go_wp2_with (at_builtin; refine wpList_app _ rfl (.tmp 17) (.tmp 18) 28 9 rfl 5 i0 (.int .u8 0) 1 1 Tryz.underlying28 hi hz0 hz1 hz2 rfl (.slice ao1 s1.out.length cap1) _ _ rfl H1.out.own (.string t) t.size _ rfl (Src.ofString _ Tryz.underlying9 t) ?b1 ?b2 ?next)
    case b1 => unfold maxLen; omega
    case b2 => omega
    case next =>
      intro v' w2 ho hg hb _
      obtain ⟨ao', cap', rfl⟩ := owns_slice ho
      have hl' : (s1.out ++ t.data.toList).length = s1.out.length + t.size := by simp
      have fin := H1.out.stored (s' := ⟨s1.out ++ t.data.toList, s1.err⟩) (ao' := ao') (cap' := cap') rfl hg (by rw [hl', List.map_append]; exact ho) (by rw [hl']; rcases hb with hb | hb; exact .inl hb; exact .inr ⟨_, hb, Nat.le_refl _⟩)
      rw [hl'] at fin
      have k0 := hg.cell c0 (Ne.symm H1.out.ne)
      have kf : w2.frozen? ⟨b, 0, none⟩ = false := (World.frozen?_of_block (a := ⟨b, 0, none⟩) (hg.block b H1.out.lt (Ne.symm H1.out.ne))).trans f0
      have FIN := Lib.hid fin; clear fin ho hg hb hl'
      go_wp2
      go_end0
      refine ⟨rfl, ao', cap', ?_, st1.trans FIN.out.2⟩
      rw [E.out, if_neg (by rw [HE.out]; simp), ← HE.out]
      exact FIN.out.1
  · have he1 : (s1.err == 0) = false := by simp [he]
    have HE := Lib.hid he; clear he
    go_wp2
    go_end0
    refine ⟨rfl, ao1, cap1, ?_, st1⟩
    rw [E.out, if_pos HE.out]
    exact H1.out

/-- A Writer that lies in F, with its row. -/
structure WrF (w : World) (F : Nat → Prop) (b : Nat) (s : WS) : Prop where
  lo : F b
  wr : ∃ ao cap, Wr w b ao cap s ∧ ∀ k, (Value.slice ao 0 0).ownBlock = some k → F k

theorem WrF.of_step {w w' : World} {F : Nat → Prop} {b : Nat} {ao ao' : Option Addr} {cap' : Nat} {s' : WS} (hF : ∀ k, w.heap.size ≤ k → F k) (hlo : F b) (hr : ∀ k, (Value.slice ao 0 0).ownBlock = some k → F k) (h' : Wr w' b ao' cap' s') (st : WStep w w' b ao ao') :
    WrF w' F b s' ∧ Kept F w w' := by
  refine ⟨⟨hlo, ao', cap', h', fun k hk => ?_⟩, st.kept.mono (fun k _ hk => ?_)⟩
  · rcases st.row with e | ⟨j, e, hj⟩
    · rw [e] at hk; exact hr k hk
    · rw [e] at hk; cases hk; exact hF _ hj
  · rcases hk with rfl | hk
    · exact hlo
    · exact hr k hk

def WrFPost (w : World) (F : Nat → Prop) (b : Nat) (s' : WS) (e : Ending) (w' : World) : Prop := e = .returned (.tuple #[]) ∧ WrF w' F b s' ∧ Kept F w w'

theorem WrF.num {w : World} {F : Nat → Prop} {b : Nat} {s : WS} (h : WrF w F b s) (hF : ∀ k, w.heap.size ≤ k → F k) (n : Int) (hl : s.out.length ≤ 1099511627776) :
    Calls Tryz.prog 24 #[.pointer (some ⟨b, 0, none⟩), .int .i64 n] w (WrFPost w F b (s.num n)) := by
  obtain ⟨hlo, ao, cap, hw, hr⟩ := h
  exact (wnum_any b ao cap s n w hw hl).mono fun e w' ⟨he, ao', cap', h', st⟩ => ⟨he, WrF.of_step hF hlo hr h' st⟩

theorem WrF.text {w : World} {F : Nat → Prop} {b : Nat} {s : WS} (h : WrF w F b s) (hF : ∀ k, w.heap.size ≤ k → F k) (t : ByteArray) (hl : s.out.length ≤ 549755813888) (ht : t.size ≤ 549755813888) :
    Calls Tryz.prog 25 #[.pointer (some ⟨b, 0, none⟩), .string t] w (WrFPost w F b (s.text t.data.toList)) := by
  obtain ⟨hlo, ao, cap, hw, hr⟩ := h
  exact (wtext_any b ao cap s t w hw hl ht).mono fun e w' ⟨he, ao', cap', h', st⟩ => ⟨he, WrF.of_step hF hlo hr h' st⟩

/-- The lists of bytes of strings. -/
def strL (ss : List ByteArray) : List (List UInt8) := ss.map (·.data.toList)

def sumL (l : List (List UInt8)) : Nat := (l.map (fun t => 4 + t.length)).sum

theorem WS.texts_take (s : WS) (l : List (List UInt8)) (n : Nat) : ((l.foldl WS.text (s.num n))).out.length ≤ s.out.length + 4 + sumL l := by
  have : ∀ (l : List (List UInt8)) (s : WS), (l.foldl WS.text s).out.length ≤ s.out.length + sumL l := by
    intro l
    induction l with
    | nil => intro s; simp
    | cons t l ih =>
      intro s
      have h1 := ih (s.text t)
      have h2 := s.text_len t
      simp only [List.foldl_cons, sumL, List.map_cons, List.sum_cons] at *
      omega
  have h1 := this l (s.num n)
  have h2 := s.num_len n
  omega

theorem sumL_take (l : List (List UInt8)) (j : Nat) : sumL (l.take j) ≤ sumL l := by
  induction l generalizing j with
  | nil => simp
  | cons t l ih => cases j with
    | zero => simp [sumL]
    | succ j => have := ih j; simp [sumL] at *; omega

set_option maxHeartbeats 400000 in
theorem WrF.texts {w : World} {F : Nat → Prop} {b : Nat} {s : WS} (h : WrF w F b s) (hF : ∀ k, w.heap.size ≤ k → F k) (la : Option Addr) (lc : Nat) (ss : List ByteArray) {B : Nat} (hL : Lies w B la (ss.map .string)) (hna : ss ≠ [] → ∀ a, la = some a → ¬ F a.block) (hl : s.out.length + 4 + sumL (strL ss) ≤ 274877906944) (hn : ss.length ≤ 274877906944) (hs : ∀ t ∈ ss, t.size ≤ 274877906944) :
    Calls Tryz.prog 26 #[.pointer (some ⟨b, 0, none⟩), .slice la ss.length lc] w (WrFPost w F b (s.texts (strL ss))) := by
  have H := Lib.hid h; clear h
  have HL := Lib.hid hL; clear hL
  have HS := Lib.hid hs; clear hs
  have HF := Lib.hid hF; clear hF
  have HNA := Lib.hid hna; clear hna
  go_enter Tryz.func26, Tryz.ntmps26
  go_wp2_with fail
  refine (H.out.num HF.out ss.length (by omega)).mono ?_
  rintro e w1 ⟨rfl, h1, b1⟩
  have H1 := Lib.hid h1; have B1 := Lib.hid b1; clear h1 b1
  go_wp2
  go_loopg [12] ss.length (fun k c wr => ∃ j, k = ss.length - j ∧ j ≤ ss.length ∧ c = .int .i64 (j : Int) ∧ WrF wr F b (((strL ss).take j).foldl WS.text (s.num ss.length)) ∧ Kept F w wr)
  case atStart => exact ⟨0, rfl, Nat.zero_le _, rfl, by simpa using H1.out, B1.out⟩
  case round =>
    obtain ⟨j, hk, hj, rfl, hw, hbl⟩ := hrel
    by_cases hlt : j < ss.length
    · obtain ⟨xb, xo, rfl, hxb, hc⟩ := (HL.out.kept hbl (fun hne => HNA.out (by simpa using hne))) (by intro h; rw [List.map_eq_nil_iff] at h; rw [h] at hlt; simp at hlt)
      have hx : wr.cell? ⟨xb, xo + j, none⟩ = some (.string (ss[j])) := hc j _ (by simp [hlt])
      have HK := Lib.hid hk; clear hk hc
      have HW := Lib.hid hw; clear hw
      have HBL := Lib.hid hbl; clear hbl
      go_wp2_with fail
      have hsz : ∀ k, wr.heap.size ≤ k → F k := fun k hk => HF.out k (Nat.le_trans HBL.out.size hk)
      have hln := WS.texts_take s ((strL ss).take j) ss.length
      have htk := sumL_take (strL ss) j
      have hsj := HS.out ss[j] (List.getElem_mem hlt)
      refine (HW.out.text hsz ss[j] (by omega) (by omega)).mono ?_
      rintro e w2 ⟨rfl, h2, b2⟩
      have H2 := Lib.hid h2; have B2 := Lib.hid b2; clear h2 b2
      go_wp2
      go_roundg (ss.length - (j + 1))
      case measure => have := HK.out; omega
      case rel =>
        refine ⟨j + 1, rfl, by omega, by go_num, ?_, HBL.out.trans B2.out (fun _ _ h => h)⟩
        have e : (strL ss).take (j + 1) = (strL ss).take j ++ [ss[j].data.toList] := by
          rw [List.take_add_one]
          simp [strL, hlt]
        rw [e, List.foldl_append]
        exact H2.out
    · obtain rfl : j = ss.length := by omega
      go_wp2
      go_end0
      refine ⟨rfl, ?_, hbl⟩
      have e : (strL ss).take ss.length = strL ss := List.take_of_length_le (by simp [strL])
      rw [e] at hw
      have e2 : s.texts (strL ss) = (strL ss).foldl WS.text (s.num ss.length) := by simp [WS.texts, strL]
      rw [e2]; exact hw


set_option maxHeartbeats 400000 in
theorem WrF.bytes {w : World} {F : Nat → Prop} {b : Nat} {s : WS} (h : WrF w F b s) (hl : s.out.length ≤ 1099511627776) :
    Calls Tryz.prog 28 #[.pointer (some ⟨b, 0, none⟩)] w fun e w' => ∃ ao' cap', e = .returned (.slice ao' s.out.length cap') ∧ w'.ownsRow w.heap.size 5 1 (.slice ao' s.out.length cap') s.out.length (s.out.map bv) ∧ Below w.heap.size w w' := by
  obtain ⟨hlo, ao, cap, hw, hr⟩ := h
  have c0 := hw.c0
  have HW := Lib.hid hw; clear hw
  go_enter Tryz.func28, Tryz.ntmps28
  go_wp2_with fail
  refine (clone_any ao cap s.out _ w (owns_lies HW.out.own) hl).mono ?_
  rintro e w1 ⟨ao', cap', rfl, ho, hb⟩
  have HO := Lib.hid ho; clear ho
  have HB := Lib.hid hb; clear hb
  go_wp2
  go_ret
  exact ⟨ao', cap', rfl, HO.out, HB.out⟩

/-- Behind a call that keeps all that was there. -/
theorem WrF.kept {w w' : World} {F : Nat → Prop} {b : Nat} {s : WS} (h : WrF w F b s) (hb : Below w.heap.size w w') : WrF w' F b s := by
  obtain ⟨hlo, ao, cap, hw, hr⟩ := h
  have hlt := hw.lt
  refine ⟨hlo, ao, cap, ⟨(hb.cell (p := ⟨b, 0, none⟩) hlt).trans hw.c0, (hb.cell (p := ⟨b, 1, none⟩) hlt).trans hw.c1, (hb.frozen (p := ⟨b, 0, none⟩) hlt).trans hw.f0, (hb.frozen (p := ⟨b, 1, none⟩) hlt).trans hw.f1, ?_, hw.ne⟩, hr⟩
  exact owns_kept hw.own (Kept.of_below hb) (fun k hk => by have := owns_lt hw.own k hk; omega)

/-- The same Writer, looked at in another set. -/
theorem WrF.in {w : World} {F F' : Nat → Prop} {b : Nat} {s : WS} (h : WrF w F b s) (hs : ∀ k, k < w.heap.size → F k → F' k) : WrF w F' b s := by
  obtain ⟨hlo, ao, cap, hw, hr⟩ := h
  exact ⟨hs _ hw.lt hlo, ao, cap, hw, fun k hk => hs k (owns_lt hw.own k (by rw [own_any]; exact hk)).2 (hr k hk)⟩

end Go.Proofs.YtjnpmbdehalmpaaGreat
