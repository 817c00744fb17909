/-
  Lemmas towards the claim of this folder: contracts of the functions that the law reaches; joined texts.
-/
import Derived.Test.YtjnpmbdehalmpaaGreatGPr
import Derived.Test.YtjnpmbdehalmpaaGreatGDg
import Derived.Deep.CutBlock
import Derived.Deep.DeepCutAuto
import Derived.Test.YtjnpmbdehalmpaaGreatWr
/-
  CONTRACTS of package snap: New.
-/
namespace Go.Proofs.YtjnpmbdehalmpaaGreat
open Go.RowKit Go.Mk Go.Maps

/-- A definition's cells somewhere in a block. -/
structure Bo (w : World) (b o : Nat) (ao : Option Addr) (cap : Nat) (d : DD) : Prop where
  c0 : w.cell? ⟨b, o, none⟩ = some (.int .i64 d.k)
  c1 : w.cell? ⟨b, o + 1, none⟩ = some (.string (bs d.c))
  c2 : w.cell? ⟨b, o + 2, none⟩ = some (.string (bs d.p))
  c3 : w.cell? ⟨b, o + 3, none⟩ = some (.slice ao d.vs.length cap)
  c4 : w.cell? ⟨b, o + 4, none⟩ = some (.string (bs d.s))
  c5 : w.cell? ⟨b, o + 5, none⟩ = some (.string (bs d.t))

theorem Bo.kept {S : Nat → Prop} {w w' : World} {b o : Nat} {ao : Option Addr} {cap : Nat} {d : DD} (h : Bo w b o ao cap d) (hk : Kept S w w') (hb : ¬ S b) : Bo w' b o ao cap d := by
  have hlt : b < w.heap.size := World.block_lt_of_cell? _ _ h.c0
  exact ⟨(hk.cell (p := ⟨b, o, none⟩) hlt hb).trans h.c0, (hk.cell (p := ⟨b, o + 1, none⟩) hlt hb).trans h.c1, (hk.cell (p := ⟨b, o + 2, none⟩) hlt hb).trans h.c2, (hk.cell (p := ⟨b, o + 3, none⟩) hlt hb).trans h.c3, (hk.cell (p := ⟨b, o + 4, none⟩) hlt hb).trans h.c4, (hk.cell (p := ⟨b, o + 5, none⟩) hlt hb).trans h.c5⟩

/-- Definitions in a row behind an address. -/
structure Ds (w : World) (B : Nat) (la : Option Addr) (es : List Ent) : Prop where
  row : es ≠ [] → ∃ b off, la = some ⟨b, off, none⟩ ∧ b < B ∧ ∀ j (h : j < es.length), Bo w b (off + j * 6) es[j].2.1 es[j].2.2 es[j].1
  lies : ∀ e ∈ es, Lies w B e.2.1 (strs e.1.vs) ∧ e.1.vs.length ≤ e.2.2

theorem Ds.kept {S : Nat → Prop} {w w' : World} {B : Nat} {la : Option Addr} {es : List Ent} (h : Ds w B la es) (hk : Kept S w w') (hS : ∀ k, k < B → ¬ S k) : Ds w' B la es := by
  refine ⟨fun hn => ?_, fun e he => ⟨(h.lies e he).1.kept hk (fun hn a ha => ?_), (h.lies e he).2⟩⟩
  · obtain ⟨b, off, e, hb, hc⟩ := h.row hn
    exact ⟨b, off, e, hb, fun j hj => (hc j hj).kept hk (hS b hb)⟩
  · obtain ⟨b, off, e1, hb, _⟩ := (h.lies e he).1 hn
    rw [e1] at ha
    cases ha
    exact hS b hb

theorem Ds.keep {w w' : World} {B : Nat} {la : Option Addr} {es : List Ent} (h : Ds w B la es) (hk : Kept (fun _ => False) w w') : Ds w' B la es := h.kept hk (fun _ _ h => h)

theorem Ds.mono {w : World} {B B' : Nat} {la : Option Addr} {es : List Ent} (h : Ds w B la es) (hB : B ≤ B') : Ds w B' la es := by
  refine ⟨fun hn => ?_, fun e he => ⟨(h.lies e he).1.mono hB, (h.lies e he).2⟩⟩
  obtain ⟨b, off, e, hb, hc⟩ := h.row hn
  exact ⟨b, off, e, Nat.lt_of_lt_of_le hb hB, hc⟩

def dds (es : List Ent) : List DD := es.map (·.1)
theorem dds_len (es : List Ent) : (dds es).length = es.length := by simp [dds]
theorem dds_get (es : List Ent) (j : Nat) (h : j < es.length) : (dds es)[j]'(by rw [dds_len]; exact h) = es[j].1 := by simp [dds]
theorem dds_take (es : List Ent) (j : Nat) (h : j < es.length) : (dds es).take (j + 1) = (dds es).take j ++ [es[j].1] := by
  rw [List.take_add_one, List.getElem?_eq_getElem (by rw [dds_len]; exact h), dds_get es j h]; rfl

/-- What New answers. -/
def NwPost (w : World) (r : Int × List DD) (e : Ending) (w' : World) : Prop :=
  ∃ v, e = .returned (.tuple #[v, .int .i64 r.1]) ∧ (r.1 = 0 → ∃ s, v = .pointer (some ⟨s, 0, none⟩)) ∧ (r.1 ≠ 0 → v = .pointer none) ∧ Sn w' v r.2 ∧ Kept (fun _ => False) w w'

theorem nw_err {w w' : World} {r : Int} (hr : r ≠ 0) (hk : Kept (fun _ => False) w w') : NwPost w (r, []) (.returned (.tuple #[.pointer none, .int .i64 r])) w' :=
  ⟨.pointer none, rfl, fun h => (hr h).elim, fun _ => rfl, sn_nil _, hk⟩

/-- New under way. -/
structure Nw (w : World) (m : List Ent) (wx : World) : Prop where
  tb : Tb wx w.heap.size m
  cell : wx.cell? ⟨w.heap.size + 1, 0, none⟩ = some (.map (some w.heap.size))
  k : Kept (fun _ => False) w wx
  sz : w.heap.size + 2 ≤ wx.heap.size

theorem Nw.keep {w : World} {m : List Ent} {wx wy : World} (h : Nw w m wx) (hk : Kept (fun _ => False) wx wy) : Nw w m wy :=
  ⟨h.tb.keep hk, (hk.cell (p := ⟨w.heap.size + 1, 0, none⟩) (World.block_lt_of_cell? _ _ h.cell) (fun h => h)).trans h.cell, h.k.trans hk (fun _ _ h => h), Nat.le_trans h.sz hk.size⟩

theorem Nw.sn {w : World} {m : List Ent} {wx : World} (h : Nw w m wx) : Sn wx (.pointer (some ⟨w.heap.size + 1, 0, none⟩)) (dds m) :=
  ⟨_, m, .inr ⟨_, rfl, h.cell⟩, .inr ⟨_, rfl, h.tb⟩, rfl⟩

theorem nw_new (w : World) : Nw w [] ((w.alloc (.map #[] 0)).alloc (.cells #[.map (some w.heap.size)] 87)) := by
  have h1 := (tb_new w).keep ((Kept.refl (fun _ => False) _).alloc (.cells #[.map (some w.heap.size)] 87))
  have h2 := World.cell?_alloc_new (w.alloc (.map #[] 0)) #[.map (some w.heap.size)] 87 0
  rw [World.size_alloc] at h2
  exact ⟨h1, h2, ((Kept.refl _ w).alloc _).alloc _, by simp⟩

theorem key_len {d : DD} (h : Len8 d) : (keyD d).length ≤ maxLen := by
  have := h.c; have := h.s
  unfold keyD maxLen
  split
  · split
    · simp; omega
    · omega
  · simp

/-- One more entry. -/
theorem Nw.put {w : World} {m : List Ent} {wx : World} (h : Nw w m wx) (e : Ent) (hr : rightD e.1 = true) (hL : Lies wx wx.heap.size e.2.1 (strs e.1.vs) ∧ e.1.vs.length ≤ e.2.2) (hl : Len8 e.1) (hm : m.length ≤ 1000000) :
    ∃ wy, (Instr.mapUpdate 85 (.map (some w.heap.size)) (.string (bs (keyE e))) (valE e)).run Tryz.prog wx = .ok () wy ∧ Nw w (putK keyE e m) wy ∧ Kept (fun k => k = w.heap.size) wx wy := by
  obtain ⟨wy, h1, h2, h3⟩ := h.tb.put e hr hL (key_len hl) hm (fun x hx hn => by
    rcases (mem_putK h.tb.rise x).1 hx with rfl | ⟨hx, _⟩
    · exact lies_row h.tb hL.1 (by unfold strs; simpa using hn)
    · exact h.tb.rows x hx hn)
  exact ⟨wy, h1, ⟨h2, (h3.cell (p := ⟨w.heap.size + 1, 0, none⟩) (World.block_lt_of_cell? _ _ h.cell) (by simp)).trans h.cell, h.k.trans h3 (fun i hi e => by omega), Nat.le_trans h.sz h3.size⟩, h3⟩

theorem newL_step (l : List DD) (d : DD) : newL (l ++ [d]) = newS (newL l) d := by simp [newL, List.foldl_append]
theorem newL_stop {l : List DD} {j : Nat} (h : (newL (l.take j)).1 ≠ 0) : newL l = newL (l.take j) := by
  have : newL l = (l.drop j).foldl newS (newL (l.take j)) := by
    unfold newL
    rw [← List.foldl_append, List.take_append_drop]
  rw [this, newS_err h]

end Go.Proofs.YtjnpmbdehalmpaaGreat

/-
  How a snapshot is parsed, over lists (plain).
-/
namespace Go.Proofs.YtjnpmbdehalmpaaGreat
open Go.RowKit Go.Mk Go.Maps

def lastK : List DD → List UInt8
  | [] => []
  | [d] => keyD d
  | _ :: y :: r => lastK (y :: r)

theorem lastK_snoc : ∀ (l : List DD) (d : DD), lastK (l ++ [d]) = keyD d
  | [], _ => rfl
  | [_], _ => rfl
  | _ :: y :: r, d => lastK_snoc (y :: r) d

/-- n definitions more, each behind the last. -/
def parseN : Nat → RS → List DD → Int × List DD × RS
  | 0, s, acc => (0, acc, s)
  | n + 1, s, acc => if (judgeR (fieldsR s)).2 ≠ 0 then ((judgeR (fieldsR s)).2, [], s) else if lastK acc < keyD (judgeR (fieldsR s)).1 then parseN n (fieldsR s).1 (acc ++ [(judgeR (fieldsR s)).1]) else (32, [], s)

def finP (r : Int × List DD × RS) : Int × List DD := if r.1 ≠ 0 then (r.1, []) else if r.2.2.endE ≠ 0 then (r.2.2.endE, []) else (0, r.2.1)

def parseL (l : List UInt8) : Int × List DD :=
  if (RS.num ⟨l, 0⟩).1.err ≠ 0 then ((RS.num ⟨l, 0⟩).1.err, [])
  else if 500 < (RS.num ⟨l, 0⟩).2 then (21, [])
  else finP (parseN (RS.num ⟨l, 0⟩).2.toNat (RS.num ⟨l, 0⟩).1 [])

theorem judge_ok {r : RS × DD} (h : (judgeR r).2 = 0) : r.1.err = 0 ∧ rightD r.2 = true ∧ (judgeR r).1 = r.2 := by
  unfold judgeR at h ⊢
  by_cases h1 : r.1.err ≠ 0
  · rw [if_pos h1] at h; exact (h1 h).elim
  · rw [if_neg h1] at h ⊢
    by_cases h2 : rightD r.2 = true
    · rw [if_pos h2]; exact ⟨by omega, h2, rfl⟩
    · rw [if_neg h2] at h; exact absurd h (by decide)

/-- All keys lie below one that is behind the last. -/
theorem rise_last : ∀ {m : List Ent} {k : List UInt8}, Rise keyE m → lastK (dds m) < k → ∀ y ∈ m, keyE y < k
  | [], _, _, _, y, hy => absurd hy List.not_mem_nil
  | [x], k, _, h, y, hy => by
    rw [List.mem_singleton] at hy
    subst hy
    exact h
  | x :: z :: r, k, hr, h, y, hy => by
    obtain ⟨h1, h2⟩ := rise_cons.1 hr
    have ih := rise_last (m := z :: r) (k := k) h2 h
    rcases List.mem_cons.1 hy with rfl | hy
    · exact lt_tr (h1 z (by simp)) (ih z (by simp))
    · exact ih y hy

theorem putK_last {x : Ent} : ∀ {m : List Ent}, (∀ y ∈ m, keyE y < keyE x) → putK keyE x m = m ++ [x]
  | [], _ => rfl
  | y :: r, h => by
    have h1 := h y (by simp)
    have ih := putK_last (x := x) (m := r) (fun z hz => h z (by simp [hz]))
    have h2 : ¬ keyE x = keyE y := fun e => lt_ne h1 e.symm
    unfold putK
    rw [if_neg (lt_asy h1), if_neg h2, ih]
    rfl

end Go.Proofs.YtjnpmbdehalmpaaGreat

/-
  CONTRACTS of the reference of layer 1: what encodings are.
-/
namespace Go.Proofs.YtjnpmbdehalmpaaGreat
open Go.RowKit Go.Mk

set_option maxHeartbeats 400000 in
set_option maxRecDepth 100000 in
theorem octets_any (u k : Nat) (w : World) (hk : k ≤ 8) (hu : u < 18446744073709551616) :
    Calls Tryz.prog 87 #[.int .u64 u, .int .i64 k] w fun e w' => e = .returned (.string (bs (bigB k u))) ∧ Below w.heap.size w w' := by
  go_enter Tryz.func87, Tryz.ntmps87
  go_wp2
  go_loopg [0, 5, 6] k (fun m n s i wr => ∃ j, m = k - j ∧ j ≤ k ∧ i = .int .i64 (j : Int) ∧ s = .string (bs (bigB j u)) ∧ n = .int .u64 ((u / 256 ^ j : Nat) : Int) ∧ Below w.heap.size w wr)
  case atStart => exact ⟨0, rfl, Nat.zero_le _, rfl, rfl, by simp, Below.refl _ _⟩
  case round =>
    obtain ⟨j, hm, hj, rfl, rfl, rfl, hb⟩ := hrel
    have hle : u / 256 ^ j ≤ u := Nat.div_le_self _ _
    generalize hd : u / 256 ^ j = d at *
    have HD := Lib.hid hd; clear hd
    have HM := Lib.hid hm; clear hm
    have HB := Lib.hid hb; clear hb
    by_cases hlt : j < k
    · have hcv := run_string_one (P := Tryz.prog) 28 9 5 Tryz.underlying28 Tryz.underlying5 Tryz.underlying9 wr (UInt8.ofNat d) 5
      have eb : bv (UInt8.ofNat d) = .int .u8 ((d : Int) % 256) := by simp [bv]
      rw [eb] at hcv
      clear eb
      have z1 : (bs [UInt8.ofNat d]).size ≤ 100 := by simp [bs_size]
      have z2 : (bs (bigB j u)).size ≤ 100 := by simp [bs_size, bigB_length]; omega
      go_wp2
      go_roundg (k - (j + 1))
      case measure => have := HM.out; omega
      case rel =>
        refine ⟨j + 1, rfl, by omega, by go_num, ?_, ?_, HB.out.alloc HB.out.size _⟩
        · rw [bs_append]; simp [bigB, HD.out]
        · congr 1; rw [Nat.pow_succ, ← Nat.div_div_eq_div_mul, HD.out]; rfl
    · obtain rfl : j = k := by omega
      go_wp2
      go_ret
      exact ⟨rfl, HB.out⟩

theorem asU64_lt (n : Int) : asU64 n < 18446744073709551616 := by
  unfold asU64
  rw [IntKind.wrap_u64]
  omega

set_option maxHeartbeats 400000 in
theorem rnum_ok (n : Nat) (w : World) (h : n ≤ 2147483647) :
    Calls Tryz.prog 44 #[.int .i64 n] w fun e w' => e = .returned (.tuple #[.string (bs (bigB 4 n)), .bool true]) ∧ Below w.heap.size w w' := by
  go_enter Tryz.func44, Tryz.ntmps44
  go_wp2_with fail
  refine (octets_any n 4 w (by omega) (by omega)).mono ?_
  rintro e w1 ⟨rfl, hb⟩
  have HB := Lib.hid hb; clear hb
  go_wp2
  go_ret2
  exact ⟨rfl, HB.out⟩

set_option maxHeartbeats 400000 in
theorem rnum_no (n : Int) (w : World) (h : n < 0 ∨ 2147483647 < n) :
    Calls Tryz.prog 44 #[.int .i64 n] w fun e w' => e = .returned (.tuple #[.string (bs []), .bool false]) ∧ w = w' := by
  rcases h with h | h
  · go_enter Tryz.func44, Tryz.ntmps44
    go_wp2
    go_ret2
    exact ⟨rfl, rfl⟩
  · have h2 : ¬ n < 0 := by omega
    go_enter Tryz.func44, Tryz.ntmps44
    go_wp2
    go_ret2
    exact ⟨rfl, rfl⟩

/-- The encoding of a text, of a list of texts. -/
def encT (t : List UInt8) : List UInt8 := bigB 4 t.length ++ t
def encL (l : List (List UInt8)) : List UInt8 := bigB 4 l.length ++ (l.map encT).flatten

set_option maxHeartbeats 400000 in
theorem rtext_any (t : List UInt8) (w : World) (h : t.length ≤ 2147483647) :
    Calls Tryz.prog 46 #[.string (bs t)] w fun e w' => e = .returned (.string (bs (encT t))) ∧ Below w.heap.size w w' := by
  have e1 : (bs t).size = t.length := rfl
  have z1 : (bs t).size ≤ 2147483647 := by omega
  have z2 : (bs (bigB 4 t.length)).size ≤ 100 := by simp [bs_size, bigB_length]
  have E1 := Lib.hid e1; clear e1
  go_enter Tryz.func46, Tryz.ntmps46
  go_wp2_with fail
  rw [E1.out]
  refine (rnum_ok t.length w h).mono ?_
  rintro e w1 ⟨rfl, hb⟩
  have HB := Lib.hid hb; clear hb
  go_wp2
  go_ret
  exact ⟨by rw [bs_append]; rfl, HB.out⟩

/-- The list's encoding up to its first j texts. -/
def encTo (l : List (List UInt8)) (n j : Nat) : List UInt8 := bigB 4 n ++ ((l.take j).map encT).flatten

theorem encT_len (t : List UInt8) : (encT t).length = 4 + t.length := by simp [encT, bigB_length]

theorem flat_len (l : List (List UInt8)) : ((l.map encT).flatten).length = sumL l := by
  induction l with
  | nil => rfl
  | cons t l ih => simp [sumL, encT_len] at *; omega
theorem encL_len (l : List (List UInt8)) : (encL l).length = 4 + sumL l := by simp only [encL, List.length_append, bigB_length, flat_len]

set_option maxHeartbeats 400000 in
theorem rtexts_any (la : Option Addr) (lc : Nat) (ss : List ByteArray) (B : Nat) (w : World) (hB : B ≤ w.heap.size) (hL : Lies w B la (ss.map .string)) (hn : ss.length ≤ 2147483647) (hs : ∀ t ∈ ss, t.size ≤ 2147483647) (hz : sumL (strL ss) ≤ 1099511627776) :
    Calls Tryz.prog 47 #[.slice la ss.length lc] w fun e w' => e = .returned (.string (bs (encL (strL ss)))) ∧ Below w.heap.size w w' := by
  have HL := Lib.hid hL; clear hL
  have HS := Lib.hid hs; clear hs
  go_enter Tryz.func47, Tryz.ntmps47
  go_wp2_with fail
  refine (rnum_ok ss.length w hn).mono ?_
  rintro e w1 ⟨rfl, b1⟩
  have B1 := Lib.hid b1; clear b1
  go_wp2
  go_loopg [3, 5] ss.length (fun k s c wr => ∃ j, k = ss.length - j ∧ j ≤ ss.length ∧ c = .int .i64 (j : Int) ∧ s = .string (bs (encTo (strL ss) ss.length j)) ∧ Below w.heap.size w wr)
  case atStart => exact ⟨0, rfl, Nat.zero_le _, rfl, by simp [encTo], B1.out⟩
  case round =>
    obtain ⟨j, hk, hj, rfl, rfl, hbl⟩ := hrel
    by_cases hlt : j < ss.length
    · obtain ⟨xb, xo, rfl, hxb, hc⟩ := (HL.out.below (hbl.mono hB)) (by intro h; rw [List.map_eq_nil_iff] at h; rw [h] at hlt; simp at hlt)
      have hx : wr.cell? ⟨xb, xo + j, none⟩ = some (.string (bs ss[j].data.toList)) := hc j _ (by simp [hlt]; rfl)
      have HK := Lib.hid hk; clear hk hc
      have HBL := Lib.hid hbl; clear hbl
      have hsj := HS.out ss[j] (List.getElem_mem hlt)
      have e : (strL ss).take (j + 1) = (strL ss).take j ++ [ss[j].data.toList] := by
        rw [List.take_add_one]
        simp [strL, hlt]
      have hz1 : (bs (encTo (strL ss) ss.length j)).size ≤ 1099511627780 := by
        have h1 := sumL_take (strL ss) j
        simp only [bs_size, encTo, List.length_append, bigB_length, flat_len]; omega
      have hz2 : (bs (encT ss[j].data.toList)).size ≤ 2147483651 := by
        have : ss[j].data.toList.length = ss[j].size := rfl
        simp only [bs_size, encT_len, this]; omega
      have EE := Lib.hid e; clear e
      go_wp2_with fail
      refine (rtext_any ss[j].data.toList wr hsj).mono ?_
      rintro e w2 ⟨rfl, b2⟩
      have B2 := Lib.hid b2; clear b2
      go_wp2
      go_roundg (ss.length - (j + 1))
      case measure => have := HK.out; omega
      case rel =>
        refine ⟨j + 1, rfl, by omega, by go_num, ?_, HBL.out.trans (B2.out.mono HBL.out.size)⟩
        rw [bs_append, encTo, encTo, EE.out]; simp
    · obtain rfl : j = ss.length := by omega
      go_wp2
      go_ret
      have e : (strL ss).take ss.length = strL ss := List.take_of_length_le (by simp [strL])
      exact ⟨by rw [encTo, e]; simp [encL, strL], hbl⟩

end Go.Proofs.YtjnpmbdehalmpaaGreat

/-
  The fields that a law of layer 1 is given, as they lie in memory; 'small', 'awake'.
-/
namespace Go.Proofs.YtjnpmbdehalmpaaGreat
open Go.RowKit Go.Mk

/-- A Field, as it is read. -/
structure FD where
  kind : Int
  n : Int
  s : ByteArray
  la : Option Addr
  lc : Nat
  ls : List ByteArray

/-- The fields lie behind fa, below block B. -/
structure Flds (w : World) (B : Nat) (fa : Option Addr) (fs : List FD) : Prop where
  at_ : fs ≠ [] → ∃ b off, fa = some ⟨b, off, none⟩ ∧ b < B ∧ ∀ j (h : j < fs.length), w.cell? ⟨b, off + j * 4, none⟩ = some (.int .i64 fs[j].kind) ∧ w.cell? ⟨b, off + j * 4 + 1, none⟩ = some (.int .i64 fs[j].n) ∧
    w.cell? ⟨b, off + j * 4 + 2, none⟩ = some (.string fs[j].s) ∧ w.cell? ⟨b, off + j * 4 + 3, none⟩ = some (.slice fs[j].la fs[j].ls.length fs[j].lc)
  strs : ∀ f ∈ fs, Lies w B f.la (f.ls.map .string)
  len : fs.length ≤ maxLen
  lens : ∀ f ∈ fs, f.ls.length ≤ maxLen ∧ f.s.size ≤ maxLen ∧ ∀ t ∈ f.ls, t.size ≤ maxLen
  rng : ∀ f ∈ fs, -9223372036854775808 ≤ f.n ∧ f.n ≤ 9223372036854775807

theorem Flds.below {w w' : World} {B : Nat} {fa : Option Addr} {fs : List FD} (h : Flds w B fa fs) (hb : Below B w w') : Flds w' B fa fs := by
  refine ⟨fun hn => ?_, fun f hf => (h.strs f hf).below hb, h.len, h.lens, h.rng⟩
  obtain ⟨b, off, e, hl, hc⟩ := h.at_ hn
  refine ⟨b, off, e, hl, fun j hj => ?_⟩
  obtain ⟨h1, h2, h3, h4⟩ := hc j hj
  exact ⟨(hb.cell (p := ⟨b, _, none⟩) hl).trans h1, (hb.cell (p := ⟨b, _, none⟩) hl).trans h2, (hb.cell (p := ⟨b, _, none⟩) hl).trans h3, (hb.cell (p := ⟨b, _, none⟩) hl).trans h4⟩

def FD.small (f : FD) : Bool := decide (f.s.size ≤ 200) && (decide (f.ls.length ≤ 20) && f.ls.all (fun t => decide (t.size ≤ 100)))
def smallB (fs : List FD) : Bool := decide (fs.length ≤ 20) && fs.all FD.small

theorem smallB_no {fs : List FD} {j : Nat} (hj : j < fs.length) (h : fs[j].small = false) : smallB fs = false := by
  have : fs.all FD.small = false := by
    rw [List.all_eq_false]
    exact ⟨fs[j], List.getElem_mem hj, by simp [h]⟩
  simp [smallB, this]

/-- A new Writer. -/
theorem WrF.new (w : World) (F : Nat → Prop) (hF : ∀ k, w.heap.size ≤ k → F k) (e : TypeId) : WrF (w.alloc (.cells #[.slice none 0 0, .int .i64 0] e)) F w.heap.size ⟨[], 0⟩ :=
  ⟨hF _ (Nat.le_refl _), none, 0, ⟨by simp, by simp, by simp, by simp, World.ownsRow_nil _ _ _ _, by simp [Value.ownBlock]⟩, by simp [Value.ownBlock]⟩

end Go.Proofs.YtjnpmbdehalmpaaGreat
