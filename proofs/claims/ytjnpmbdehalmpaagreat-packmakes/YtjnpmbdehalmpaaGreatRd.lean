/-
  CONTRACTS of package octet's Reader.
-/
import Derived.Test.YtjnpmbdehalmpaaGreatWr
import Derived.Deep.CutBlock
import Derived.Deep.DeepCutAuto
import Derived.Test.YtjnpmbdehalmpaaGreatGNb
namespace Go.Proofs.YtjnpmbdehalmpaaGreat
open Go.RowKit Go.Mk

/-- The number whose most significant byte comes first. -/
def natB (l : List UInt8) : Nat := l.foldl (fun n x => n * 256 + x.toNat) 0

theorem natB_snoc (l : List UInt8) (x : UInt8) : natB (l ++ [x]) = natB l * 256 + x.toNat := by simp [natB, List.foldl_append]
theorem natB_lt (l : List UInt8) : natB l < 256 ^ l.length := by
  have : ∀ (l : List UInt8) (n k : Nat), n < 256 ^ k → l.foldl (fun n x => n * 256 + x.toNat) n < 256 ^ (k + l.length) := by
    intro l
    induction l with
    | nil => intro n k h; simpa using h
    | cons x l ih =>
      intro n k h
      have h1 := x.toNat_lt
      have h2 := ih (n * 256 + x.toNat) (k + 1) (by rw [Nat.pow_succ]; omega)
      rw [List.foldl_cons, List.length_cons, show k + (l.length + 1) = k + 1 + l.length by omega]
      exact h2
  have h := this l 0 0 (by simp)
  simpa [natB] using h

theorem big_or (n : Nat) (x : UInt8) (h : n * 256 + 256 ≤ 18446744073709551616) : bits BinOp.or IntKind.u64 (IntKind.u64.wrap ((n : Int) * 256)) (IntKind.u64.wrap (x.toNat : Int)) = ((n * 256 + x.toNat : Nat) : Int) := by
  have hx := x.toNat_lt
  have e1 : IntKind.u64.wrap ((n : Int) * 256) = ((n * 256 : Nat) : Int) := by rw [IntKind.wrap_u64]; omega
  have e2 : IntKind.u64.wrap (x.toNat : Int) = (x.toNat : Int) := by rw [IntKind.wrap_u64]; omega
  rw [e1, e2, u64_or_nat _ _ (by omega) (by omega)]
  have := Nat.two_pow_add_eq_or_of_lt (i := 8) (b := x.toNat) (by omega) n
  rw [Nat.mul_comm n 256]
  congr 1
  exact this.symm

set_option maxHeartbeats 400000 in
theorem big_any (ao : Option Addr) (cap : Nat) (l : List UInt8) (B : Nat) (w : World) (hL : Lies w B ao (l.map bv)) (hl : l.length ≤ 8) :
    Calls Tryz.prog 100 #[.slice ao l.length cap] w fun e w' => e = .returned (.int .u64 (natB l)) ∧ w = w' := by
  have HL := Lib.hid hL; clear hL
  go_enter Tryz.func100, Tryz.ntmps100
  go_wp2
  go_loopg [3, 8] l.length (fun k n c wr => ∃ j, k = l.length - j ∧ j ≤ l.length ∧ c = .int .i64 (j : Int) ∧ n = .int .u64 (natB (l.take j)) ∧ w = wr)
  case atStart => exact ⟨0, rfl, Nat.zero_le _, rfl, rfl, rfl⟩
  case round =>
    obtain ⟨j, hk, hj, rfl, rfl, rfl⟩ := hrel
    have HK := Lib.hid hk; clear hk
    by_cases hlt : j < l.length
    · obtain ⟨xb, xo, rfl, hxb, hc⟩ := HL.out (by intro h; rw [List.map_eq_nil_iff] at h; rw [h] at hlt; simp at hlt)
      have hx : w.cell? ⟨xb, xo + j, none⟩ = some (.int .u8 (l[j].toNat : Int)) := hc j _ (by simp [hlt, bv])
      clear hc
      generalize hn : natB (l.take j) = n
      generalize hx0 : l[j] = x at *
      have hn2 := natB_lt (l.take j)
      have hn3 : (256 : Nat) ^ (l.take j).length ≤ 256 ^ 7 := Nat.pow_le_pow_right (by omega) (by simp; omega)
      rw [hn] at hn2
      have hn4 : n * 256 + 256 ≤ 18446744073709551616 := by have : (256 : Nat) ^ 7 = 72057594037927936 := rfl; omega
      have HBO := Lib.hid (big_or n x hn4)
      have HN := Lib.hid hn; have HX0 := Lib.hid hx0; clear hn hx0 hn2 hn3 hn4
      go_wp2
      go_roundg (l.length - (j + 1))
      case measure => have := HK.out; omega
      case rel =>
        refine ⟨j + 1, rfl, by omega, by go_num, ?_, rfl⟩
        rw [HBO.out]
        congr 2
        rw [List.take_add_one, List.getElem?_eq_getElem hlt, Option.toList_some, natB_snoc, HN.out, HX0.out]
    · obtain rfl : j = l.length := by omega
      go_wp2
      go_ret
      exact ⟨by rw [List.take_length]; rfl, rfl⟩

/-- What a Reader holds: the bytes that are left, and its error. -/
structure RS where
  rest : List UInt8
  err : Int

def RS.num (s : RS) : RS × Int :=
  if s.err ≠ 0 then (s, 0) else if s.rest.length < 4 then (⟨s.rest, 10⟩, 0) else if 2147483647 < natB (s.rest.take 4) then (⟨s.rest, 11⟩, 0) else (⟨s.rest.drop 4, 0⟩, natB (s.rest.take 4))
def RS.int (s : RS) : RS × Int :=
  if s.err ≠ 0 then (s, 0) else if s.rest.length < 8 then (⟨s.rest, 10⟩, 0) else (⟨s.rest.drop 8, 0⟩, wrap64 (natB (s.rest.take 8)))
def RS.text (s : RS) : RS × List UInt8 :=
  if s.num.1.err ≠ 0 then (⟨s.rest, s.num.1.err⟩, []) else if s.num.1.rest.length < s.num.2.toNat then (⟨s.rest, 10⟩, []) else (⟨s.num.1.rest.drop s.num.2.toNat, 0⟩, s.num.1.rest.take s.num.2.toNat)

/-- The Reader at block b: its slice at ao, of capacity cap, its bytes in D. -/
structure Rd (w : World) (D : Nat → Prop) (b : Nat) (ao : Option Addr) (cap : Nat) (s : RS) : Prop where
  c0 : w.cell? ⟨b, 0, none⟩ = some (.slice ao s.rest.length cap)
  c1 : w.cell? ⟨b, 1, none⟩ = some (.int .i64 s.err)
  f0 : w.frozen? ⟨b, 0, none⟩ = false
  f1 : w.frozen? ⟨b, 1, none⟩ = false
  le : s.rest.length ≤ cap
  max : cap ≤ maxLen
  lies : Lies w w.heap.size ao (s.rest.map bv)
  dat : s.rest ≠ [] → ∀ a, ao = some a → D a.block
  nd : ¬ D b

theorem Rd.lt {w : World} {D : Nat → Prop} {b : Nat} {ao : Option Addr} {cap : Nat} {s : RS} (h : Rd w D b ao cap s) : b < w.heap.size := World.block_lt_of_cell? _ _ h.c0

theorem Rd.ne {w : World} {D : Nat → Prop} {b : Nat} {ao : Option Addr} {cap : Nat} {s : RS} (h : Rd w D b ao cap s) : s.rest ≠ [] → ∀ a, ao = some a → a.block ≠ b := fun hn a ha e => h.nd (e ▸ h.dat hn a ha)

/-- A later slice of what it held, stored. -/
theorem Rd.put {w : World} {D : Nat → Prop} {b : Nat} {ao : Option Addr} {cap : Nat} {s : RS} (h : Rd w D b ao cap s) (k : Nat) (hk : k ≤ s.rest.length) (ao' : Option Addr) (hao : ao' = if cap = k then ao else ao.map (·.add k)) :
    Rd (w.setCell ⟨b, 0, none⟩ (.slice ao' (s.rest.length - k) (cap - k))) D b ao' (cap - k) ⟨s.rest.drop k, s.err⟩ := by
  have hle := h.le
  have hmx := h.max
  have kp : Kept (fun k => k = b) w (w.setCell ⟨b, 0, none⟩ (.slice ao' (s.rest.length - k) (cap - k))) := Kept.setCell (p := ⟨b, 0, none⟩) (Kept.refl (fun k => k = b) w) (fun _ => rfl) _
  have hdt : s.rest.drop k ≠ [] → ∀ a, ao' = some a → D a.block := by
    intro hn a ha
    have hne : s.rest ≠ [] := fun e => hn (by simp [e])
    rw [hao] at ha
    split at ha
    · exact h.dat hne a ha
    · obtain ⟨a', rfl, rfl⟩ := Option.map_eq_some_iff.1 ha
      rw [block_add]
      exact h.dat hne a' rfl
  have hls : Lies w w.heap.size ao' ((s.rest.drop k).map bv) := by
    by_cases hc : cap = k
    · have : s.rest.drop k = [] := List.drop_eq_nil_of_le (by omega)
      rw [this]; exact Lies.nil _ _ _
    · rw [hao, if_neg hc, List.map_drop]
      exact h.lies.drop k
  refine ⟨by rw [World.cell?_setCell_same _ _ _ h.c0]; simp, ?_, ?_, ?_, by simp; omega, by omega, ?_, hdt, h.nd⟩
  · rw [World.cell?_setCell_other _ _ _ _ (by simp)]; exact h.c1
  · rw [World.frozen?_setCell]; exact h.f0
  · rw [World.frozen?_setCell]; exact h.f1
  · exact (hls.kept kp (fun hn a ha e => h.nd (e ▸ hdt (fun e => hn (by rw [e]; rfl)) a ha))).mono kp.size

theorem Rd.fail {w : World} {D : Nat → Prop} {b : Nat} {ao : Option Addr} {cap : Nat} {s : RS} (h : Rd w D b ao cap s) (e : Int) : Rd (w.setCell ⟨b, 1, none⟩ (.int .i64 e)) D b ao cap ⟨s.rest, e⟩ := by
  have kp : Kept (fun k => k = b) w (w.setCell ⟨b, 1, none⟩ (.int .i64 e)) := Kept.setCell (p := ⟨b, 1, none⟩) (Kept.refl (fun k => k = b) w) (fun _ => rfl) _
  refine ⟨?_, World.cell?_setCell_same _ _ _ h.c1, ?_, ?_, h.le, h.max, ?_, h.dat, h.nd⟩
  · rw [World.cell?_setCell_other _ _ _ _ (by simp)]; exact h.c0
  · rw [World.frozen?_setCell]; exact h.f0
  · rw [World.frozen?_setCell]; exact h.f1
  · exact (h.lies.kept kp (fun hn a ha e => h.ne (fun e => hn (by rw [e]; rfl)) a ha e)).mono kp.size

def RdPost (w : World) (D : Nat → Prop) (b : Nat) (v : Value) (s' : RS) (e : Ending) (w' : World) : Prop := e = .returned v ∧ (∃ ao' cap', Rd w' D b ao' cap' s') ∧ Kept (fun k => k = b) w w'

set_option maxHeartbeats 400000 in
theorem rnum_any' (D : Nat → Prop) (b : Nat) (ao : Option Addr) (cap : Nat) (s : RS) (w : World) (h : Rd w D b ao cap s) :
    Calls Tryz.prog 75 #[.pointer (some ⟨b, 0, none⟩)] w (RdPost w D b (.int .i64 s.num.2) s.num.1) := by
  have c0 := h.c0
  have c1 := h.c1
  have f0 := h.f0
  have f1 := h.f1
  have hle := h.le
  have hmx := h.max
  unfold maxLen at hmx
  have H := Lib.hid h; clear h
  by_cases he : s.err = 0
  · have he1 : (s.err != 0) = false := by simp [he]
    by_cases h4 : s.rest.length < 4
    · have e : s.num = (⟨s.rest, 10⟩, 0) := by simp [RS.num, he, h4]
      have E := Lib.hid e; clear e he
      go_enter Tryz.func75, Tryz.ntmps75
      go_wp2
      go_ret
      rw [E.out]
      exact ⟨rfl, ⟨ao, cap, H.out.fail 10⟩, Kept.setCell (p := ⟨b, 1, none⟩) (Kept.refl (fun k => k = b) w) (fun _ => rfl) _⟩
    · have ht : (s.rest.take 4).length = 4 := by simp; omega
      have hb := big_any ao cap (s.rest.take 4) w.heap.size w (by simpa [List.map_take] using H.out.lies.take 4) (by omega)
      rw [ht] at hb
      have hlt := natB_lt (s.rest.take 4)
      rw [ht] at hlt
      have HT := Lib.hid ht; clear ht
      have HB := Lib.hid hb; clear hb
      have HE := Lib.hid he; clear he
      have hr4 : (4 : Int) ≤ s.rest.length := by omega
      have hc4 : (4 : Int) ≤ cap := by omega
      generalize hn : natB (s.rest.take 4) = n at *
      have HN := Lib.hid hn; clear hn
      have hlt' : n < 4294967296 := hlt
      clear hlt
      by_cases hb31 : 2147483647 < n
      · have e : s.num = (⟨s.rest, 11⟩, 0) := by simp [RS.num, HE.out, h4, HN.out, hb31]
        have E := Lib.hid e; clear e
        go_enter Tryz.func75, Tryz.ntmps75
        go_wp2_with fail
        refine HB.out.mono ?_
        rintro e w1 ⟨rfl, rfl⟩
        go_wp2
        go_ret
        rw [E.out]
        exact ⟨rfl, ⟨ao, cap, H.out.fail 11⟩, Kept.setCell (p := ⟨b, 1, none⟩) (Kept.refl (fun k => k = b) w) (fun _ => rfl) _⟩
      · have e : s.num = ((⟨s.rest.drop 4, 0⟩ : RS), (n : Int)) := by simp [RS.num, HE.out, h4, HN.out, hb31]
        have E := Lib.hid e; clear e
        have fin := fun ao' h => H.out.put 4 (by omega) ao' h
        rw [HE.out] at fin
        have FIN := Lib.hid fin; clear fin
        by_cases hcap : cap = 4
        · subst hcap
          go_enter Tryz.func75, Tryz.ntmps75
          go_wp2_with fail
          refine HB.out.mono ?_
          rintro e w1 ⟨rfl, rfl⟩
          go_wp2
          go_ret
          rw [E.out]
          exact ⟨rfl, ⟨ao, 0, by have := FIN.out ao rfl; rwa [show s.rest.length - 4 = 0 by omega] at this⟩, Kept.setCell (p := ⟨b, 0, none⟩) (Kept.refl (fun k => k = b) w) (fun _ => rfl) _⟩
        · go_enter Tryz.func75, Tryz.ntmps75
          go_wp2_with fail
          refine HB.out.mono ?_
          rintro e w1 ⟨rfl, rfl⟩
          go_wp2
          go_ret
          rw [E.out]
          exact ⟨rfl, ⟨_, _, FIN.out _ (by rw [if_neg hcap]; rfl)⟩, Kept.setCell (p := ⟨b, 0, none⟩) (Kept.refl (fun k => k = b) w) (fun _ => rfl) _⟩
  · have he1 : (s.err != 0) = true := by simp [he]
    have e : s.num = (s, 0) := by simp [RS.num, he]
    have E := Lib.hid e; clear e
    go_enter Tryz.func75, Tryz.ntmps75
    go_wp2
    go_ret
    rw [E.out]
    exact ⟨rfl, ⟨ao, cap, H.out⟩, Kept.refl _ _⟩

/-- What Num leaves. -/
theorem RS.num_cases (s : RS) : (s.num.1.err ≠ 0 ∧ s.num = (⟨s.rest, s.num.1.err⟩, 0)) ∨ (s.err = 0 ∧ 4 ≤ s.rest.length ∧ ∃ n : Nat, n ≤ 2147483647 ∧ s.num = (⟨s.rest.drop 4, 0⟩, (n : Int))) := by
  unfold RS.num
  by_cases he : s.err = 0
  · by_cases h4 : s.rest.length < 4
    · left; simp [he, h4]
    · by_cases hb : 2147483647 < natB (s.rest.take 4)
      · left; simp [he, h4, hb]
      · right
        refine ⟨he, by omega, natB (s.rest.take 4), by omega, ?_⟩
        simp [he, h4, hb]
  · left; simp [he]

/-- The old slice, stored again. -/
theorem Rd.back {w w1 : World} {D : Nat → Prop} {b : Nat} {ao ao1 : Option Addr} {cap cap1 : Nat} {s s1 : RS} (h : Rd w D b ao cap s) (h1 : Rd w1 D b ao1 cap1 s1) (hk : Kept (fun k => k = b) w w1) :
    Rd (w1.setCell ⟨b, 0, none⟩ (.slice ao s.rest.length cap)) D b ao cap ⟨s.rest, s1.err⟩ := by
  have kp : Kept (fun k => k = b) w (w1.setCell ⟨b, 0, none⟩ (.slice ao s.rest.length cap)) := Kept.setCell (p := ⟨b, 0, none⟩) hk (fun _ => rfl) _
  refine ⟨World.cell?_setCell_same _ _ _ h1.c0, ?_, ?_, ?_, h.le, h.max, ?_, h.dat, h.nd⟩
  · rw [World.cell?_setCell_other _ _ _ _ (by simp)]; exact h1.c1
  · rw [World.frozen?_setCell]; exact h1.f0
  · rw [World.frozen?_setCell]; exact h1.f1
  · exact (h.lies.kept kp (fun hn a ha e => h.ne (fun e => hn (by rw [e]; rfl)) a ha e)).mono kp.size

set_option maxHeartbeats 400000 in
theorem rtext_any' (D : Nat → Prop) (b : Nat) (ao : Option Addr) (cap : Nat) (s : RS) (w : World) (h : Rd w D b ao cap s) :
    Calls Tryz.prog 77 #[.pointer (some ⟨b, 0, none⟩)] w (RdPost w D b (.string (bs s.text.2)) s.text.1) := by
  have c0 := h.c0
  have H := Lib.hid h; clear h
  have hnc := s.num_cases
  have ht : s.text = if s.num.1.err ≠ 0 then (⟨s.rest, s.num.1.err⟩, []) else if s.num.1.rest.length < s.num.2.toNat then (⟨s.rest, 10⟩, []) else (⟨s.num.1.rest.drop s.num.2.toNat, 0⟩, s.num.1.rest.take s.num.2.toNat) := rfl
  have HT := Lib.hid ht; have HNC := Lib.hid hnc; clear ht hnc
  have hc := rnum_any' D b ao cap s w H.out
  generalize s.num = q at *
  obtain ⟨s1, n⟩ := q
  have HC := Lib.hid hc; clear hc
  go_enter Tryz.func77, Tryz.ntmps77
  go_wp2_with fail
  refine HC.out.mono ?_
  rintro e w1 ⟨rfl, ⟨ao1, cap1, h1⟩, k1⟩
  have d0 := h1.c0
  have d1 := h1.c1
  have g0 := h1.f0
  have g1 := h1.f1
  have H1 := Lib.hid h1; have K1 := Lib.hid k1; clear h1 k1
  rcases HNC.out with ⟨he, hq⟩ | ⟨he, hl4, m, hm, hq⟩
  · simp only [Prod.mk.injEq] at hq
    obtain ⟨hq1, rfl⟩ := hq
    have he1 : (s1.err == 0) = false := by simpa using he
    have he2 : (s1.err != 0) = true := by simpa using he
    have e : s.text = (⟨s.rest, s1.err⟩, []) := by rw [HT.out]; simp [he]
    have E := Lib.hid e; clear e hq1 he
    have FIN := Lib.hid (H.out.back H1.out K1.out)
    go_wp2
    go_ret
    rw [E.out]
    exact ⟨rfl, ⟨_, _, FIN.out⟩, Kept.setCell (p := ⟨b, 0, none⟩) K1.out (fun _ => rfl) _⟩
  · simp only [Prod.mk.injEq] at hq
    obtain ⟨rfl, rfl⟩ := hq
    have hle := H1.out.le
    have hmx := H1.out.max
    unfold maxLen at hmx
    simp only at hle d0 d1
    generalize hr : s.rest.drop 4 = r at *
    have HR := Lib.hid hr; clear hr
    by_cases hs : r.length < m
    · have e : s.text = (⟨s.rest, 10⟩, []) := by rw [HT.out]; simp [hs]
      have E := Lib.hid e; clear e he
      have hs' : (r.length : Int) < (m : Int) := by omega
      have FIN := Lib.hid (H.out.back (H1.out.fail 10) (Kept.setCell (p := ⟨b, 1, none⟩) K1.out (fun _ => rfl) _))
      go_wp2
      go_ret
      rw [E.out]
      exact ⟨rfl, ⟨_, _, FIN.out⟩, Kept.setCell (p := ⟨b, 0, none⟩) (Kept.setCell (p := ⟨b, 1, none⟩) K1.out (fun _ => rfl) _) (fun _ => rfl) _⟩
    · have e : s.text = (⟨r.drop m, 0⟩, r.take m) := by rw [HT.out]; simp [hs]
      have E := Lib.hid e; clear e he
      have hs1 : (m : Int) ≤ (r.length : Int) := by omega
      have hs2 : (m : Int) ≤ (cap1 : Int) := by omega
      have hcv := run_string_of (P := Tryz.prog) (l := r.take m) (ao := ao1) w1 28 9 5 Tryz.underlying28 Tryz.underlying5 Tryz.underlying9 cap1 m (by simp; omega) (by simpa [List.map_take] using H1.out.lies.take m)
      have fin := fun ao' h => H1.out.put m (by simp; omega) ao' h
      have FIN := Lib.hid fin; clear fin
      simp only at FIN
      by_cases hcap : cap1 = m
      · subst hcap
        go_wp2
        go_ret
        rw [E.out]
        exact ⟨rfl, ⟨ao1, 0, by have := FIN.out ao1 (by simp); simpa [show r.length - cap1 = 0 by omega] using this⟩, Kept.setCell (p := ⟨b, 0, none⟩) K1.out (fun _ => rfl) _⟩
      · go_wp2
        go_ret
        rw [E.out]
        exact ⟨rfl, ⟨_, _, FIN.out _ (by rw [if_neg hcap])⟩, Kept.setCell (p := ⟨b, 0, none⟩) K1.out (fun _ => rfl) _⟩

/-- Texts: the number of texts, then each of them; nothing is consumed where one fails. -/
def RS.many : Nat → RS → RS × List (List UInt8)
  | 0, s => (s, [])
  | n + 1, s => if s.err ≠ 0 then (s, []) else ((RS.many n s.text.1).1, s.text.2 :: (RS.many n s.text.1).2)
def RS.tooMany (s1 : RS) (n : Int) : Bool := decide (s1.err = 0 ∧ (1000000 < n ∨ (s1.rest.length : Int) < n))
def RS.head (s : RS) : RS := if s.num.1.tooMany s.num.2 then ⟨s.num.1.rest, 10⟩ else s.num.1
def RS.texts (s : RS) : RS × List (List UInt8) :=
  if (RS.many s.num.2.toNat s.head).1.err ≠ 0 then (⟨s.rest, (RS.many s.num.2.toNat s.head).1.err⟩, []) else RS.many s.num.2.toNat s.head

theorem Rd.errs {w : World} {D : Nat → Prop} {b : Nat} {ao : Option Addr} {cap : Nat} {s : RS} (h : Rd w D b ao cap s) :
    Calls Tryz.prog 76 #[.pointer (some ⟨b, 0, none⟩)] w fun e w' => e = .returned (.int .i64 s.err) ∧ w = w' := by
  have c1 := h.c1
  clear h
  go_enter Tryz.func76, Tryz.ntmps76
  go_wp2
  go_ret
  exact ⟨rfl, rfl⟩

theorem Rd.left {w : World} {D : Nat → Prop} {b : Nat} {ao : Option Addr} {cap : Nat} {s : RS} (h : Rd w D b ao cap s) :
    Calls Tryz.prog 80 #[.pointer (some ⟨b, 0, none⟩)] w fun e w' => e = .returned (.int .i64 s.rest.length) ∧ w = w' := by
  have c0 := h.c0
  clear h
  go_enter Tryz.func80, Tryz.ntmps80
  go_wp2
  go_ret
  exact ⟨rfl, rfl⟩

def RS.endE (s : RS) : Int := if s.err = 0 ∧ s.rest ≠ [] then 11 else s.err

theorem Rd.ends {w : World} {D : Nat → Prop} {b : Nat} {ao : Option Addr} {cap : Nat} {s : RS} (h : Rd w D b ao cap s) :
    Calls Tryz.prog 102 #[.pointer (some ⟨b, 0, none⟩)] w fun e w' => e = .returned (.int .i64 s.endE) ∧ w = w' := by
  have c0 := h.c0
  have c1 := h.c1
  clear h
  by_cases he : s.err = 0
  · have he1 : (s.err == 0) = true := by simp [he]
    by_cases hl : 0 < s.rest.length
    · have e : s.endE = 11 := by simp [RS.endE, he, List.length_pos_iff.1 hl]
      have E := Lib.hid e; clear e he
      go_enter Tryz.func102, Tryz.ntmps102
      go_wp2
      go_ret
      exact ⟨by rw [E.out]; rfl, rfl⟩
    · have e : s.endE = s.err := by
        have : s.rest = [] := List.eq_nil_of_length_eq_zero (by omega)
        simp [RS.endE, this]
      have E := Lib.hid e; clear e he
      go_enter Tryz.func102, Tryz.ntmps102
      go_wp2
      go_ret
      exact ⟨by rw [E.out]; rfl, rfl⟩
  · have he1 : (s.err == 0) = false := by simp [he]
    have e : s.endE = s.err := by simp [RS.endE, he]
    have E := Lib.hid e; clear e he
    go_enter Tryz.func102, Tryz.ntmps102
    go_wp2
    go_ret
    exact ⟨by rw [E.out]; rfl, rfl⟩


theorem RS.many_end (n : Nat) (s : RS) (h : n = 0 ∨ s.err ≠ 0) : RS.many n s = (s, []) := by
  cases n with
  | zero => rfl
  | succ n =>
    rcases h with h | h
    · cases h
    · simp [RS.many, h]


/-- What Texts leaves. -/
def RtPost (w : World) (D : Nat → Prop) (b : Nat) (l : List (List UInt8)) (s' : RS) (e : Ending) (w' : World) : Prop :=
  (∃ ao cap, e = .returned (.slice ao l.length cap) ∧ w'.ownsRow w.heap.size 9 1 (.slice ao l.length cap) l.length (strs l)) ∧ (∃ ao' cap', Rd w' D b ao' cap' s') ∧ Kept (fun k => k = b) w w'

theorem Rd.kept {S : Nat → Prop} {w w' : World} {D : Nat → Prop} {b : Nat} {ao : Option Addr} {cap : Nat} {s : RS} (h : Rd w D b ao cap s) (hk : Kept S w w') (hb : ¬ S b) (hn : ∀ k, k < w.heap.size → D k → ¬ S k) : Rd w' D b ao cap s := by
  have hlt := h.lt
  refine ⟨(hk.cell (p := ⟨b, 0, none⟩) hlt hb).trans h.c0, (hk.cell (p := ⟨b, 1, none⟩) hlt hb).trans h.c1, (hk.frozen (p := ⟨b, 0, none⟩) hlt hb).trans h.f0, (hk.frozen (p := ⟨b, 1, none⟩) hlt hb).trans h.f1, h.le, h.max, ?_, h.dat, h.nd⟩
  refine (h.lies.kept hk (fun hne a ha => ?_)).mono hk.size
  obtain ⟨b', o', e, hl, _⟩ := h.lies hne
  have hd := h.dat (by simpa using hne) a ha
  rw [e] at ha; cases ha
  exact hn _ hl hd

end Go.Proofs.YtjnpmbdehalmpaaGreat
