/-
  Lemmas towards the claim of this folder: contracts of the functions that the law reaches; joined texts.
-/
import Derived.Test.YtofpnlmlenffnaaDoorRows
import Derived.Test.YtofpnlmlenffnaaDoorGPz9
import Derived.Test.YtofpnlmlenffnaaDoorPr
import Derived.Test.YtofpnlmlenffnaaDoorNa
import Derived.Test.YtofpnlmlenffnaaDoorGWr
/-
  TOKENS in memory: in a box that is stored into, in a row.
-/
namespace Go.Proofs.YtofpnlmlenffnaaDoor
open Go.RowKit Go.Mk

def valT (t : TK) : Value := .agg #[.int .i64 t.k, .string (bs t.x), .int .i64 t.n, .int .i64 t.at_]
def zeroT : TK := ⟨0, [], 0, 0⟩

/-- A token's four cells. -/
abbrev ceT (b o : Nat) (t : TK) (w : World) : Prop := w.cell? ⟨b, o, none⟩ = some (.int .i64 t.k) ∧ w.cell? ⟨b, o + 1, none⟩ = some (.string (bs t.x)) ∧ w.cell? ⟨b, o + 2, none⟩ = some (.int .i64 t.n) ∧ w.cell? ⟨b, o + 3, none⟩ = some (.int .i64 t.at_)

/-- A token in a box that is stored into. -/
structure Bt (w : World) (b : Nat) (t : TK) : Prop where
  c0 : w.cell? ⟨b, 0, none⟩ = some (.int .i64 t.k)
  c1 : w.cell? ⟨b, 1, none⟩ = some (.string (bs t.x))
  c2 : w.cell? ⟨b, 2, none⟩ = some (.int .i64 t.n)
  c3 : w.cell? ⟨b, 3, none⟩ = some (.int .i64 t.at_)
  f0 : w.frozen? ⟨b, 0, none⟩ = false
  f1 : w.frozen? ⟨b, 1, none⟩ = false
  f2 : w.frozen? ⟨b, 2, none⟩ = false
  f3 : w.frozen? ⟨b, 3, none⟩ = false

theorem Bt.lt {w : World} {b : Nat} {t : TK} (h : Bt w b t) : b < w.heap.size := World.block_lt_of_cell? _ _ h.c0

theorem Bt.kept {S : Nat → Prop} {w w' : World} {b : Nat} {t : TK} (h : Bt w b t) (hk : Kept S w w') (hb : ¬ S b) : Bt w' b t := by
  have hlt := h.lt
  exact ⟨(hk.cell (p := ⟨b, 0, none⟩) hlt hb).trans h.c0, (hk.cell (p := ⟨b, 1, none⟩) hlt hb).trans h.c1, (hk.cell (p := ⟨b, 2, none⟩) hlt hb).trans h.c2, (hk.cell (p := ⟨b, 3, none⟩) hlt hb).trans h.c3,
    (hk.frozen (p := ⟨b, 0, none⟩) hlt hb).trans h.f0, (hk.frozen (p := ⟨b, 1, none⟩) hlt hb).trans h.f1, (hk.frozen (p := ⟨b, 2, none⟩) hlt hb).trans h.f2, (hk.frozen (p := ⟨b, 3, none⟩) hlt hb).trans h.f3⟩

theorem bt_new (w : World) (t : TK) (ty : TypeId) : Bt (w.alloc (.cells #[.int .i64 t.k, .string (bs t.x), .int .i64 t.n, .int .i64 t.at_] ty)) w.heap.size t := by
  have h := fun j => World.cell?_alloc_new w #[.int .i64 t.k, .string (bs t.x), .int .i64 t.n, .int .i64 t.at_] ty j
  exact ⟨h 0, h 1, h 2, h 3, by simp, by simp, by simp, by simp⟩

theorem Bt.put0 {w : World} {b : Nat} {t : TK} (h : Bt w b t) (k : Int) : Bt (w.setCell ⟨b, 0, none⟩ (.int .i64 k)) b { t with k := k } := by
  refine ⟨World.cell?_setCell_same _ _ _ h.c0, ?_, ?_, ?_, ?_, ?_, ?_, ?_⟩
  all_goals first | (rw [World.cell?_setCell_other _ _ _ _ (by simp)]; first | exact h.c1 | exact h.c2 | exact h.c3) | (rw [World.frozen?_setCell]; first | exact h.f0 | exact h.f1 | exact h.f2 | exact h.f3)
theorem Bt.put1 {w : World} {b : Nat} {t : TK} (h : Bt w b t) (x : List UInt8) : Bt (w.setCell ⟨b, 1, none⟩ (.string (bs x))) b { t with x := x } := by
  refine ⟨?_, World.cell?_setCell_same _ _ _ h.c1, ?_, ?_, ?_, ?_, ?_, ?_⟩
  all_goals first | (rw [World.cell?_setCell_other _ _ _ _ (by simp)]; first | exact h.c0 | exact h.c2 | exact h.c3) | (rw [World.frozen?_setCell]; first | exact h.f0 | exact h.f1 | exact h.f2 | exact h.f3)
theorem Bt.put2 {w : World} {b : Nat} {t : TK} (h : Bt w b t) (n : Int) : Bt (w.setCell ⟨b, 2, none⟩ (.int .i64 n)) b { t with n := n } := by
  refine ⟨?_, ?_, World.cell?_setCell_same _ _ _ h.c2, ?_, ?_, ?_, ?_, ?_⟩
  all_goals first | (rw [World.cell?_setCell_other _ _ _ _ (by simp)]; first | exact h.c0 | exact h.c1 | exact h.c3) | (rw [World.frozen?_setCell]; first | exact h.f0 | exact h.f1 | exact h.f2 | exact h.f3)
theorem Bt.put3 {w : World} {b : Nat} {t : TK} (h : Bt w b t) (a : Int) : Bt (w.setCell ⟨b, 3, none⟩ (.int .i64 a)) b { t with at_ := a } := by
  refine ⟨?_, ?_, ?_, World.cell?_setCell_same _ _ _ h.c3, ?_, ?_, ?_, ?_⟩
  all_goals first | (rw [World.cell?_setCell_other _ _ _ _ (by simp)]; first | exact h.c0 | exact h.c1 | exact h.c2) | (rw [World.frozen?_setCell]; first | exact h.f0 | exact h.f1 | exact h.f2 | exact h.f3)

/-- A whole token is stored. -/
def setT (w : World) (r : Nat) (t : TK) : World :=
  (((w.setCell ⟨r, 0, none⟩ (.int .i64 t.k)).setCell ⟨r, 1, none⟩ (.string (bs t.x))).setCell ⟨r, 2, none⟩ (.int .i64 t.n)).setCell ⟨r, 3, none⟩ (.int .i64 t.at_)

theorem Bt.set {w : World} {r : Nat} {t0 : TK} (h : Bt w r t0) (t : TK) : Bt (setT w r t) r t := (((h.put0 t.k).put1 t.x).put2 t.n).put3 t.at_

theorem kept_setT (w : World) (r : Nat) (t : TK) : Kept (fun k => k = r) w (setT w r t) :=
  Kept.setCell (p := ⟨r, 3, none⟩) (Kept.setCell (p := ⟨r, 2, none⟩) (Kept.setCell (p := ⟨r, 1, none⟩) (Kept.setCell (S := fun k => k = r) (p := ⟨r, 0, none⟩) (Kept.refl _ w) (fun _ => rfl) _) (fun _ => rfl) _) (fun _ => rfl) _) (fun _ => rfl) _

theorem load_tk {w : World} {r : Nat} {t : TK} (h : Bt w r t) : (loadVar 35 ⟨r, 0, none⟩).run Tryd.prog w = .ok (valT t) w := by
  have hl := run_loadCells_list (P := Tryd.prog) w ⟨r, 0, none⟩ [.int .i64 t.k, .string (bs t.x), .int .i64 t.n, .int .i64 t.at_] (fun j v hj => by
    rw [Addr.add_lit, Nat.zero_add]
    match j, hj with
    | 0, hj => cases hj; exact h.c0
    | 1, hj => cases hj; exact h.c1
    | 2, hj => cases hj; exact h.c2
    | 3, hj => cases hj; exact h.c3
    | j + 4, hj => simp at hj)
  have hs := Tryd.sizeOf35
  have ha := Tryd.isAgg35
  unfold loadVar valT
  simp only [Sem.run_bind, ha, hs, Result.andThen, if_pos]
  simp only [List.length_cons, List.length_nil, Nat.reduceAdd] at hl
  simp [hl]

/-! ### Rows -/

def cellsT1 (t : TK) : List Value := [.int .i64 t.k, .string (bs t.x), .int .i64 t.n, .int .i64 t.at_]
def cellsT (ts : List TK) : List Value := ts.flatMap cellsT1

theorem cellsT_snoc (ts : List TK) (t : TK) : cellsT (ts ++ [t]) = cellsT ts ++ cellsT1 t := by simp [cellsT, List.flatMap_append]

theorem cellsT_len (ts : List TK) : (cellsT ts).length = ts.length * 4 := by
  induction ts with
  | nil => rfl
  | cons t ts ih =>
    rw [cellsT, List.flatMap_cons, List.length_append]
    unfold cellsT at ih
    rw [ih]
    simp [cellsT1]
    omega

theorem cellsT_get : ∀ (ts : List TK) (j : Nat) (h : j < ts.length) (i : Nat) (u : Value), (cellsT1 ts[j])[i]? = some u → (cellsT ts)[j * 4 + i]? = some u
  | [], j, h, _, _, _ => by simp at h
  | t :: ts, 0, _, i, u, hu => by
    rw [cellsT, List.flatMap_cons, Nat.zero_mul, Nat.zero_add]
    have hl : i < (cellsT1 t).length := (List.getElem?_eq_some_iff.1 hu).1
    rw [List.getElem?_append_left hl]
    exact hu
  | t :: ts, j + 1, h, i, u, hu => by
    have ih := cellsT_get ts j (by simpa using h) i u (by simpa using hu)
    rw [cellsT, List.flatMap_cons, List.getElem?_append_right (by simp [cellsT1]; omega)]
    have e : (j + 1) * 4 + i - (cellsT1 t).length = j * 4 + i := by simp [cellsT1]; omega
    rw [e]
    exact ih

/-- Tokens in a row behind an address. -/
abbrev Ts (w : World) (B : Nat) (ao : Option Addr) (ts : List TK) : Prop := Lies w B ao (cellsT ts)

theorem Ts.at {w : World} {B : Nat} {ao : Option Addr} {ts : List TK} (h : Ts w B ao ts) (hn : ts ≠ []) : ∃ b off, ao = some ⟨b, off, none⟩ ∧ b < B ∧ ∀ j (hj : j < ts.length), ceT b (off + j * 4) ts[j] w := by
  obtain ⟨b, off, e, hb, hc⟩ := h (by
    cases ts with
    | nil => exact (hn rfl).elim
    | cons t ts => simp [cellsT, cellsT1])
  refine ⟨b, off, e, hb, fun j hj => ⟨?_, ?_, ?_, ?_⟩⟩
  · exact hc (j * 4) _ (cellsT_get ts j hj 0 _ rfl)
  · rw [Nat.add_assoc]; exact hc (j * 4 + 1) _ (cellsT_get ts j hj 1 _ rfl)
  · rw [Nat.add_assoc]; exact hc (j * 4 + 2) _ (cellsT_get ts j hj 2 _ rfl)
  · rw [Nat.add_assoc]; exact hc (j * 4 + 3) _ (cellsT_get ts j hj 3 _ rfl)

end Go.Proofs.YtofpnlmlenffnaaDoor

/-
  CONTRACTS of the reference of layer 6: small, letter, Is, In, Class, Var, Always.
-/
namespace Go.Proofs.YtofpnlmlenffnaaDoor
open Go.RowKit Go.Mk

theorem rlow_any (c : Int) (w : World) : Calls Tryd.prog 32 #[.int .u8 c] w fun e w' => e = .returned (.bool (lowI c)) ∧ w = w' := by
  unfold lowI
  by_cases h : 97 ≤ c
  · go_enter Tryd.func32, Tryd.ntmps32
    go_wp2
    go_ret
    exact ⟨by simp [h], rfl⟩
  · go_enter Tryd.func32, Tryd.ntmps32
    go_wp2
    go_ret
    exact ⟨by simp; omega, rfl⟩

def ltrI (c : Int) : Bool := lowI c || uppI c

theorem rlet_any (c : Int) (w : World) : Calls Tryd.prog 50 #[.int .u8 c] w fun e w' => e = .returned (.bool (ltrI c)) ∧ w = w' := by
  have hL := rlow_any c
  unfold ltrI uppI
  generalize lowI c = a at *
  have HL := Lib.hid hL; clear hL
  cases a
  · by_cases h : 65 ≤ c
    · go_enter Tryd.func50, Tryd.ntmps50
      go_wp2_with (go_at_call 32; refine (HL.out _).mono ?_; rintro e w1 ⟨rfl, rfl⟩)
      go_ret
      exact ⟨by simp [h], rfl⟩
    · go_enter Tryd.func50, Tryd.ntmps50
      go_wp2_with (go_at_call 32; refine (HL.out _).mono ?_; rintro e w1 ⟨rfl, rfl⟩)
      go_ret
      exact ⟨by simp; omega, rfl⟩
  · go_enter Tryd.func50, Tryd.ntmps50
    go_wp2_with (go_at_call 32; refine (HL.out _).mono ?_; rintro e w1 ⟨rfl, rfl⟩)
    go_ret
    exact ⟨by simp, rfl⟩

/-- The first byte, as the reference asks for it. -/
theorem txt_hd (c : UInt8) (t : List UInt8) : ∀ h : 0 < (bs (c :: t)).size, (((bs (c :: t))[0]'h).toNat : Int) = (c.toNat : Int) := fun _ => rfl

set_option maxHeartbeats 1000000 in
theorem ris_any (l : List UInt8) (w : World) : Calls Tryd.prog 31 #[.string (bs l)] w fun e w' => e = .returned (.bool (isNm l)) ∧ w = w' := by
  cases l with
  | nil =>
    go_enter Tryd.func31, Tryd.ntmps31
    go_wp2
    go_ret
    exact ⟨rfl, rfl⟩
  | cons c t =>
    obtain ⟨h1, h2, h3, h4⟩ := txt_cons c t
    have hd := txt_hd c t
    have h5 : ¬ ((bs (c :: t)).size : Int) < 1 := by omega
    have h5b : decide (((bs (c :: t)).size : Int) < 1) = false := by simp; omega
    clear h4
    by_cases h40 : 40 < (c :: t).length
    · rw [nm_long _ h40]
      rw [← bs_size] at h40
      have h41 : (40 : Int) < ((bs (c :: t)).size : Int) := by omega
      clear h40 hd
      generalize bs (c :: t) = s at *
      go_enter Tryd.func31, Tryd.ntmps31
      go_wp2
      go_ret
      exact ⟨rfl, rfl⟩
    · have h41 : ((bs (c :: t)).size : Int) ≤ 40 := by rw [bs_size]; omega
      have h41b : decide ((40 : Int) < ((bs (c :: t)).size : Int)) = false := by simp; omega
      have e2 : lenIn (c :: t) 40 = true := by simp [lenIn] at *; omega
      have hD := rlet_any c.toNat
      have hnm : isNm (c :: t) = (ltrI c.toNat && (c :: t).all aln) := by
        unfold isNm
        rw [e2, Bool.true_and]
        rfl
      rw [hnm]
      clear e2 hnm h40
      cases hlc : ltrI c.toNat with
      | false =>
        rw [hlc] at hD
        rw [Bool.false_and]
        have HD := Lib.hid hD; clear hD hlc
        generalize bs (c :: t) = s at *
        go_enter Tryd.func31, Tryd.ntmps31
        go_wp2_with (go_at_call 50; refine (HD.out _).mono ?_; rintro e w1 ⟨rfl, rfl⟩)
        go_ret
        exact ⟨rfl, rfl⟩
      | true =>
        rw [hlc] at hD
        rw [Bool.true_and]
        have HD := Lib.hid hD; clear hD hlc
        have hs := bs_size (c :: t)
        have HG := Lib.hid (bs_get (c :: t))
        generalize c :: t = l at *
        go_enter Tryd.func31, Tryd.ntmps31
        go_wp2_with fail
        refine (HD.out _).mono ?_
        rintro e w1 ⟨rfl, rfl⟩
        go_wp2_with fail
        clear hd h1 h2 h3 h5b h41 h41b
        go_loopg [3] l.length (fun k v wr => ∃ j : Nat, k = l.length - j ∧ v = .int .i64 (j : Int) ∧ j ≤ l.length ∧ (l.take j).all aln = true ∧ w = wr)
        case atStart => exact ⟨0, rfl, rfl, Nat.zero_le _, rfl, rfl⟩
        case round =>
          obtain ⟨j, hk, rfl, hj, hev, rfl⟩ := hrel
          have HK := Lib.hid hk; have HEV := Lib.hid hev; clear hk hev
          by_cases hlt : j < l.length
          · have hlt1 : (j : Int) < ((bs l).size : Int) := by omega
            have hgj : ∀ h : j < (bs l).size, (((bs l)[j]'h).toNat : Int) = ((l[j]'hlt).toNat : Int) := fun h => by rw [bs_get l j hlt]
            have htk : (l.take (j + 1)).all aln = aln (l[j]'hlt) := by
              have e : l.take (j + 1) = l.take j ++ [l[j]'hlt] := by rw [List.take_add_one, List.getElem?_eq_getElem hlt]; rfl
              rw [e, List.all_append, HEV.out]
              simp
            have hbad : aln (l[j]'hlt) = false → l.all aln = false := fun h => by
              rw [List.all_eq_false]
              exact ⟨l[j]'hlt, List.getElem_mem _, by rw [h]; simp⟩
            have hL := rlet_any (l[j]'hlt).toNat
            have hal : aln (l[j]'hlt) = (ltrI (l[j]'hlt).toNat || digI (l[j]'hlt).toNat) := rfl
            have HTK := Lib.hid htk; have HBAD := Lib.hid hbad; have HL := Lib.hid hL; have HAL := Lib.hid hal; clear htk hbad hL hal
            generalize aln (l[j]'hlt) = r at *
            generalize ((l[j]'hlt).toNat : Int) = x at *
            cases hlx : ltrI x with
            | true =>
              rw [hlx] at HL HAL
              clear hlx
              go_wp2_with (go_at_call 50; refine (HL.out _).mono ?_; rintro e w1 ⟨rfl, rfl⟩)
              go_roundg (l.length - (j + 1))
              case measure => have := HK.out; omega
              case rel => exact ⟨j + 1, rfl, by go_num, by omega, by rw [HTK.out, HAL.out]; rfl, rfl⟩
            | false =>
              rw [hlx] at HL HAL
              clear hlx
              unfold digI at HAL
              by_cases h48 : 48 ≤ x
              · by_cases h57 : x ≤ 57
                · have hb1 : ¬ x < 48 := by omega
                  have hb2 : ¬ 57 < x := by omega
                  have hb3 : decide (x < 48) = false := by simp; omega
                  have hr : Hid (r = true) := by
                    show r = true
                    rw [HAL.out]; simp [h48, h57]
                  go_wp2_with (go_at_call 50; refine (HL.out _).mono ?_; rintro e w1 ⟨rfl, rfl⟩)
                  go_roundg (l.length - (j + 1))
                  case measure => have := HK.out; omega
                  case rel => exact ⟨j + 1, rfl, by go_num, by omega, by rw [HTK.out, hr.out], rfl⟩
                · have hb1 : ¬ x < 48 := by omega
                  have hb2 : 57 < x := by omega
                  have hb3 : decide (x < 48) = false := by simp; omega
                  have hr : Hid (l.all aln = false) := HBAD.out (by rw [HAL.out]; simp; omega)
                  go_wp2_with (go_at_call 50; refine (HL.out _).mono ?_; rintro e w1 ⟨rfl, rfl⟩)
                  go_ret
                  exact ⟨by rw [hr.out]; rfl, rfl⟩
              · have hb1 : x < 48 := by omega
                have hr : Hid (l.all aln = false) := HBAD.out (by rw [HAL.out]; simp; omega)
                go_wp2_with (go_at_call 50; refine (HL.out _).mono ?_; rintro e w1 ⟨rfl, rfl⟩)
                go_ret
                exact ⟨by rw [hr.out]; rfl, rfl⟩
          · obtain rfl : j = l.length := by omega
            have E := Lib.hid HEV.out
            rw [List.take_length] at E
            go_wp2
            go_ret
            exact ⟨by rw [E.out]; rfl, rfl⟩

end Go.Proofs.YtofpnlmlenffnaaDoor
