/-
  CONTRACTS of package scan: the characters, runs of them, prefixes, a token made of a kind and a text.
-/
import Derived.Test.YtofpnlmlenffnaaDoorGTk12
import Derived.Test.YtofpnlmlenffnaaDoorPzb
import Derived.Test.YtofpnlmlenffnaaDoorGNe
import Derived.Test.YtofpnlmlenffnaaDoorNc
namespace Go.Proofs.YtofpnlmlenffnaaDoor
open Go.RowKit Go.Mk

theorem sdig_any (c : UInt8) (w : World) : Calls Tryd.prog 35 #[.int .u8 (c.toNat : Int)] w fun e w' => e = .returned (.bool (digB c)) ∧ w = w' := by
  unfold digB digI
  generalize (c.toNat : Int) = x
  by_cases h : 48 ≤ x
  · go_enter Tryd.func35, Tryd.ntmps35
    go_wp2
    go_ret
    exact ⟨by simp [h], rfl⟩
  · go_enter Tryd.func35, Tryd.ntmps35
    go_wp2
    go_ret
    exact ⟨by simp; omega, rfl⟩

theorem swrd_any (c : UInt8) (w : World) : Calls Tryd.prog 37 #[.int .u8 (c.toNat : Int)] w fun e w' => e = .returned (.bool (wordB c)) ∧ w = w' := by
  have H := fun w => sdig_any c w
  have hw : wordB c = (digB c || (decide (97 ≤ (c.toNat : Int)) && decide ((c.toNat : Int) ≤ 122)) || (decide (65 ≤ (c.toNat : Int)) && decide ((c.toNat : Int) ≤ 90))) := by
    simp only [wordB, lett, low, upp, lowI, uppI]
    cases digB c <;> simp
  rw [hw]
  clear hw
  generalize digB c = d at *
  generalize (c.toNat : Int) = x at *
  have H := Lib.hid H
  cases d <;> by_cases h1 : 97 ≤ x <;> by_cases h3 : x ≤ 122 <;> by_cases h2 : 65 ≤ x
  all_goals
    go_enter Tryd.func37, Tryd.ntmps37
    go_wp2_with (go_at_call 35; refine (H.out _).mono ?_; rintro e w1 ⟨rfl, rfl⟩)
  all_goals
    go_ret
    refine ⟨?_, rfl⟩
    first
      | (simp [h1, h2, h3]; done)
      | (simp [h1, h2, h3]; omega)

/-- How far a text's bytes fit. -/
theorem srun_any (k : Nat) (f : UInt8 → Bool) (l : List UInt8) (w : World) (hl : l.length ≤ 1000000) (hk : ∀ args w, (callFunc k args).run Tryd.prog w = .ok (.enter k args) w)
    (hf : ∀ (c : UInt8) (w : World), Calls Tryd.prog k #[.int .u8 (c.toNat : Int)] w fun e w' => e = .returned (.bool (f c)) ∧ w = w') :
    Calls Tryd.prog 52 #[.string (bs l), .func (.func k) #[] #[]] w fun e w' => e = .returned (.int .i64 ((l.takeWhile f).length : Int)) ∧ w = w' := by
  have HF := Lib.hid hf; clear hf
  have hs : (bs l).size = l.length := bs_size l
  go_enter Tryd.func52, Tryd.ntmps52
  go_wp2
  go_loopg [5] l.length (fun kk v wr => ∃ j : Nat, kk = l.length - j ∧ v = .int .i64 (j : Int) ∧ j ≤ l.length ∧ j ≤ (l.takeWhile f).length ∧ w = wr)
  case atStart => exact ⟨0, rfl, rfl, Nat.zero_le _, Nat.zero_le _, rfl⟩
  case round =>
    obtain ⟨j, hkk, rfl, hj, hjt, hwr⟩ := hrel
    subst hwr
    have HK := Lib.hid hkk; have HT := Lib.hid hjt; clear hkk hjt
    by_cases hlt : j < l.length
    · have hlt1 : (j : Int) < ((bs l).size : Int) := by omega
      have hgj : ∀ h : j < (bs l).size, (((bs l)[j]'h).toNat : Int) = ((l[j]'hlt).toNat : Int) := fun h => by rw [bs_get l j hlt]
      have HC := HF.out (l[j]'hlt) w
      have HST := Lib.hid (fun h : f (l[j]'hlt) = true => tw_step l j HT.out hlt h)
      have HSP := Lib.hid (fun h : f (l[j]'hlt) = false => tw_stop l j HT.out (fun _ => h))
      have HC := Lib.hid HC
      generalize f (l[j]'hlt) = b at *
      generalize ((l[j]'hlt).toNat : Int) = x at *
      cases b with
      | true =>
        go_wp2_with fail
        refine HC.out.mono ?_
        rintro e w1 ⟨rfl, rfl⟩
        go_wp2
        go_roundg (l.length - (j + 1))
        case measure => have := HK.out; omega
        case rel => exact ⟨j + 1, rfl, by go_num, by omega, HST.out (by first | rfl | trivial), rfl⟩
      | false =>
        go_wp2_with fail
        refine HC.out.mono ?_
        rintro e w1 ⟨rfl, rfl⟩
        go_wp2
        go_ret
        exact ⟨by rw [HSP.out (by first | rfl | trivial)]; rfl, rfl⟩
    · obtain rfl : j = l.length := by omega
      have hlt1 : ¬ (l.length : Int) < ((bs l).size : Int) := by omega
      have HE := Lib.hid (tw_stop l l.length HT.out (fun h => by omega))
      go_wp2
      go_ret
      exact ⟨by rw [HE.out]; rfl, rfl⟩

theorem rund_any (l : List UInt8) (w : World) (hl : l.length ≤ 1000000) : Calls Tryd.prog 52 #[.string (bs l), .func (.func 35) #[] #[]] w fun e w' => e = .returned (.int .i64 (digLen l : Int)) ∧ w = w' :=
  srun_any 35 digB l w hl Tryd.call35 sdig_any

theorem runw_any (l : List UInt8) (w : World) (hl : l.length ≤ 1000000) : Calls Tryd.prog 52 #[.string (bs l), .func (.func 37) #[] #[]] w fun e w' => e = .returned (.int .i64 (wordLen l : Int)) ∧ w = w' :=
  srun_any 37 wordB l w hl Tryd.call37 swrd_any

theorem slpre_any (l p : List UInt8) (w : World) (hl : l.length ≤ 1000000) (hp : p.length ≤ 10) : Calls Tryd.prog 57 #[.string (bs l), .string (bs p)] w fun e w' => e = .returned (.bool (decide (l.take p.length = p))) ∧ w = w' := by
  have hs : (bs l).size = l.length := bs_size l
  have hsp : (bs p).size = p.length := bs_size p
  by_cases h : p.length ≤ l.length
  · have h1 : ((bs p).size : Int) ≤ ((bs l).size : Int) := by omega
    have he : (((bs l).extract 0 p.length).toList == (bs p).toList) = decide (l.take p.length = p) := by
      rw [bs_extract, List.drop_zero, bs_list, bs_list, Bool.eq_iff_iff]
      simp
    generalize decide (l.take p.length = p) = r at *
    go_enter Tryd.func57, Tryd.ntmps57
    go_wp2
    go_ret
    exact ⟨by rw [← he]; rfl, rfl⟩
  · have h1 : ¬ ((bs p).size : Int) ≤ ((bs l).size : Int) := by omega
    have he : decide (l.take p.length = p) = false := by
      rw [decide_eq_false_iff_not]
      intro e
      have := congrArg List.length e
      rw [List.length_take] at this
      omega
    rw [he]
    go_enter Tryd.func57, Tryd.ntmps57
    go_wp2
    go_ret
    exact ⟨rfl, rfl⟩

theorem spre_any (l p : List UInt8) (w : World) (hl : l.length ≤ 1000000) (hp : p.length ≤ 10) : Calls Tryd.prog 41 #[.string (bs l), .string (bs p)] w fun e w' => e = .returned (.bool (decide (l.take p.length = p))) ∧ w = w' := by
  have H := Lib.hid (fun w => slpre_any l p w hl hp)
  generalize decide (l.take p.length = p) = r at *
  go_enter Tryd.func41, Tryd.ntmps41
  go_wp2_with (go_at_call 57; refine (H.out _).mono ?_; rintro e w1 ⟨rfl, rfl⟩)
  go_ret
  exact ⟨rfl, rfl⟩

/-- A result's box, which the call made first. -/
structure Rb12 (w : World) (t : TK) (wx : World) : Prop where
  box : Bt wx w.heap.size t
  k : Kept (fun _ => False) w wx

theorem Rb12.keep {w : World} {t : TK} {A B : World} (h : Rb12 w t A) (hk : Kept (fun _ => False) A B) : Rb12 w t B := ⟨h.box.kept hk (fun h => h), h.k.trans hk (fun _ _ h => h)⟩

theorem rb12_new (w : World) : Rb12 w zeroT (w.alloc (.cells #[.int .i64 0, .string ⟨#[]⟩, .int .i64 0, .int .i64 0] 35)) :=
  ⟨bt_new w zeroT 35, (Kept.refl (fun _ => False) w).alloc _⟩

theorem Rb12.fin {w : World} {t : TK} {A : World} (h : Rb12 w t A) (u : TK) : Kept (fun _ => False) w (setT A w.heap.size u) :=
  h.k.trans (kept_setT A w.heap.size u) (fun i hi e => by omega)

set_option maxHeartbeats 2000000 in
set_option maxRecDepth 100000 in
theorem stoken_any (k : Int) (l : List UInt8) (w : World) (hl : l.length ≤ 1000000) :
    Calls Tryd.prog 42 #[.int .i64 k, .string (bs l)] w fun e w' => e = .returned (valT ⟨k, l, 0, 0⟩) ∧ Kept (fun _ => False) w w' := by
  have B0 := Lib.hid (rb12_new w)
  have HC := Lib.hid (fun wx => sclone_any l wx (by omega))
  go_enter Tryd.func42, Tryd.ntmps42
  go_wp2_with fail
  refine (HC.out _).mono ?_
  rintro e w1 ⟨rfl, k1⟩
  have B1 := Lib.hid (B0.out.keep k1)
  obtain ⟨c0, c1, c2, c3, f0, f1, f2, f3⟩ := B1.out.box
  clear k1 B0
  go_wp2
  refine bodyPost_ret (results_box rfl rfl (load_tk (B1.out.box.set ⟨k, l, 0, 0⟩))) rfl ?_
  exact ⟨rfl, B1.out.fin ⟨k, l, 0, 0⟩⟩

end Go.Proofs.YtofpnlmlenffnaaDoor
