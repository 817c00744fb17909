/-
  CONTRACTS of package scan: walk where a loop takes its tokens; Stream's function.
-/
import Derived.Test.YtofpnlmlenffnaaDoorDi12
import Derived.Test.YtofpnlmlenffnaaDoorTgx
import Derived.Test.YtofpnlmlenffnaaDoorPz8
import Derived.OwnWalkIn
import Derived.TacticsInMore
import Derived.RegionIn
import Derived.LoopIn
namespace Go.Mk
open Go.RowKit

/-- In the widest fence the depth does not matter. -/
theorem yield_any {P : Program} {l : Nat} {args : Array Value} {W : World} {R : Ending → World → Prop} {n m : Nat} (h : YieldAt Fence.wide n P l args W R) : YieldAt Fence.wide m P l args W R := by
  obtain ⟨fn, tmps, assign, body, h1, h2, h3⟩ := h
  exact ⟨fn, tmps, assign, body, h1, h2, fun c cs _ => h3 c cs (room_wide _)⟩

theorem yield_mono {P : Program} {l : Nat} {args : Array Value} {W : World} {R R' : Ending → World → Prop} {n : Nat} (h : YieldAt Fence.wide n P l args W R) (hr : ∀ e w, R e w → R' e w) : YieldAt Fence.wide n P l args W R' := by
  obtain ⟨fn, tmps, assign, body, h1, h2⟩ := h
  exact ⟨fn, tmps, assign, body, h1, h2.mono hr⟩

theorem drop_stop {l : List UInt8} {a n : Nat} (h : GapR (l.drop a) n) : ∀ c r, l.drop (a + n) = c :: r → blankB c = false ∧ (c = 34 → (r.takeWhile (· != 34)).length = r.length) := by
  have := h.stops
  rw [List.drop_drop] at this
  exact this

end Go.Mk
namespace Go.Proofs.YtofpnlmlenffnaaDoor
open Go.RowKit Go.Mk

/-- How a token is handed on. -/
def encT12 (x : TK) : Array Value := #[valT x]

set_option maxRecDepth 100000 in
set_option maxHeartbeats 4000000 in
theorem walk_in (n lv : Nat) (l : List UInt8) (hl : l.length ≤ 4000) (J Jx : List TK → World → Prop) (hJ : ∀ pre A B, J pre A → Kept (fun _ => False) A B → J pre B)
    (hY : ∀ pre x W1, J pre W1 → pre.length < (streamL l).length → YieldAt Fence.wide (n - 1) Tryd.prog lv (encT12 x) W1 fun e W' => (e = .returned (.bool true) ∧ J (pre ++ [x]) W') ∨ (e = .returned (.bool false) ∧ Jx (pre ++ [x]) W'))
    (W : World) (h0 : J [] W) (hn : 1 ≤ n) :
    CallsIn Fence.wide n Tryd.prog 16 #[.string (bs l), .func (.yield lv) #[] #[]] W fun e W' => (∃ v, e = .returned v) ∧
      ((∃ xs, xs = streamL l ∧ J xs W') ∨ (∃ pre, pre <+: streamL l ∧ Jx pre W')) := by
  have hro : Fence.wide.round = none := rfl
  have hs : (bs l).size = l.length := bs_size l
  have h4 : ¬ (4000 : Int) < ((bs l).size : Int) := by omega
  have HJ := Lib.hid hJ; have HY := Lib.hid hY; have H0 := Lib.hid h0
  have HG0 := Lib.hid (fun wx => sgap_any l wx (by omega))
  have HS := Lib.hid (show preAt [] 0 l = streamL l by simp [preAt, streamL])
  generalize streamL l = S at *
  clear hJ hY h0
  refine callsIn_of_wp Tryd.func16 rfl trivial ?_ hro
  simp only [Tryd.ntmps16, List.size_toArray, List.length_cons, List.length_nil, Nat.reduceAdd, Nat.reduceSub, Array.replicate_succ, Array.replicate_zero, List.push_toArray, List.append_toArray, List.nil_append, List.cons_append]
  gi_wp2_with fail
  refine ⟨trivial, (callsIn_wide.2 (HG0.out _)).mono ?_⟩
  rintro e w1 ⟨⟨g0, rfl, hg0⟩, rfl⟩
  have HG := Lib.hid hg0
  have hgl := hg0.le
  clear hg0
  gi_wp2
  gi_loopw [6] (fun i wr => ∃ (p : Nat) (out : List TK), p ≤ l.length ∧ i = .int .i64 (p : Int) ∧ Hid (preAt out p (l.drop p) = S) ∧ Hid (∀ c r, l.drop p = c :: r → blankB c = false ∧ (c = 34 → (r.takeWhile (· != 34)).length = r.length)) ∧ Hid (J out wr))
    (fun i _ => l.length - (intOf i).toNat)
  case atStart =>
    refine ⟨g0, [], hgl, rfl, Lib.hid ?_, Lib.hid HG.out.stops, H0⟩
    have h1 := HG.out.pre [] 0
    rw [Nat.zero_add] at h1
    rw [← h1]
    exact HS.out
  case round =>
    obtain ⟨p, out, hp, rfl, hpre, hstop, hJs⟩ := hrel
    by_cases hlt : p < l.length
    · have hlt1 : (p : Int) < ((bs l).size : Int) := by omega
      have HF := Lib.hid (fun wx => sfirst_any (l.drop p) wx (by rw [List.length_drop]; omega) (by rw [List.length_drop]; omega))
      have hx1 : (bs l).extract p l.length = bs (l.drop p) := by rw [bs_extract, List.take_length]
      have HDC := Lib.hid (drop_cons l p hlt)
      have HNO := Lib.hid (show tokL (l.drop p) = none → S = out from fun h => by
        rw [HDC.out] at h
        have hs := hstop.out _ _ HDC.out
        have h1 := (preAt_no out p hs.1 hs.2 h).1
        rw [← HDC.out, hpre.out] at h1
        exact h1)
      have HTK := Lib.hid (show ∀ k x m j, tokL (l.drop p) = some (k, x, m, j) → 1 ≤ j ∧ p + j ≤ l.length ∧ preAt (out ++ [⟨k, x, m, (p : Int)⟩]) (p + j) (l.drop (p + j)) = S from fun k x m j h => by
        have hj := tok_len h
        rw [List.length_drop] at hj
        have h9 := h
        rw [HDC.out] at h9
        have hs := hstop.out _ _ HDC.out
        have h34 : l[p]'hlt ≠ 34 := fun e => by
          rw [e, tok_34] at h9
          cases h9
        have h1 := preAt_tok out p hs.1 h34 h9
        rw [← HDC.out, List.drop_drop, hpre.out] at h1
        exact ⟨hj.1, by omega, h1.symm⟩)
      obtain ⟨s0, hs0⟩ : ∃ s0, l.drop p = s0 := ⟨_, rfl⟩
      rw [hs0] at HF hx1
      rw [hs0] at HNO HTK
      clear hs0
      gi_wp2_with fail
      refine ⟨trivial, (callsIn_wide.2 (HF.out _)).mono ?_⟩
      rintro e w2 hFs
      obtain ⟨t, m, rfl, k2, hr⟩ := fsp_out hFs
      have J2 := Lib.hid (HJ.out _ _ _ hJs.out k2)
      rcases hr with ⟨hr, rfl⟩ | ⟨k, x, n', j, hr, rfl, rfl⟩
      · have HE := Lib.hid (HNO.out hr)
        have J3 := Lib.hid (HJ.out _ _ _ J2.out ((Kept.refl (fun _ => False) w2).alloc (.cells #[.int .i64 t.k, .string (bs t.x), .int .i64 t.n, .int .i64 t.at_] 35)))
        clear hFs hr k2
        unfold valT
        gi_wp2
        go_ret2
        exact ⟨⟨_, rfl⟩, .inl ⟨out, HE.out.symm, J3.out⟩⟩
      · obtain ⟨hj1, hj2, hpr⟩ := HTK.out k x n' j hr
        have HPR := Lib.hid hpr
        obtain ⟨w4, hw4⟩ : ∃ w4, w2.alloc (.cells #[.int .i64 k, .string (bs x), .int .i64 n', .int .i64 (p : Int)] 35) = w4 := ⟨_, rfl⟩
        have k4 : Kept (fun _ => False) w2 w4 := by rw [← hw4]; exact (Kept.refl _ w2).alloc _
        have J4 := HJ.out _ _ _ J2.out k4
        have hb := bt_new w2 ⟨k, x, n', (p : Int)⟩ 35
        dsimp only at hb
        rw [hw4] at hb
        obtain ⟨q0, q1, q2, q3, f0, f1, f2, f3⟩ := hb
        dsimp only at q0 q1 q2 q3
        have hN : out.length < S.length := by
          have := preAt_len (out ++ [⟨k, x, n', (p : Int)⟩]) (p + j) (l.drop (p + j))
          rw [HPR.out, List.length_append, List.length_singleton] at this
          omega
        have hY := yield_any (m := n - 1) (HY.out out ⟨k, x, n', (p : Int)⟩ _ J4 hN)
        obtain ⟨fn, tmps, assign, body, hy, hR⟩ := hY
        unfold encT12 valT at hy
        dsimp only at hy
        have HR := Lib.hid hR
        have hj0 : (((j : Nat) : Int) == 0) = false := by
          rw [beq_eq_false_iff_ne]
          omega
        obtain ⟨E, hE⟩ : ∃ E, p + j = E := ⟨_, rfl⟩
        have hEi : (p : Int) + (j : Int) = (E : Int) := by omega
        rw [hE] at hj2 HPR
        have HG1 := Lib.hid (fun wx => sgap_any (l.drop E) wx (by rw [List.length_drop]; omega))
        have hx2 : (bs l).extract E l.length = bs (l.drop E) := by rw [bs_extract, List.take_length]
        have HEp := Lib.hid (show p < E by omega)
        obtain ⟨s1, hs1⟩ : ∃ s1, l.drop E = s1 := ⟨_, rfl⟩
        have HS1 := Lib.hid hs1
        rw [hs1] at HG1 hx2
        clear hFs hr k2 hR J4 k4 hpr hN hE hs1
        unfold valT
        gi_wp2_with fail
        clear hw4
        refine HR.out.mono ?_
        rintro e W3 (⟨rfl, hJ3⟩ | ⟨rfl, hJx3⟩)
        · have J5 := Lib.hid hJ3; clear hJ3
          gi_wp2_with fail
          refine ⟨trivial, (callsIn_wide.2 (HG1.out _)).mono ?_⟩
          rintro e w5 ⟨⟨g1, rfl, hg1⟩, rfl⟩
          have HGG := Lib.hid hg1
          have hgl1 := hg1.le
          rw [← HS1.out, List.length_drop] at hgl1
          have hsum : E + g1 ≤ l.length := by omega
          clear hg1
          gi_wp2
          go_roundw
          case rel =>
            refine ⟨E + g1, out ++ [⟨k, x, n', (p : Int)⟩], hsum, by go_num, Lib.hid ?_, Lib.hid ?_, J5⟩
            · have h1 := HGG.out
              rw [← HS1.out] at h1
              have h2 := h1.pre (out ++ [⟨k, x, n', (p : Int)⟩]) E
              rw [List.drop_drop] at h2
              rw [← h2]
              exact HPR.out
            · have h1 := HGG.out
              rw [← HS1.out] at h1
              exact drop_stop h1
          case measure => have := HEp.out; simp [intOf]; omega
        · have J5 := Lib.hid hJx3; clear hJx3
          gi_wp2
          go_ret2
          exact ⟨⟨_, rfl⟩, .inr ⟨_, ⟨_, HPR.out⟩, J5.out⟩⟩
    · obtain rfl : p = l.length := by omega
      have hlt1 : ¬ (l.length : Int) < ((bs l).size : Int) := by omega
      have HS2 := Lib.hid (show S = out ++ [⟨0, [], 0, (l.length : Int)⟩] from by
        rw [← hpre.out, List.drop_length, preAt_nil])
      obtain ⟨fn, tmps, assign, body, hy, hR⟩ := yield_any (m := n - 1) (HY.out out ⟨0, [], 0, (l.length : Int)⟩ wr hJs.out (by rw [HS2.out, List.length_append, List.length_singleton]; omega))
      unfold encT12 valT at hy
      dsimp only at hy
      have hb0 : bs [] = ⟨#[]⟩ := rfl
      rw [hb0] at hy
      have HR := Lib.hid hR
      clear hR hb0
      gi_wp2_with fail
      refine HR.out.mono ?_
      rintro e W3 (⟨rfl, hJ3⟩ | ⟨rfl, hJx3⟩)
      · have J5 := Lib.hid hJ3; clear hJ3
        gi_wp2
        go_ret2
        exact ⟨⟨_, rfl⟩, .inl ⟨_, HS2.out.symm, J5.out⟩⟩
      · have J5 := Lib.hid hJx3; clear hJx3
        gi_wp2
        go_ret2
        exact ⟨⟨_, rfl⟩, .inr ⟨_, ⟨[], by rw [List.append_nil]; exact HS2.out.symm⟩, J5.out⟩⟩

set_option maxRecDepth 100000 in
set_option maxHeartbeats 2000000 in
theorem stream1_seq (n : Nat) (hn : 2 ≤ n) (l : List UInt8) (hl : l.length ≤ 4000) (b : Nat) (Kp : World → World → Prop) (w0 : World) (hc : w0.cell? ⟨b, 0, none⟩ = some (.string (bs l))) :
    SeqG n Tryd.prog 19 #[.pointer (some ⟨b, 0, none⟩)] encT12 (fun _ _ => True) Kp (fun xs => xs = streamL l) (fun pre => pre <+: streamL l) (streamL l).length w0 := by
  intro lv J Jx W hW hJ hY h0
  have hro : Fence.wide.round = none := rfl
  have c0 : W.cell? ⟨b, 0, none⟩ = some (.string (bs l)) := (hW.cell (p := ⟨b, 0, none⟩) (World.block_lt_of_cell? _ _ hc)).trans hc
  have HWK := Lib.hid (walk_in (n - 1) lv l hl J Jx hJ (fun pre x W1 h1 h2 => yield_mono (yield_any (hY pre x W1 h1 trivial h2)) (fun e w h => by
    rcases h with ⟨h3, h4, _⟩ | h3
    · exact .inl ⟨h3, h4⟩
    · exact .inr h3)) W h0 (by omega))
  clear hY hJ h0 hW
  refine callsIn_of_wp Tryd.func19 rfl trivial ?_ hro
  simp only [Tryd.ntmps19, List.size_toArray, List.length_cons, List.length_nil, Nat.reduceAdd, Nat.reduceSub, Array.replicate_succ, Array.replicate_zero, List.push_toArray, List.append_toArray, List.nil_append, List.cons_append]
  gi_wp2_with fail
  refine ⟨trivial, fun _ => by omega, HWK.out.mono ?_⟩
  rintro e w1 ⟨⟨v, rfl⟩, hr⟩
  have HR := Lib.hid hr
  clear hr
  gi_wp2
  go_end0
  exact ⟨⟨_, rfl⟩, HR.out⟩

set_option maxHeartbeats 1000000 in
theorem dstream12_any (l : List UInt8) (w : World) (hl : l.length ≤ 4000) :
    Calls Tryd.prog 12 #[.string (bs l)] w fun e w' => ∃ lb, e = .returned (.func (.func 19) #[] lb) ∧ Kept (fun _ => False) w w' ∧
      ∀ (n : Nat) (T : Nat → Prop) (w0 : World), 2 ≤ n → Kept (fun _ => False) w' w0 → (∀ k, T k → k < w0.heap.size + 2) → (∀ k, w.heap.size ≤ k → k < w'.heap.size → ¬ T k) →
        SeqG n Tryd.prog 19 lb encT12 (fun _ _ => True) (Kept T) (fun xs => xs = streamL l) (fun pre => pre <+: streamL l) (streamL l).length w0 := by
  have HC := Lib.hid (fun wx => sclone_any l wx (by omega))
  have HS := Lib.hid (fun n hn b Kp w0 hc => stream1_seq n hn l hl b Kp w0 hc)
  generalize streamL l = S at *
  go_enter Tryd.func12, Tryd.ntmps12
  go_wp2_with fail
  refine (HC.out _).mono ?_
  rintro e w1 ⟨rfl, k1⟩
  have K1 := Lib.hid k1; clear k1
  go_wp2
  go_ret
  have hc := World.cell?_alloc_new w1 #[.string (bs l)] 9 0
  exact ⟨_, rfl, K1.out.trans ((Kept.refl (fun _ => False) w1).alloc _) (fun _ _ h => h), fun n T w0 hn hk _ _ => HS.out n hn w1.heap.size _ w0 ((hk.cell (p := ⟨w1.heap.size, 0, none⟩) (World.block_lt_of_cell? _ _ hc) (fun h => h)).trans hc)⟩

end Go.Proofs.YtofpnlmlenffnaaDoor
