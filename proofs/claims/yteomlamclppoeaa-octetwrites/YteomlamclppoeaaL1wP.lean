/-
  OctetWrites returns true for every list of fields, and changes nothing that was there. No condition.
-/
import Derived.Test.YteomlamclppoeaaL1w
import Derived.Test.YteomlamclppoeaaFits
import Derived.ShutString
namespace Go.Proofs.Yteomlamclppoeaa
open Go.ChangeShapes Go.WideShapes Go.ChangeAt Go.RowKit Go.Mk

theorem ownTry : ownKnob Try.prog.godebug = none := by kernel_rfl
theorem laidTry : laidOutB Try.prog = true := by kernel_rfl

def tyField : Ty := .struct (.pair (.int .i64) (.pair (.int .i64) (.pair .str (.pair (.slice .str) .unit))))
def FD.of (y : Int × Int × ByteArray × (Option Addr × Nat × List ByteArray) × Unit) : FD := ⟨y.1, y.2.1, y.2.2.1, y.2.2.2.1.1, y.2.2.2.1.2.1, y.2.2.2.1.2.2⟩

theorem field_cells {w : World} {B : Nat} {cs : List Value} : ∀ {y : tyField.Val} (_ : Fits w B tyField cs y), cs = [.int .i64 (FD.of y).kind, .int .i64 (FD.of y).n, .string (FD.of y).s, .slice (FD.of y).la (FD.of y).ls.length (FD.of y).lc] ∧ Lies w B (FD.of y).la ((FD.of y).ls.map .string) ∧
    (FD.of y).ls.length ≤ maxLen ∧ (FD.of y).s.size ≤ maxLen ∧ ∀ t ∈ (FD.of y).ls, t.size ≤ maxLen
  | (k, n, s, l, ()), h => by
    obtain ⟨_, _, rfl, ⟨rfl, _⟩, _, _, rfl, ⟨rfl, _⟩, _, _, rfl, ⟨rfl, hs⟩, _, _, rfl, hl, h0⟩ := h
    obtain rfl := h0
    obtain ⟨ao, cap, l', rfl, rfl, h2, h3, _, h5, h6⟩ := fits_strs hl
    exact ⟨rfl, h5, Nat.le_trans h2 h3, hs, h6⟩

theorem flds_of {w : World} {B : Nat} {cs : List Value} : ∀ {v : (Ty.slice tyField).Val} (_ : Fits w B (.slice tyField) cs v), ∃ (fa : Option Addr) (fc : Nat) (fs : List FD), cs = [.slice fa fs.length fc] ∧ Flds w B fa fs
  | (fa, fc, (l : List (Int × Int × ByteArray × (Option Addr × Nat × List ByteArray) × Unit))), h => by
    have h5 : l ≠ [] → ∃ b off, fa = some ⟨b, off, none⟩ ∧ b < B ∧ ∀ j (hj : j < l.length), ∃ cs', Fits w B tyField cs' l[j] ∧ ∀ i u, cs'[i]? = some u → w.cell? ⟨b, off + j * 4 + i, none⟩ = some u := h.2.2.2.2
    refine ⟨fa, fc, l.map FD.of, by rw [List.length_map]; exact h.1, ⟨fun hn => ?_, fun f hf => ?_, by rw [List.length_map]; exact Nat.le_trans h.2.1 h.2.2.1, fun f hf => ?_⟩⟩
    · obtain ⟨b, off, e, hb, hc⟩ := h5 (fun e => hn (by rw [e]; rfl))
      refine ⟨b, off, e, hb, fun j hj => ?_⟩
      obtain ⟨cs', hf, hcell⟩ := hc j (by simpa using hj)
      obtain ⟨rfl, _⟩ := field_cells hf
      simp only [List.getElem_map]
      exact ⟨hcell 0 _ rfl, hcell 1 _ rfl, hcell 2 _ rfl, hcell 3 _ rfl⟩
    · obtain ⟨y, hy, rfl⟩ := List.mem_map.1 hf
      obtain ⟨j, hj, rfl⟩ := List.mem_iff_getElem.1 hy
      obtain ⟨b, off, e, hb, hc⟩ := h5 (List.ne_nil_of_length_pos (Nat.lt_of_le_of_lt (Nat.zero_le j) hj))
      obtain ⟨cs', hf', _⟩ := hc j hj
      exact (field_cells hf').2.1
    · obtain ⟨y, hy, rfl⟩ := List.mem_map.1 hf
      obtain ⟨j, hj, rfl⟩ := List.mem_iff_getElem.1 hy
      obtain ⟨b, off, e, hb, hc⟩ := h5 (List.ne_nil_of_length_pos (Nat.lt_of_le_of_lt (Nat.zero_le j) hj))
      obtain ⟨cs', hf', _⟩ := hc j hj
      exact (field_cells hf').2.2

set_option maxHeartbeats 400000 in
set_option maxRecDepth 100000 in
theorem writes_big (fa : Option Addr) (fc : Nat) (fs : List FD) (w : World) (h : Flds w w.heap.size fa fs) (hs : smallB fs = false) :
    Calls Try.prog 3 #[.slice fa fs.length fc] w fun e w' => e = .returned (.bool true) ∧ Below w.heap.size w w' := by
  have H := Lib.hid h; clear h
  go_enter Try.func3, Try.ntmps3
  go_wp2_with fail
  refine (awake_any w).mono ?_
  rintro e w1 ⟨rfl, b1⟩
  have H1 := Lib.hid (H.out.below b1); have B1 := Lib.hid b1; clear b1
  go_wp2_with fail
  refine (small_any fa fc fs w.heap.size w1 H1.out).mono ?_
  rintro e w2 ⟨rfl, rfl⟩
  go_wp2_with fail
  refine (awake_any w1).mono ?_
  rintro e w2 ⟨rfl, b2⟩
  have B2 := Lib.hid b2; clear b2
  go_wp2
  go_ret
  exact ⟨rfl, B1.out.trans (B2.out.mono B1.out.size)⟩

theorem writes_any (fa : Option Addr) (fc : Nat) (fs : List FD) (w : World) (h : Flds w w.heap.size fa fs) :
    Calls Try.prog 3 #[.slice fa fs.length fc] w fun e w' => e = .returned (.bool true) ∧ Below w.heap.size w w' := by
  cases hs : smallB fs with
  | true => exact writes_small fa fc fs w h hs
  | false => exact writes_big fa fc fs w h hs

set_option maxRecDepth 100000 in
theorem writes_lifted (os : Os) (started : os.Started) (H : Type) (enc : TypeId × Value → H) :
    ReturnsInHanded {} Try.checked os 3 .any (Rows.octetWritesSpec.pre6 enc Try.prog Try.f3 Rows.octetWritesRow.domain false) (Rows.octetWritesSpec.post enc Try.prog Try.f3 false true false false) := by
  refine returnsInHanded_of_change (C := Try.checked) ownTry started (by kernel_rfl) Try.func3
    (ChangeSpec.witness6 (enc := enc) (C := Try.checked) false ⟨#[], #[.slice none 0 0], []⟩ 8 (by kernel_rfl) (by kernel_rfl) (by kernel_rfl) (by kernel_rfl)) ?_
  intro W base args ds gs before hval0 hW hcnd _
  have hval : ∀ (j : Nat) t v, Try.f3.params[j]? = some t → args[j]? = some v → Value.okWide Try.prog W .any base t v := hval0
  have hW' := hW
  obtain ⟨p, q, hA0, hV, rfl, hfz, hnd⟩ := hW
  have hA : DataW.TrodAll enc Try.prog W 0 (fun _ => true) true Try.f3.params.toList args.toList ds p := hA0
  rw [Try.params3] at hA hval
  obtain ⟨v0, vs0, d0, ds0, p0, q0, hargs, rfl, rfl, h0, r0⟩ := trodAll_cons hA
  obtain ⟨rfl, rfl, rfl⟩ := trodAll_nil r0
  obtain rfl : args = #[v0] := by cases args; simp_all
  obtain ⟨rfl, rfl⟩ := trodVars_none hV
  obtain ⟨a0, len0, cap0, rfl⟩ := okWide_slice Try.underlying22 (hval 0 22 v0 rfl rfl)
  have k0 := h0
  have lt0 : ∀ x ∈ p0, x.block < W.heap.size := by obtain ⟨m, hm⟩ := k0; exact DataW.trod_lt m _ _ _ hm
  obtain ⟨x0, f0⟩ := fits_arg (.slice tyField) (by kernel_rfl) h0
  obtain ⟨fa, fc, fs, hcs, hfl⟩ := flds_of f0
  simp [Value.cells] at hcs
  obtain ⟨rfl, rfl, rfl⟩ := hcs
  clear hA0 hval0
  refine (writes_any a0 cap0 fs W hfl).mono fun e W' ⟨he, bel⟩ => ?_
  subst he
  exact ⟨_, rfl, _, _, _, [], _, [], hW', trodAll_mk1 (shut_bool Try.underlying4 _), (trodAll_cons_mk (Below.trod laidTry (by kernel_rfl) (of_decide_eq_true (by kernel_rfl)) k0 bel lt0) trodAll_mk0), rfl, bel.frame _, fun h => by cases h⟩

theorem octetWrites_holds : Rows.OctetWritesSaid :=
  OpenClaim.holds_of_wide 3 Try.f3 rfl rfl rfl rfl rfl rfl rfl ⟨rfl, rfl, rfl, rfl, rfl⟩ rfl rfl rfl rfl rfl (by kernel_rfl) Try.func3 (by kernel_rfl)
    (of_decide_eq_true (by kernel_rfl)) (by unfold Func.isWrapper; first | (rw [if_pos (by decide +kernel)]; kernel_rfl) | (rw [if_neg (by decide +kernel)]; exact ⟨rfl, rfl⟩))
    (fun os started H enc _ => writes_lifted os started H enc)

end Go.Proofs.Yteomlamclppoeaa
