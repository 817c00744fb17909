/-
  HOW AN ARGUMENT LIES IN MEMORY, for every type that is made of integers, bools, strings, slices and structs: one theorem takes the row's reading of an argument to it. Over no program.
-/
import Derived.Test.YtofpnlmlenffnaaDoorMk
import Derived.ProofKit
import Derived.OpenShut
import Derived.ChangeOld
import Derived.Deep.Slices
namespace Go.Mk
open Go.RowKit Go.ChangeShapes Go.WideShapes

/-- Types: a struct is 'struct (pair a (pair b .. unit))'. -/
inductive Ty where
  | int (k : IntKind)
  | bool
  | str
  | slice (e : Ty)
  | struct (fs : Ty)
  | unit
  | pair (a r : Ty)

def Ty.Val : Ty → Type
  | .int _ => Int
  | .bool => Bool
  | .str => ByteArray
  | .slice e => Option Addr × Nat × List e.Val
  | .struct fs => fs.Val
  | .unit => Unit
  | .pair a r => a.Val × r.Val

def Ty.size : Ty → Nat
  | .struct fs => fs.size
  | .unit => 0
  | .pair a r => a.size + r.size
  | _ => 1

def Ty.chk (P : Program) : Ty → TypeId ⊕ (List Field × Nat) → Bool
  | .int k, .inl t => match P.underlying t with | some (.int k') => k' == k | _ => false
  | .bool, .inl t => match P.underlying t with | some .bool => true | _ => false
  | .str, .inl t => match P.underlying t with | some .string => true | _ => false
  | .slice e, .inl t => match P.underlying t with | some (.slice te) => P.cellsOf te == e.size && decide (0 < e.size) && e.chk P (.inl te) | _ => false
  | .struct fs, .inl t => match P.underlying t with | some (.struct fl) => P.cellsOf t == fs.size && fs.chk P (.inr (fl.toList, 0)) | _ => false
  | .unit, .inr (fl, _) => fl.isEmpty
  | .pair a r, .inr (fl, off) => match fl with | f :: fl' => f.offset == off && P.cellsOf f.type == a.size && a.chk P (.inl f.type) && r.chk P (.inr (fl', off + a.size)) | [] => false
  | _, _ => false

/-- The cells cs hold v; what they lead to lies below block B. -/
def Fits (w : World) (B : Nat) : (t : Ty) → List Value → t.Val → Prop
  | .int k, cs, n => cs = [.int k n] ∧ (Lit.int k n).wf = true
  | .bool, cs, b => cs = [.bool b]
  | .str, cs, s => cs = [.string s] ∧ s.size ≤ maxLen
  | .slice e, cs, v => cs = [.slice v.1 v.2.2.length v.2.1] ∧ v.2.2.length ≤ v.2.1 ∧ v.2.1 ≤ maxLen ∧ (v.1 = none → v.2.1 = 0) ∧
      (v.2.2 ≠ [] → ∃ b off, v.1 = some ⟨b, off, none⟩ ∧ b < B ∧ ∀ j (h : j < v.2.2.length), ∃ cs', Fits w B e cs' v.2.2[j] ∧ ∀ i u, cs'[i]? = some u → w.cell? ⟨b, off + j * e.size + i, none⟩ = some u)
  | .struct fs, cs, v => Fits w B fs cs v
  | .unit, cs, _ => cs = []
  | .pair a r, cs, v => ∃ c1 c2, cs = c1 ++ c2 ∧ Fits w B a c1 v.1 ∧ Fits w B r c2 v.2

theorem Fits.below {w w' : World} {B : Nat} (hb : Below B w w') : ∀ (t : Ty) (cs : List Value) (v : t.Val), Fits w B t cs v → Fits w' B t cs v
  | .int _, _, _, h => h
  | .bool, _, _, h => h
  | .str, _, _, h => h
  | .slice e, _, v, ⟨h1, h2, h3, h4, h5⟩ => ⟨h1, h2, h3, h4, fun hn => by
      obtain ⟨b, off, e1, hl, hc⟩ := h5 hn
      refine ⟨b, off, e1, hl, fun j hj => ?_⟩
      obtain ⟨cs', hf, hcell⟩ := hc j hj
      exact ⟨cs', Fits.below hb e cs' _ hf, fun i u hu => (hb.cell (p := ⟨b, _, none⟩) hl).trans (hcell i u hu)⟩⟩
  | .struct fs, cs, v, h => Fits.below hb fs cs v h
  | .unit, _, _, h => h
  | .pair a r, _, v, ⟨c1, c2, e, h1, h2⟩ => ⟨c1, c2, e, Fits.below hb a c1 v.1 h1, Fits.below hb r c2 v.2 h2⟩

section
variable {H : Type} {enc : TypeId × Value → H} {P : Program} {w : World} {spare : Nat → Bool} {held : Bool}

/-- What a reading of a type, or of a list of fields from an offset on, comes to. -/
def Read (enc : TypeId × Value → H) (P : Program) (w : World) (spare : Nat → Bool) (held : Bool) : TypeId ⊕ (List Field × Nat) → List Value → Prop
  | .inl t, cs => ∃ fuel x, DataW.trod enc P w 0 spare held fuel t cs = some x
  | .inr (fl, off), cs => ∃ n, ∀ f ∈ fl, off ≤ f.offset ∧ ∃ x, DataW.trod enc P w 0 spare held n f.type ((cs.drop (f.offset - off)).take (P.cellsOf f.type)) = some x

theorem chk_off {P : Program} : ∀ (t : Ty) (fl : List Field) (off : Nat), t.chk P (.inr (fl, off)) = true → ∀ f ∈ fl, off ≤ f.offset
  | .pair a r, f :: fl, off, h, g, hg => by
    simp only [Ty.chk, Bool.and_eq_true, beq_iff_eq] at h
    rcases List.mem_cons.1 hg with rfl | hg
    · omega
    · have := chk_off r fl _ h.2 g hg
      omega
  | .pair a r, [], _, h, _, hg => by cases hg
  | .unit, fl, _, h, f, hf => by simp [Ty.chk] at h; subst h; cases hf
  | .int _, _, _, h, _, _ => by simp [Ty.chk] at h
  | .bool, _, _, h, _, _ => by simp [Ty.chk] at h
  | .str, _, _, h, _, _ => by simp [Ty.chk] at h
  | .slice _, _, _, h, _, _ => by simp [Ty.chk] at h
  | .struct _, _, _, h, _, _ => by simp [Ty.chk] at h

theorem fits_of : ∀ (t : Ty) (x : TypeId ⊕ (List Field × Nat)) (cs : List Value), t.chk P x = true → Read enc P w spare held x cs → (∀ fl off, x = .inr (fl, off) → cs.length = t.size) → ∃ v, Fits w w.heap.size t cs v := by
  intro t
  induction t with
  | int k =>
    rintro (t | ⟨fl, off⟩) cs hc hr hl
    · simp only [Ty.chk] at hc
      obtain ⟨fuel, y, hy⟩ := hr
      split at hc
      · rename_i k' hk
        simp only [beq_iff_eq] at hc
        subst hc
        obtain ⟨n, e, _, hw⟩ := DataW.trod_int hk hy
        exact ⟨n, e, hw⟩
      · cases hc
    · simp [Ty.chk] at hc
  | bool =>
    rintro (t | ⟨fl, off⟩) cs hc hr hl
    · simp only [Ty.chk] at hc
      obtain ⟨fuel, y, hy⟩ := hr
      split at hc
      · rename_i hk
        obtain ⟨b, e, _⟩ := DataW.trod_bool hk hy
        exact ⟨b, e⟩
      · cases hc
    · simp [Ty.chk] at hc
  | str =>
    rintro (t | ⟨fl, off⟩) cs hc hr hl
    · simp only [Ty.chk] at hc
      obtain ⟨fuel, y, hy⟩ := hr
      split at hc
      · rename_i hk
        obtain ⟨s, e, _, hs⟩ := DataW.trod_string hk hy
        exact ⟨s, e, hs⟩
      · cases hc
    · simp [Ty.chk] at hc
  | slice e ih =>
    rintro (t | ⟨fl, off⟩) cs hc hr hl
    · simp only [Ty.chk] at hc
      obtain ⟨fuel, y, hy⟩ := hr
      split at hc
      · rename_i te hk
        simp only [Bool.and_eq_true, beq_iff_eq, decide_eq_true_eq] at hc
        obtain ⟨⟨hce, hpos⟩, hch⟩ := hc
        rcases DataW.trod_slice hk hy with ⟨rfl, _⟩ | ⟨a, len, cap, elems, rest, n, _, rfl, _, hb, hle, hm, hlen, hel, _⟩
        · exact ⟨(none, 0, []), rfl, Nat.zero_le _, Nat.zero_le _, fun _ => rfl, fun h => (h rfl).elim⟩
        · have each : ∀ i, i < len → ∃ v : e.Val, ∃ cs', Fits w w.heap.size e cs' v ∧ cs'.length = e.size ∧ ∀ j u, cs'[j]? = some u → w.cell? (a.add (i * e.size + j)) = some u := by
            intro i hi
            have h1 := hel i hi
            rw [hce] at h1
            obtain ⟨x1, hx1⟩ : ∃ x1, elems[i]? = some x1 := ⟨elems[i], List.getElem?_eq_getElem (by omega)⟩
            rw [hx1] at h1
            obtain ⟨cs', hcs, htr⟩ := Option.bind_eq_some_iff.1 h1
            obtain ⟨v, hv⟩ := ih (.inl te) cs' hch ⟨n, x1, htr⟩ (fun _ _ h => by cases h)
            obtain ⟨-, hl', hcell⟩ := World.cells?_some hcs
            refine ⟨v, cs', hv, hl', fun j u hu => ?_⟩
            have hj : j < e.size := by rw [← hl']; exact (List.getElem?_eq_some_iff.1 hu).1
            have := hcell j hj
            rw [Deep.add_add] at this
            rw [this]; exact hu
          obtain ⟨vs, hvs⟩ : ∃ vs : List e.Val, vs.length = len ∧ ∀ i (h : i < vs.length), ∃ cs', Fits w w.heap.size e cs' vs[i] ∧ cs'.length = e.size ∧ ∀ j u, cs'[j]? = some u → w.cell? (a.add (i * e.size + j)) = some u := by
            refine ⟨(List.finRange len).map fun i => Classical.choose (each i.1 i.2), by simp, fun i h => ?_⟩
            have hi : i < len := by simpa using h
            have := Classical.choose_spec (each i hi)
            simpa using this
          obtain ⟨rfl, hvs⟩ := hvs
          refine ⟨(some a, cap, vs), rfl, hle, hm, fun h => (by cases h), fun hn => ?_⟩
          have h0 : 0 < vs.length := List.length_pos_iff.2 hn
          obtain ⟨cs', hf, hl', hcell⟩ := hvs 0 h0
          obtain ⟨u, hu⟩ : ∃ u, cs'[0]? = some u := ⟨cs'[0], List.getElem?_eq_getElem (by omega)⟩
          have h00 := hcell 0 u hu
          have hspot : a.spot = none := by
            rw [show 0 * e.size + 0 = 0 by omega] at h00
            simpa [Addr.add] using World.cell?_spot h00
          obtain ⟨b, off, spot⟩ := a
          simp only at hspot
          subst hspot
          refine ⟨b, off, rfl, ?_, fun j hj => ?_⟩
          · have := World.block_lt_of_cell? _ _ h00
            simpa [Addr.add] using this
          · obtain ⟨cs2, hf2, _, hc2⟩ := hvs j hj
            refine ⟨cs2, hf2, fun i u hu => ?_⟩
            have := hc2 i u hu
            rw [Addr.add_lit] at this
            rw [Nat.add_assoc]
            exact this
      · cases hc
    · simp [Ty.chk] at hc
  | struct fs ih =>
    rintro (t | ⟨fl, off⟩) cs hc hr hl
    · simp only [Ty.chk] at hc
      obtain ⟨fuel, y, hy⟩ := hr
      split at hc
      · rename_i fl hk
        simp only [Bool.and_eq_true, beq_iff_eq] at hc
        obtain ⟨hcs, hch⟩ := hc
        obtain ⟨xs, n, _, _, hlen, hxl, hel⟩ := DataW.trod_struct hk hy
        obtain ⟨v, hv⟩ := ih (.inr (fl.toList, 0)) cs hch ⟨n, fun f hf => by
          obtain ⟨i, hi, rfl⟩ := List.mem_iff_getElem.1 hf
          have hi' : i < fl.size := by simpa using hi
          have h1 := hel i fl[i] (Array.getElem?_eq_getElem hi')
          refine ⟨Nat.zero_le _, xs[i], ?_⟩
          rw [Nat.sub_zero]
          simp only [Array.getElem_toList]
          rw [h1]
          exact List.getElem?_eq_getElem (by omega)⟩ (fun _ _ _ => by rw [hlen, hcs])
        exact ⟨v, hv⟩
      · cases hc
    · simp [Ty.chk] at hc
  | unit =>
    rintro (t | ⟨fl, off⟩) cs hc hr hl
    · simp [Ty.chk] at hc
    · exact ⟨(), List.eq_nil_of_length_eq_zero (hl _ _ rfl)⟩
  | pair a r iha ihr =>
    rintro (t | ⟨fl, off⟩) cs hc hr hl
    · simp [Ty.chk] at hc
    · match fl, hc, hr, hl with
      | [], hc, _, _ => simp [Ty.chk] at hc
      | f :: fl, hc, hr, hl =>
        simp only [Ty.chk, Bool.and_eq_true, beq_iff_eq] at hc
        obtain ⟨⟨⟨ho, hsz⟩, hca⟩, hcr⟩ := hc
        obtain ⟨n, hr⟩ := hr
        have hlen := hl _ _ rfl
        simp only [Ty.size] at hlen
        obtain ⟨_, x, hx⟩ := hr f List.mem_cons_self
        rw [ho, Nat.sub_self, List.drop_zero, hsz] at hx
        obtain ⟨va, hva⟩ := iha (.inl f.type) (cs.take a.size) hca ⟨n, x, hx⟩ (fun _ _ h => by cases h)
        obtain ⟨vr, hvr⟩ := ihr (.inr (fl, off + a.size)) (cs.drop a.size) hcr ⟨n, fun g hg => by
          have h1 := chk_off r fl _ hcr g hg
          obtain ⟨_, x, hx⟩ := hr g (List.mem_cons_of_mem _ hg)
          refine ⟨h1, x, ?_⟩
          rw [List.drop_drop, show a.size + (g.offset - (off + a.size)) = g.offset - off by omega]
          exact hx⟩ (fun _ _ _ => by rw [List.length_drop]; omega)
        exact ⟨(va, vr), cs.take a.size, cs.drop a.size, (List.take_append_drop _ _).symm, hva, hvr⟩

/-- FROM THE ROW's READING OF AN ARGUMENT. -/
theorem fits_arg {t : TypeId} {v : Value} {d : DataW H} {ps : List MemPlace} (ty : Ty) (hc : ty.chk P (.inl t) = true) (h : DataW.Trod enc P w 0 spare held t v d ps) : ∃ x, Fits w w.heap.size ty v.cells.toList x := by
  obtain ⟨fuel, hf⟩ := h
  exact fits_of ty (.inl t) _ hc ⟨fuel, _, hf⟩ (fun _ _ h => by cases h)

end

theorem lies_plain {α : Type} {w : World} {B : Nat} (f : α → Value) (ok : α → Prop) (ao : Option Addr) (l : List α)
    (h5 : l ≠ [] → ∃ b off, ao = some ⟨b, off, none⟩ ∧ b < B ∧ ∀ j (h : j < l.length), ∃ cs', (cs' = [f l[j]] ∧ ok l[j]) ∧ ∀ i u, cs'[i]? = some u → w.cell? ⟨b, off + j * 1 + i, none⟩ = some u) : Lies w B ao (l.map f) ∧ ∀ t ∈ l, ok t := by
  refine ⟨fun hn => ?_, fun t ht => ?_⟩
  · obtain ⟨b, off, e, hb, hc⟩ := h5 (fun e => hn (by rw [e]; rfl))
    refine ⟨b, off, e, hb, fun j u hu => ?_⟩
    rw [List.getElem?_map, Option.map_eq_some_iff] at hu
    obtain ⟨s, hs, rfl⟩ := hu
    obtain ⟨hj, rfl⟩ := List.getElem?_eq_some_iff.1 hs
    obtain ⟨cs', ⟨rfl, _⟩, hcell⟩ := hc j hj
    have := hcell 0 _ rfl
    rwa [Nat.mul_one, Nat.add_zero] at this
  · obtain ⟨j, hj, rfl⟩ := List.mem_iff_getElem.1 ht
    obtain ⟨b, off, e, hb, hc⟩ := h5 (List.ne_nil_of_length_pos (Nat.lt_of_le_of_lt (Nat.zero_le j) hj))
    obtain ⟨cs', ⟨_, hs⟩, _⟩ := hc j hj
    exact hs

theorem fits_strs {w : World} {B : Nat} {cs : List Value} : ∀ {v : (Ty.slice .str).Val} (_ : Fits w B (.slice .str) cs v),
    ∃ (ao : Option Addr) (cap : Nat) (l : List ByteArray), v = (ao, cap, l) ∧ cs = [.slice ao l.length cap] ∧ l.length ≤ cap ∧ cap ≤ maxLen ∧ (ao = none → cap = 0) ∧ Lies w B ao (l.map .string) ∧ ∀ t ∈ l, t.size ≤ maxLen
  | (ao, cap, l), h => ⟨ao, cap, l, rfl, h.1, h.2.1, h.2.2.1, h.2.2.2.1, lies_plain (α := ByteArray) .string (·.size ≤ maxLen) ao l h.2.2.2.2⟩

theorem fits_ints {w : World} {B : Nat} {k : IntKind} {cs : List Value} : ∀ {v : (Ty.slice (.int k)).Val} (_ : Fits w B (.slice (.int k)) cs v),
    ∃ (ao : Option Addr) (cap : Nat) (l : List Int), v = (ao, cap, l) ∧ cs = [.slice ao l.length cap] ∧ l.length ≤ cap ∧ cap ≤ maxLen ∧ (ao = none → cap = 0) ∧ Lies w B ao (l.map (.int k)) ∧ ∀ n ∈ l, (Lit.int k n).wf = true
  | (ao, cap, l), h => ⟨ao, cap, l, rfl, h.1, h.2.1, h.2.2.1, h.2.2.2.1, lies_plain (α := Int) (.int k) (fun n => (Lit.int k n).wf = true) ao l h.2.2.2.2⟩

/-- A []byte that came in. -/
theorem fits_bytes {w : World} {B : Nat} {cs : List Value} {v : (Ty.slice (.int .u8)).Val} (h : Fits w B (.slice (.int .u8)) cs v) :
    ∃ (ao : Option Addr) (cap : Nat) (l : List UInt8), cs = [.slice ao l.length cap] ∧ l.length ≤ cap ∧ cap ≤ maxLen ∧ (ao = none → cap = 0) ∧ Lies w B ao (l.map bv) := by
  obtain ⟨ao, cap, zs, -, h1, h2, h3, h4, h5, h6⟩ := fits_ints h
  have e : (zs.map (fun n => UInt8.ofNat n.toNat)).map bv = zs.map (.int .u8) := by
    rw [List.map_map]
    refine List.map_congr_left fun n hn => ?_
    have hw := bounds_u8 (h6 n hn)
    simp [bv]
    omega
  refine ⟨ao, cap, zs.map (fun n => UInt8.ofNat n.toNat), by rw [List.length_map]; exact h1, by rw [List.length_map]; exact h2, h3, h4, ?_⟩
  rw [e]
  exact h5

end Go.Mk
