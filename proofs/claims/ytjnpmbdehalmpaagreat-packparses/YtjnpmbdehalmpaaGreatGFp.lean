/-
  Lemmas towards the claim of this folder: contracts of the functions that the law reaches; joined texts.
-/
import Derived.Test.YtjnpmbdehalmpaaGreatGSr
import Derived.Test.YtjnpmbdehalmpaaGreatGRs
import Derived.Test.YtjnpmbdehalmpaaGreatNa
import Derived.Test.YtjnpmbdehalmpaaGreatGNb
/-
  What fields write: plain facts.
-/
namespace Go.Proofs.YtjnpmbdehalmpaaGreat
open Go.RowKit Go.Mk

def WS.enc (s : WS) (l : List UInt8) : WS := if s.err ≠ 0 then s else ⟨s.out ++ l, 0⟩
theorem WS.num_enc (s : WS) (n : Nat) (h : n ≤ 2147483647) : s.num n = s.enc (bigB 4 n) := by
  by_cases he : s.err = 0
  · rw [WS.num_ok s n he h]; simp [WS.enc, he]
  · rw [WS.num_err s _ he]; simp [WS.enc, he]
theorem WS.int_enc (s : WS) (n : Int) : s.int n = s.enc (bigB 8 (asU64 n)) := rfl
theorem WS.text_enc (s : WS) (t : List UInt8) (h : t.length ≤ 2147483647) : s.text t = s.enc (encT t) := by
  unfold WS.text
  rw [WS.num_enc s _ h]
  by_cases he : s.err = 0 <;> simp [WS.enc, he, encT]
theorem WS.texts_enc (s : WS) (l : List (List UInt8)) (h : l.length ≤ 2147483647) (ht : ∀ t ∈ l, t.length ≤ 2147483647) : s.texts l = s.enc (encL l) := by
  have : ∀ (l : List (List UInt8)), (∀ t ∈ l, t.length ≤ 2147483647) → ∀ (s : WS), l.foldl WS.text s = s.enc (l.map encT).flatten := by
    intro l
    induction l with
    | nil => intro _ s; by_cases he : s.err = 0 <;> simp [WS.enc, he]; cases s; simp_all
    | cons t l ih =>
      intro ht s
      rw [List.foldl_cons, ih (fun t h => ht t (List.mem_cons_of_mem _ h)), WS.text_enc s t (ht t List.mem_cons_self)]
      by_cases he : s.err = 0 <;> simp [WS.enc, he]
  unfold WS.texts
  rw [this l ht, WS.num_enc s _ h]
  by_cases he : s.err = 0 <;> simp [WS.enc, he, encL]

theorem small_parts {f : FD} (h : f.small = true) : f.s.size ≤ 200 ∧ f.ls.length ≤ 20 ∧ ∀ t ∈ f.ls, t.size ≤ 100 := by
  simp [FD.small] at h
  exact ⟨h.1, h.2.1, h.2.2⟩

theorem enc_len (s : WS) (l : List UInt8) : (s.enc l).out.length ≤ s.out.length + l.length := by
  unfold WS.enc
  split
  · omega
  · simp

theorem enc_fin (s : WS) (l : List UInt8) (h : s.err = 0 ∨ s.err = 2) : (((s.enc l).err = 0 ∧ (s.enc l).out = s.out ++ l) ∨ ((s.enc l).err = 2 ∧ (s.enc l).out = s.out)) ∧ ((s.enc l).err == 0) = (s.err == 0) := by
  rcases h with h | h <;> simp [WS.enc, h]

theorem sum_le (l : List ByteArray) (h : ∀ t ∈ l, t.size ≤ 100) : sumL (strL l) ≤ 104 * l.length := by
  induction l with
  | nil => simp [sumL, strL]
  | cons t l ih =>
    have h1 := ih (fun t ht => h t (List.mem_cons_of_mem _ ht))
    have h2 := h t List.mem_cons_self
    have h3 : t.data.toList.length = t.size := rfl
    simp only [sumL, strL, List.map_cons, List.sum_cons, List.length_cons] at *
    omega

/-- What one field writes. -/
def FD.step (f : FD) (s : WS) : WS := if f.kind = 0 then s.num f.n else if f.kind = 1 then s.int f.n else if f.kind = 2 then s.text f.s.data.toList else s.texts (strL f.ls)


/-- What one field is written as, and when it can be. -/
def FD.encF (f : FD) : List UInt8 := if f.kind = 0 then bigB 4 f.n.toNat else if f.kind = 1 then bigB 8 (asU64 f.n) else if f.kind = 2 then encT f.s.data.toList else encL (strL f.ls)
def FD.good (f : FD) : Prop := f.kind = 0 → 0 ≤ f.n ∧ f.n ≤ 2147483647

theorem step_good (s : WS) (f : FD) (hs : f.small = true) (hg : f.good) : f.step s = s.enc f.encF := by
  obtain ⟨g1, g2, g3⟩ := small_parts hs
  unfold FD.step FD.encF
  by_cases k0 : f.kind = 0
  · obtain ⟨h1, h2⟩ := hg k0
    obtain ⟨m, hm⟩ := Int.eq_ofNat_of_zero_le h1
    rw [if_pos k0, if_pos k0, hm, Int.toNat_natCast]
    exact WS.num_enc s m (by omega)
  · rw [if_neg k0, if_neg k0]
    by_cases k1 : f.kind = 1
    · rw [if_pos k1, if_pos k1, WS.int_enc]
    · rw [if_neg k1, if_neg k1]
      by_cases k2 : f.kind = 2
      · rw [if_pos k2, if_pos k2]
        exact WS.text_enc s _ (show f.s.size ≤ _ by omega)
      · rw [if_neg k2, if_neg k2]
        refine WS.texts_enc s _ (by simp [strL]; omega) (fun t ht => ?_)
        obtain ⟨x, hx, rfl⟩ := List.mem_map.1 ht
        have := g3 x hx
        show x.size ≤ _
        omega

theorem step_bad (s : WS) (f : FD) (hg : ¬ f.good) : f.step s = if s.err ≠ 0 then s else ⟨s.out, 2⟩ := by
  unfold FD.good at hg
  have k0 : f.kind = 0 := Classical.byContradiction fun h => hg (fun h' => absurd h' h)
  have hn : f.n < 0 ∨ 2147483647 < f.n := by
    have : ¬ (0 ≤ f.n ∧ f.n ≤ 2147483647) := fun h => hg (fun _ => h)
    omega
  simp [FD.step, k0, WS.num, hn]

theorem encF_len (f : FD) (hs : f.small = true) : f.encF.length ≤ 10000 := by
  obtain ⟨g1, g2, g3⟩ := small_parts hs
  have g4 := sum_le f.ls g3
  have e1 : f.s.data.toList.length = f.s.size := rfl
  unfold FD.encF
  split
  · rw [bigB_length]; omega
  · split
    · rw [bigB_length]; omega
    · split
      · rw [encT_len]; omega
      · rw [encL_len]; omega

def bk (fs : List FD) : WS := fs.foldl (fun s f => f.step s) ⟨[], 0⟩

theorem bk_all (fs : List FD) (hs : ∀ f ∈ fs, f.small = true) : ((bk fs).err = 0 ∧ (bk fs).out = (fs.map FD.encF).flatten ∧ ∀ f ∈ fs, f.good) ∨ (bk fs).err = 2 := by
  have two : ∀ (fs : List FD), (∀ f ∈ fs, f.small = true) → ∀ s : WS, s.err = 2 → (fs.foldl (fun s f => f.step s) s).err = 2 := by
    intro fs
    induction fs with
    | nil => intro _ s h; exact h
    | cons f fs ih =>
      intro hs s h
      refine ih (fun g hg => hs g (List.mem_cons_of_mem _ hg)) _ ?_
      show (f.step s).err = 2
      by_cases hg : f.good
      · rw [step_good s f (hs f List.mem_cons_self) hg]; simp [WS.enc, h]
      · rw [step_bad s f hg]; simp [h]
  have all : ∀ (fs : List FD), (∀ f ∈ fs, f.small = true) → ∀ s : WS, s.err = 0 →
      (((fs.foldl (fun s f => f.step s) s).err = 0 ∧ (fs.foldl (fun s f => f.step s) s).out = s.out ++ (fs.map FD.encF).flatten ∧ ∀ f ∈ fs, f.good) ∨ (fs.foldl (fun s f => f.step s) s).err = 2) := by
    intro fs
    induction fs with
    | nil => intro _ s h; left; simp [h]
    | cons f fs ih =>
      intro hs s h
      have hs' := fun g hg => hs g (List.mem_cons_of_mem _ hg)
      by_cases hg : f.good
      · have e := step_good s f (hs f List.mem_cons_self) hg
        have e2 : s.enc f.encF = ⟨s.out ++ f.encF, 0⟩ := by simp [WS.enc, h]
        rw [List.foldl_cons, e, e2]
        rcases ih hs' ⟨s.out ++ f.encF, 0⟩ rfl with ⟨h1, h2, h3⟩ | h1
        · left
          refine ⟨h1, by rw [h2]; simp, fun g hg' => ?_⟩
          rcases List.mem_cons.1 hg' with rfl | hg'
          · exact hg
          · exact h3 g hg'
        · exact .inr h1
      · right
        have e := step_bad s f hg
        rw [List.foldl_cons, e]
        exact two fs hs' _ (by simp [h])
  simpa [bk] using all fs hs ⟨[], 0⟩ rfl

theorem bk_len (fs : List FD) (hs : ∀ f ∈ fs, f.small = true) : (bk fs).out.length ≤ 10000 * fs.length := by
  have : ∀ (fs : List FD), (∀ f ∈ fs, f.small = true) → ∀ s : WS, (fs.foldl (fun s f => f.step s) s).out.length ≤ s.out.length + 10000 * fs.length := by
    intro fs
    induction fs with
    | nil => intro _ s; simp
    | cons f fs ih =>
      intro hs s
      have h1 := ih (fun g hg => hs g (List.mem_cons_of_mem _ hg)) (f.step s)
      have h2 := encF_len f (hs f List.mem_cons_self)
      have h3 : (f.step s).out.length ≤ s.out.length + 10000 := by
        by_cases hg : f.good
        · rw [step_good s f (hs f List.mem_cons_self) hg]
          have := enc_len s f.encF
          omega
        · rw [step_bad s f hg]; split <;> simp
      simp only [List.foldl_cons, List.length_cons]
      omega
  simpa [bk] using this fs hs ⟨[], 0⟩

theorem bk_snoc (fs : List FD) (j : Nat) (h : j < fs.length) : bk (fs.take (j + 1)) = fs[j].step (bk (fs.take j)) := by
  have e : fs.take (j + 1) = fs.take j ++ [fs[j]] := by rw [List.take_add_one, List.getElem?_eq_getElem h]; rfl
  rw [e]
  unfold bk
  rw [List.foldl_append]
  rfl

/-- What a field is read as, where it stands at the head. -/
theorem read_field (f : FD) (t : List UInt8) (hs : f.small = true) (hg : f.good) (hr : -9223372036854775808 ≤ f.n ∧ f.n ≤ 9223372036854775807) :
    (f.kind = 0 → (⟨f.encF ++ t, 0⟩ : RS).num = (⟨t, 0⟩, f.n)) ∧ (f.kind = 1 → (⟨f.encF ++ t, 0⟩ : RS).int = (⟨t, 0⟩, f.n)) ∧
    (f.kind = 2 → (⟨f.encF ++ t, 0⟩ : RS).text = (⟨t, 0⟩, f.s.data.toList)) ∧ (f.kind ≠ 0 → f.kind ≠ 1 → f.kind ≠ 2 → (⟨f.encF ++ t, 0⟩ : RS).texts = (⟨t, 0⟩, strL f.ls)) := by
  obtain ⟨g1, g2, g3⟩ := small_parts hs
  refine ⟨fun k => ?_, fun k => ?_, fun k => ?_, fun k0 k1 k2 => ?_⟩
  · obtain ⟨h1, h2⟩ := hg k
    obtain ⟨m, hm⟩ := Int.eq_ofNat_of_zero_le h1
    have e : f.encF = bigB 4 m := by unfold FD.encF; rw [if_pos k, hm, Int.toNat_natCast]
    rw [e, hm]
    exact read_num m t (by omega)
  · have e : f.encF = bigB 8 (asU64 f.n) := by unfold FD.encF; rw [if_neg (by omega), if_pos k]
    rw [e]
    exact read_int f.n t hr.1 hr.2
  · have e : f.encF = encT f.s.data.toList := by unfold FD.encF; rw [if_neg (by omega), if_neg (by omega), if_pos k]
    rw [e]
    exact read_text _ t (show f.s.size ≤ _ by omega)
  · have e : f.encF = encL (strL f.ls) := by unfold FD.encF; rw [if_neg k0, if_neg k1, if_neg k2]
    rw [e]
    refine read_texts _ t (by simp [strL]; omega) (fun x hx => ?_)
    obtain ⟨y, hy, rfl⟩ := List.mem_map.1 hx
    have := g3 y hy
    show y.size ≤ _
    omega

end Go.Proofs.YtjnpmbdehalmpaaGreat

/-
  CONTRACTS of the reference of layer 6: small, letter, Is, In, Class, Var, Always.
-/
namespace Go.Proofs.YtjnpmbdehalmpaaGreat
open Go.RowKit Go.Mk

theorem rlow_any (c : Int) (w : World) : Calls Tryz.prog 61 #[.int .u8 c] w fun e w' => e = .returned (.bool (lowI c)) ∧ w = w' := by
  unfold lowI
  by_cases h : 97 ≤ c
  · go_enter Tryz.func61, Tryz.ntmps61
    go_wp2
    go_ret
    exact ⟨by simp [h], rfl⟩
  · go_enter Tryz.func61, Tryz.ntmps61
    go_wp2
    go_ret
    exact ⟨by simp; omega, rfl⟩

def ltrI (c : Int) : Bool := lowI c || uppI c

theorem rlet_any (c : Int) (w : World) : Calls Tryz.prog 93 #[.int .u8 c] w fun e w' => e = .returned (.bool (ltrI c)) ∧ w = w' := by
  have hL := rlow_any c
  unfold ltrI uppI
  generalize lowI c = a at *
  have HL := Lib.hid hL; clear hL
  cases a
  · by_cases h : 65 ≤ c
    · go_enter Tryz.func93, Tryz.ntmps93
      go_wp2_with (go_at_call 61; refine (HL.out _).mono ?_; rintro e w1 ⟨rfl, rfl⟩)
      go_ret
      exact ⟨by simp [h], rfl⟩
    · go_enter Tryz.func93, Tryz.ntmps93
      go_wp2_with (go_at_call 61; refine (HL.out _).mono ?_; rintro e w1 ⟨rfl, rfl⟩)
      go_ret
      exact ⟨by simp; omega, rfl⟩
  · go_enter Tryz.func93, Tryz.ntmps93
    go_wp2_with (go_at_call 61; refine (HL.out _).mono ?_; rintro e w1 ⟨rfl, rfl⟩)
    go_ret
    exact ⟨by simp, rfl⟩

/-- The first byte, as the reference asks for it. -/
theorem txt_hd (c : UInt8) (t : List UInt8) : ∀ h : 0 < (bs (c :: t)).size, (((bs (c :: t))[0]'h).toNat : Int) = (c.toNat : Int) := fun _ => rfl

set_option maxHeartbeats 1000000 in
theorem ris_any (l : List UInt8) (w : World) : Calls Tryz.prog 60 #[.string (bs l)] w fun e w' => e = .returned (.bool (isNm l)) ∧ w = w' := by
  cases l with
  | nil =>
    go_enter Tryz.func60, Tryz.ntmps60
    go_wp2
    go_ret
    exact ⟨rfl, rfl⟩
  | cons c t =>
    obtain ⟨h1, h2, h3, h4⟩ := txt_cons c t
    have hd := txt_hd c t
    have h5 : ¬ ((bs (c :: t)).size : Int) < 1 := by omega
    have h5b : decide (((bs (c :: t)).size : Int) < 1) = false := by simp; omega
    clear h4
    by_cases h40 : 40 < (c :: t).length
    · rw [nm_long _ h40]
      rw [← bs_size] at h40
      have h41 : (40 : Int) < ((bs (c :: t)).size : Int) := by omega
      clear h40 hd
      generalize bs (c :: t) = s at *
      go_enter Tryz.func60, Tryz.ntmps60
      go_wp2
      go_ret
      exact ⟨rfl, rfl⟩
    · have h41 : ((bs (c :: t)).size : Int) ≤ 40 := by rw [bs_size]; omega
      have h41b : decide ((40 : Int) < ((bs (c :: t)).size : Int)) = false := by simp; omega
      have e2 : lenIn (c :: t) 40 = true := by simp [lenIn] at *; omega
      have hD := rlet_any c.toNat
      have hnm : isNm (c :: t) = (ltrI c.toNat && (c :: t).all aln) := by
        unfold isNm
        rw [e2, Bool.true_and]
        rfl
      rw [hnm]
      clear e2 hnm h40
      cases hlc : ltrI c.toNat with
      | false =>
        rw [hlc] at hD
        rw [Bool.false_and]
        have HD := Lib.hid hD; clear hD hlc
        generalize bs (c :: t) = s at *
        go_enter Tryz.func60, Tryz.ntmps60
        go_wp2_with (go_at_call 93; refine (HD.out _).mono ?_; rintro e w1 ⟨rfl, rfl⟩)
        go_ret
        exact ⟨rfl, rfl⟩
      | true =>
        rw [hlc] at hD
        rw [Bool.true_and]
        have HD := Lib.hid hD; clear hD hlc
        have hs := bs_size (c :: t)
        have HG := Lib.hid (bs_get (c :: t))
        generalize c :: t = l at *
        go_enter Tryz.func60, Tryz.ntmps60
        go_wp2_with fail
        refine (HD.out _).mono ?_
        rintro e w1 ⟨rfl, rfl⟩
        go_wp2_with fail
        clear hd h1 h2 h3 h5b h41 h41b
        go_loopg [3] l.length (fun k v wr => ∃ j : Nat, k = l.length - j ∧ v = .int .i64 (j : Int) ∧ j ≤ l.length ∧ (l.take j).all aln = true ∧ w = wr)
        case atStart => exact ⟨0, rfl, rfl, Nat.zero_le _, rfl, rfl⟩
        case round =>
          obtain ⟨j, hk, rfl, hj, hev, rfl⟩ := hrel
          have HK := Lib.hid hk; have HEV := Lib.hid hev; clear hk hev
          by_cases hlt : j < l.length
          · have hlt1 : (j : Int) < ((bs l).size : Int) := by omega
            have hgj : ∀ h : j < (bs l).size, (((bs l)[j]'h).toNat : Int) = ((l[j]'hlt).toNat : Int) := fun h => by rw [bs_get l j hlt]
            have htk : (l.take (j + 1)).all aln = aln (l[j]'hlt) := by
              have e : l.take (j + 1) = l.take j ++ [l[j]'hlt] := by rw [List.take_add_one, List.getElem?_eq_getElem hlt]; rfl
              rw [e, List.all_append, HEV.out]
              simp
            have hbad : aln (l[j]'hlt) = false → l.all aln = false := fun h => by
              rw [List.all_eq_false]
              exact ⟨l[j]'hlt, List.getElem_mem _, by rw [h]; simp⟩
            have hL := rlet_any (l[j]'hlt).toNat
            have hal : aln (l[j]'hlt) = (ltrI (l[j]'hlt).toNat || digI (l[j]'hlt).toNat) := rfl
            have HTK := Lib.hid htk; have HBAD := Lib.hid hbad; have HL := Lib.hid hL; have HAL := Lib.hid hal; clear htk hbad hL hal
            generalize aln (l[j]'hlt) = r at *
            generalize ((l[j]'hlt).toNat : Int) = x at *
            cases hlx : ltrI x with
            | true =>
              rw [hlx] at HL HAL
              clear hlx
              go_wp2_with (go_at_call 93; refine (HL.out _).mono ?_; rintro e w1 ⟨rfl, rfl⟩)
              go_roundg (l.length - (j + 1))
              case measure => have := HK.out; omega
              case rel => exact ⟨j + 1, rfl, by go_num, by omega, by rw [HTK.out, HAL.out]; rfl, rfl⟩
            | false =>
              rw [hlx] at HL HAL
              clear hlx
              unfold digI at HAL
              by_cases h48 : 48 ≤ x
              · by_cases h57 : x ≤ 57
                · have hb1 : ¬ x < 48 := by omega
                  have hb2 : ¬ 57 < x := by omega
                  have hb3 : decide (x < 48) = false := by simp; omega
                  have hr : Hid (r = true) := by
                    show r = true
                    rw [HAL.out]; simp [h48, h57]
                  go_wp2_with (go_at_call 93; refine (HL.out _).mono ?_; rintro e w1 ⟨rfl, rfl⟩)
                  go_roundg (l.length - (j + 1))
                  case measure => have := HK.out; omega
                  case rel => exact ⟨j + 1, rfl, by go_num, by omega, by rw [HTK.out, hr.out], rfl⟩
                · have hb1 : ¬ x < 48 := by omega
                  have hb2 : 57 < x := by omega
                  have hb3 : decide (x < 48) = false := by simp; omega
                  have hr : Hid (l.all aln = false) := HBAD.out (by rw [HAL.out]; simp; omega)
                  go_wp2_with (go_at_call 93; refine (HL.out _).mono ?_; rintro e w1 ⟨rfl, rfl⟩)
                  go_ret
                  exact ⟨by rw [hr.out]; rfl, rfl⟩
              · have hb1 : x < 48 := by omega
                have hr : Hid (l.all aln = false) := HBAD.out (by rw [HAL.out]; simp; omega)
                go_wp2_with (go_at_call 93; refine (HL.out _).mono ?_; rintro e w1 ⟨rfl, rfl⟩)
                go_ret
                exact ⟨by rw [hr.out]; rfl, rfl⟩
          · obtain rfl : j = l.length := by omega
            have E := Lib.hid HEV.out
            rw [List.take_length] at E
            go_wp2
            go_ret
            exact ⟨by rw [E.out]; rfl, rfl⟩

end Go.Proofs.YtjnpmbdehalmpaaGreat

/-
  CONTRACTS of the reference of layer 6: In, Class, Var, Always.
-/
namespace Go.Proofs.YtjnpmbdehalmpaaGreat
open Go.RowKit Go.Mk

set_option maxHeartbeats 400000 in
theorem rin_any (aa : Option Addr) (ca : Nat) (la : List (List UInt8)) (l : List UInt8) (B : Nat) (w : World) (hA : Lies w B aa (strs la)) (hl : la.length ≤ 1099511627776) :
    Calls Tryz.prog 63 #[.slice aa la.length ca, .string (bs l)] w fun e w' => e = .returned (.bool (la.contains l)) ∧ w = w' := by
  have HA := Lib.hid hA; clear hA
  go_enter Tryz.func63, Tryz.ntmps63
  go_wp2
  go_loopg [5] la.length (fun k v wr => ∃ j : Nat, k = la.length - j ∧ v = .int .i64 (j : Int) ∧ j ≤ la.length ∧ (la.take j).contains l = false ∧ w = wr)
  case atStart => exact ⟨0, rfl, rfl, Nat.zero_le _, rfl, rfl⟩
  case round =>
    obtain ⟨j, hk, rfl, hj, hev, rfl⟩ := hrel
    have HK := Lib.hid hk; have HEV := Lib.hid hev; clear hk hev
    by_cases hlt : j < la.length
    · obtain ⟨xb, xo, rfl, hxb, hc⟩ := HA.out (by intro h; simp [strs] at h; rw [h] at hlt; simp at hlt)
      have hx : w.cell? ⟨xb, xo + j, none⟩ = some (.string (bs la[j])) := hc j _ (by simp [strs, hlt])
      clear hc
      have i1 : (j : Int) < (la.length : Int) := by omega
      have b1 := bs_list la[j]
      have b2 := bs_list l
      have htk : (la.take (j + 1)).contains l = (la[j] == l) := by
        have e : la.take (j + 1) = la.take j ++ [la[j]] := by rw [List.take_add_one, List.getElem?_eq_getElem hlt]; rfl
        have h := HEV.out
        rw [e, List.contains_eq_any_beq, List.any_append, ← List.contains_eq_any_beq, h]
        simp [Bool.beq_comm]
      have hyes : (la[j] == l) = true → la.contains l = true := fun h => by
        rw [List.contains_iff_mem]
        have := List.getElem_mem hlt
        rwa [eq_of_beq h] at this
      have HTK := Lib.hid htk; have HY := Lib.hid hyes; clear htk hyes
      generalize la[j] = x at *
      cases hxy : x == l with
      | true =>
        have E := Lib.hid (HY.out hxy)
        go_wp2
        go_ret
        exact ⟨by rw [E.out]; rfl, rfl⟩
      | false =>
        rw [hxy] at HTK
        go_wp2
        go_roundg (la.length - (j + 1))
        case measure => have := HK.out; omega
        case rel => exact ⟨j + 1, rfl, by go_num, by omega, HTK.out, rfl⟩
    · obtain rfl : j = la.length := by omega
      have E := Lib.hid HEV.out
      rw [List.take_length] at E
      go_wp2
      go_ret
      exact ⟨by rw [E.out]; rfl, rfl⟩

theorem nm_upp {c : UInt8} {t : List UInt8} (h : isNm (c :: t) = true) : uppI c.toNat = !lowI c.toNat := by
  simp only [isNm, Bool.and_eq_true] at h
  have h2 := h.1.2
  have h3 : (lowI c.toNat || uppI c.toNat) = true := h2
  have h4 : ¬ (lowI c.toNat = true ∧ uppI c.toNat = true) := by
    simp [lowI, uppI]
    omega
  cases hl : lowI c.toNat with
  | false => rw [hl] at h3; simpa using h3
  | true =>
    cases hu : uppI c.toNat with
    | false => rfl
    | true => exact (h4 ⟨hl, hu⟩).elim

set_option maxHeartbeats 400000 in
theorem rcl_any (l : List UInt8) (w : World) : Calls Tryz.prog 21 #[.string (bs l)] w fun e w' => e = .returned (.bool (isCl l)) ∧ w = w' := by
  have hI := ris_any l w
  unfold isCl
  cases hn : isNm l with
  | false =>
    rw [hn] at hI
    have HI := Lib.hid hI; clear hI hn
    go_enter Tryz.func21, Tryz.ntmps21
    go_wp2_with fail
    refine HI.out.mono ?_
    rintro e w1 ⟨rfl, rfl⟩
    go_wp2
    go_ret
    exact ⟨rfl, rfl⟩
  | true =>
    cases l with
    | nil => cases hn
    | cons c t =>
      rw [hn] at hI
      obtain ⟨h1, h2, h3, _⟩ := txt_cons c t
      have hd := txt_hd c t
      have hL := rlow_any c.toNat
      show Calls _ _ _ _ (fun e w' => e = .returned (.bool (true && uppI c.toNat)) ∧ _)
      rw [Bool.true_and, nm_upp hn]
      generalize lowI c.toNat = r at *
      have HI := Lib.hid hI; have HL := Lib.hid hL; clear hI hL hn
      generalize bs (c :: t) = s at *
      go_enter Tryz.func21, Tryz.ntmps21
      go_wp2_with fail
      refine HI.out.mono ?_
      rintro e w1 ⟨rfl, rfl⟩
      go_wp2_with fail
      refine (HL.out _).mono ?_
      rintro e w2 ⟨rfl, rfl⟩
      go_wp2
      go_ret
      exact ⟨rfl, rfl⟩

set_option maxHeartbeats 400000 in
theorem rvar_any (l : List UInt8) (w : World) : Calls Tryz.prog 62 #[.string (bs l)] w fun e w' => e = .returned (.bool (isVa l)) ∧ Kept (fun _ => False) w w' := by
  have hI := ris_any l w
  unfold isVa isUn
  cases hn : isNm l with
  | false =>
    rw [hn] at hI
    have HI := Lib.hid hI; clear hI hn
    go_enter Tryz.func62, Tryz.ntmps62
    go_wp2_with fail
    refine HI.out.mono ?_
    rintro e w1 ⟨rfl, rfl⟩
    go_wp2
    go_ret
    exact ⟨rfl, Kept.refl _ _⟩
  | true =>
    cases l with
    | nil => cases hn
    | cons c t =>
      rw [hn] at hI
      obtain ⟨h1, h2, h3, _⟩ := txt_cons c t
      have hd := txt_hd c t
      have hL := rlow_any c.toNat
      show Calls _ _ _ _ (fun e w' => e = .returned (.bool (true && lowI c.toNat && !resv.contains (c :: t))) ∧ _)
      rw [Bool.true_and]
      cases hlow : lowI c.toNat with
      | false =>
        rw [hlow] at hL
        have HI := Lib.hid hI; have HL := Lib.hid hL; clear hI hL hn
        generalize bs (c :: t) = s at *
        go_enter Tryz.func62, Tryz.ntmps62
        go_wp2_with fail
        refine HI.out.mono ?_
        rintro e w1 ⟨rfl, rfl⟩
        go_wp2_with fail
        refine (HL.out _).mono ?_
        rintro e w2 ⟨rfl, rfl⟩
        go_wp2
        go_ret
        exact ⟨rfl, Kept.refl _ _⟩
      | true =>
        rw [hlow] at hL
        have hIn := rin_any (some ⟨w.heap.size, 0, none⟩) 5 resv (c :: t) _ (w.alloc (.cells (strs resv).toArray 9)) (lies_new w (strs resv) 9) (by decide)
        have HI := Lib.hid hI; have HL := Lib.hid hL; have HIN := Lib.hid hIn; clear hI hL hn hIn
        generalize resv.contains (c :: t) = r at *
        generalize bs (c :: t) = s at *
        go_enter Tryz.func62, Tryz.ntmps62
        go_wp2_with fail
        refine HI.out.mono ?_
        rintro e w1 ⟨rfl, rfl⟩
        go_wp2_with fail
        refine (HL.out _).mono ?_
        rintro e w2 ⟨rfl, rfl⟩
        go_wp2_with fail
        refine HIN.out.mono ?_
        rintro e w2 ⟨rfl, rfl⟩
        go_wp2
        go_ret
        exact ⟨rfl, (Kept.refl _ _).alloc _⟩

set_option maxHeartbeats 400000 in
theorem ralw_any (l : List UInt8) (w : World) : Calls Tryz.prog 64 #[.string (bs l)] w fun e w' => e = .returned (.bool (builtins.contains l)) ∧ Kept (fun _ => False) w w' := by
  have hIn := rin_any (some ⟨w.heap.size, 0, none⟩) 10 builtins l _ (w.alloc (.cells (strs builtins).toArray 9)) (lies_new w (strs builtins) 9) (by decide)
  have HIN := Lib.hid hIn; clear hIn
  generalize builtins.contains l = r at *
  generalize bs l = s at *
  go_enter Tryz.func64, Tryz.ntmps64
  go_wp2_with fail
  refine HIN.out.mono ?_
  rintro e w2 ⟨rfl, rfl⟩
  go_wp2
  go_ret
  exact ⟨rfl, (Kept.refl _ _).alloc _⟩

end Go.Proofs.YtjnpmbdehalmpaaGreat
