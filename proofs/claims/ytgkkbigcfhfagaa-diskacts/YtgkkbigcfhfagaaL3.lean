/-
  The laws of layer 3: Noughts and awake.
-/
import Derived.Test.YtgkkbigcfhfagaaDd
import Derived.Test.YtgkkbigcfhfagaaBy
namespace Go.Proofs.Ytgkkbigcfhfagaa
open Go.RowKit Go.Mk

set_option maxHeartbeats 400000 in
theorem noughts_any (w : World) (n : Nat) (hn : n ≤ 1000000) : Calls Try.prog 26 #[.int .i64 n] w fun e w' => e = .returned (.string (bs (List.replicate n 0))) ∧ Below w.heap.size w w' := by
  obtain ⟨i0, hi, hz0, hz1, hz2⟩ := info_parts Try.infoByte
  have hm : i0.bytes * n ≤ 281474976710656 := by rw [hz2]; omega
  have hs := run_string_new (P := Try.prog) 32 9 5 Try.underlying32 Try.underlying5 Try.underlying9 w (List.replicate n 0) n (by simp) 5
  rw [← made_noughts] at hs
  go_enter Try.func26, Try.ntmps26
  go_wp2_with (at_make; refine wpList_make_row _ rfl (.tmp 3) (.tmp 3) 32 rfl 5 i0 (.int .u8 0) Try.underlying32 hi hz0 hz1 rfl .i64 .i64 n rfl rfl hm (by omega) ?_)
  go_ret
  exact ⟨rfl, (Below.refl _ _).alloc (Nat.le_refl _) _⟩

def la3 : List UInt8 := List.replicate 63 0 ++ [97]
def lb3 : List UInt8 := List.replicate 63 0 ++ [98]

theorem lies_row {w : World} {base : Nat} {e : TypeId} {ao : Option Addr} {n cap : Nat} {l : List UInt8} (h : w.ownsRow base e 1 (.slice ao n cap) n (l.map bv)) : Lies w w.heap.size ao (l.map bv) := owns_lies h

set_option maxHeartbeats 1000000 in
theorem awake3_any (w : World) : Calls Try.prog 6 #[] w fun e w' => e = .returned (.bool true) ∧ Below w.heap.size w w' := by
  have hN : ∀ W : World, Calls Try.prog 26 #[.int .i64 63] W fun e w' => e = .returned (.string (bs (List.replicate 63 0))) ∧ Below W.heap.size W w' := fun W => noughts_any W 63 (by omega)
  have hA : bs (List.replicate 63 0) ++ ⟨#[97]⟩ = bs la3 := bs_append _ [97]
  have hB : bs (List.replicate 63 0) ++ ⟨#[98]⟩ = bs lb3 := bs_append _ [98]
  have hSs : (bs (List.replicate 63 0)).size = 63 := by simp [bs_size]
  generalize hS : bs (List.replicate 63 0) = S at hN hA hB hSs
  have hca := fun (W : World) => Lib.run_convert_string_bytes (P := Try.prog) W 9 32 5 (S ++ ⟨#[97]⟩) Try.underlying9 Try.underlying32 Try.underlying5
  have hcb := fun (W : World) => Lib.run_convert_string_bytes (P := Try.prog) W 9 32 5 (S ++ ⟨#[98]⟩) Try.underlying9 Try.underlying32 Try.underlying5
  have hsa : (bs la3).size = la3.length := rfl
  have hsb : (bs lb3).size = lb3.length := rfl
  rw [hA] at hca
  rw [hB] at hcb
  have HN := Lib.hid hN; clear hN hS hsa hsb
  have HNEW := Lib.hid (dnew_any w 2 (by omega) (by omega))
  go_enter Try.func6, Try.ntmps6
  go_wp2_with fail
  refine HNEW.out.mono ?_
  rintro e w1 ⟨b, D, rfl, hd, hD, b1⟩
  have HD := Lib.hid hd; have HDD := Lib.hid hD; have B1 := Lib.hid b1; clear hd hD b1
  go_wp2_with fail
  refine (HN.out _).mono ?_
  rintro e w2 ⟨rfl, b2⟩
  have B2 := Lib.hid b2; clear b2
  go_wp2_with fail
  refine (HN.out _).mono ?_
  rintro e w3 ⟨rfl, b3⟩
  have B3 := Lib.hid b3; clear b3
  go_wp2_with fail
  have kf : ∀ {B : Nat} {x y : World}, Below B x y → x.heap.size ≤ B → Kept (fun _ => False) x y := fun h hB => ⟨h.os, h.tape, h.output, h.size, fun k hk _ => h.block k (by omega)⟩
  have k12 := kf B2.out (Nat.le_refl _)
  have k23 := (kept_bytes w2 5 (bs la3)).trans (kf B3.out (Nat.le_refl _)) (fun _ _ h => h)
  have k34 := kept_bytes w3 5 (bs lb3)
  have hla := (lies_bytes' w2 5 la3).kept ((kf B3.out (Nat.le_refl _)).trans k34 (fun _ _ h => h)) (fun _ _ _ h => h)
  have hlb := lies_bytes' w3 5 lb3
  have s3 := B3.out.size
  rw [Lib.bytesWorld_size] at s3
  have s34 := Lib.bytesWorld_size w3 5 (bs lb3)
  have hla := hla.mono (show (Lib.bytesWorld w2 5 (bs la3)).heap.size ≤ (Lib.bytesWorld w3 5 (bs lb3)).heap.size by rw [Lib.bytesWorld_size]; omega)
  generalize Lib.bytesWorld w3 5 (bs lb3) = W4 at k34 hla hlb s34 ⊢
  generalize grownCap w2 (bs la3).size 0 5 = ca
  generalize grownCap w3 (bs lb3).size 0 5 = cb
  have s12 := B2.out.size
  have hd4 := (((HD.out.kept k12 (fun _ _ h => h)).kept k23 (fun _ _ h => h)).kept k34 (fun _ _ h => h))
  have k14 := (k12.trans k23 (fun _ _ h => h)).trans k34 (fun _ _ h => h)
  have hDlt := HD.out.lt
  have HLA := Lib.hid hla; have HLB := Lib.hid hlb; have HD4 := Lib.hid hd4; have K14 := Lib.hid k14; have HDLT := Lib.hid hDlt
  clear hla hlb hd4 k12 k23 k34 k14 hDlt hca hcb
  have hw1 := dwrite_any HD4.out 0 (some ⟨w2.heap.size, 0, none⟩) ca la3 HLA.out (fun _ a ha hDa => by cases ha; have := HDLT.out _ hDa; simp at this; omega) (by simp)
  have HW1 := Lib.hid hw1; clear hw1
  refine HW1.out.mono ?_
  rintro e w5 ⟨rfl, D5, hd5, hD5, k5⟩
  have hs5 := dsync_any hd5
  have HD5 := Lib.hid hD5; have K5 := Lib.hid k5; have HS5 := Lib.hid hs5; clear hD5 k5 hs5 hd5
  go_wp2_with fail
  refine HS5.out.mono ?_
  rintro e w6 ⟨rfl, hd6, k6⟩
  have e6 : less (writeC 2 (-1) 0 la3) = -1 := by decide
  have e5 : ¬ writeC 2 (-1) 0 la3 = 0 := by decide
  rw [if_neg e5, if_neg e5, e6] at hd6
  have e7 : image (List.replicate (64 * 2) 0) (writeW 2 (-1) 0 la3 []) = lay (List.replicate (64 * 2) 0) 0 la3 := rfl
  rw [e7] at hd6
  have d5 : ∀ i, D5 i → i ≠ w2.heap.size ∧ i ≠ w3.heap.size ∧ w.heap.size ≤ i := fun i hi => by
    have := B1.out.size
    rcases HD5.out i hi with h | h
    · have h1 := HDLT.out i h
      have h2 := HDD.out i h
      omega
    · omega
  have hlb6 := (HLB.out.kept K5.out (fun _ a ha hDa => by cases ha; have := HDLT.out _ hDa; simp at this; omega)).kept k6 (fun _ a ha hDa => by cases ha; exact (d5 _ hDa).2.1 rfl)
  have hla6 := (HLA.out.kept K5.out (fun _ a ha hDa => by cases ha; have := HDLT.out _ hDa; simp at this; omega)).kept k6 (fun _ a ha hDa => by cases ha; exact (d5 _ hDa).1 rfl)
  have s46 := Nat.le_trans K5.out.size k6.size
  have hw2 := dwrite_any hd6 0 (some ⟨w3.heap.size, 0, none⟩) cb lb3 (hlb6.mono s46) (fun _ a ha hDa => by cases ha; exact (d5 _ hDa).2.1 rfl) (by simp)
  have K6 := Lib.hid k6; have HLA6 := Lib.hid hla6; have HW2 := Lib.hid hw2; have D5' := Lib.hid d5
  clear k6 hla6 hlb6 hw2 hd6 d5 e7 e6 e5
  go_wp2_with fail
  refine HW2.out.mono ?_
  rintro e w7 ⟨rfl, D7, hd7, hD7, k7⟩
  have hc7 := dcrash_any hd7 none 0 [] (Lies.nil _ _ _) (by simp) (-1) 0 (by decide) (by simp)
  rw [crash_none] at hc7
  have HC7 := Lib.hid hc7; have HD7 := Lib.hid hD7; have K7 := Lib.hid k7; have HDL7 := Lib.hid hd7.lt; clear hc7 hD7 k7 hd7
  go_wp2_with fail
  refine HC7.out.mono ?_
  rintro e w8 ⟨⟨v8, rfl⟩, hd8, k8⟩
  have hr8 := dread_any hd8 0
  have e8 : readB (image (lay (List.replicate (64 * 2) 0) 0 la3) []) 2 0 = (la3, 0) := by decide +kernel
  rw [e8] at hr8
  have HR8 := Lib.hid hr8; have K8 := Lib.hid k8; clear hr8 k8 hd8 e8
  go_wp2_with fail
  refine HR8.out.mono ?_
  rintro e w9 ⟨ao9, cap9, rfl, ho9, b9⟩
  have d7 : ∀ i, D7 i → i ≠ w2.heap.size ∧ w.heap.size ≤ i := fun i hi => by
    have := B1.out.size
    have := K5.out.size
    have := K6.out.size
    rcases HD7.out i hi with h | h
    · exact ⟨(D5'.out i h).1, (D5'.out i h).2.2⟩
    · omega
  have hla9 := (((HLA6.out.kept K7.out (fun _ a ha hDa => by cases ha; exact (D5'.out _ hDa).1 rfl)).kept K8.out (fun _ a ha hDa => by cases ha; exact (d7 _ hDa).1 rfl)).kept (kf b9 (Nat.le_refl _)) (fun _ _ _ h => h))
  have hs1 := run_string_of (P := Try.prog) w9 32 9 5 Try.underlying32 Try.underlying5 Try.underlying9 cap9 la3.length rfl (owns_lies ho9)
  have hs2 := run_string_of (P := Try.prog) w9 32 9 5 Try.underlying32 Try.underlying5 Try.underlying9 ca (bs la3).size rfl hla9
  have HBL : Hid (Below w.heap.size w w9) := by
    have k1 : Kept (fun k => w.heap.size ≤ k) w w1 := Kept.of_below B1.out
    have k4 := k1.trans K14.out (fun _ _ h => h.elim)
    have k5 := k4.trans K5.out (fun i hi h => HDD.out i h)
    have k6 := k5.trans K6.out (fun i hi h => (D5'.out i h).2.2)
    have k7 := k6.trans K7.out (fun i hi h => (D5'.out i h).2.2)
    have k8 := k7.trans K8.out (fun i hi h => (d7 i h).2)
    have k9 := k8.trans (kf b9 (Nat.le_refl _)) (fun _ _ h => h.elim)
    exact k9.below (Nat.le_refl _) (fun _ h => h)
  clear ho9 b9 hla9 d7 kf
  go_wp2
  go_ret
  exact ⟨rfl, HBL.out⟩

end Go.Proofs.Ytgkkbigcfhfagaa
