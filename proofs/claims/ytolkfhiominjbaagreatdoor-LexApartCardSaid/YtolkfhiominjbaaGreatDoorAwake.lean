/- The examples of the document. No condition beyond what the theorems state. -/
import Derived.Test.YtolkfhiominjbaaGreatDoorTokens
import Derived.Test.YtolkfhiominjbaaGreatDoorWords
import Derived.Test.YtolkfhiominjbaaGreatDoorValid
import Derived.Handy
import Derived.Shelf.GgClosure.StringsTrimFunc
namespace Go.Proofs.YtolkfhiominjbaaGreatDoor
open Go.RowKit Go.Lib
set_option maxRecDepth 100000
set_option maxHeartbeats 8000000
theorem tok_info : (Tryz.prog.info? 25).map (fun i => (i.zero, i.size, i.bytes)) = some (some (.agg #[.int .i64 0, .string ⟨#[]⟩, .int .i64 0, .int .i64 0]), 4, 40) := by kernel_rfl
/-- The cells of so many tokens. -/
def cellsT (K : Nat → Int) (X : Nat → ByteArray) (P B : Nat → Nat) : Nat → List Value
  | 0 => []
  | i + 1 => cellsT K X P B i ++ [.int .i64 (K i), .string (X i), .int .i64 (P i : Nat), .int .i64 (B (i + 1) : Nat)]
def sliceN : Value → Nat
  | .slice _ n _ => n
  | _ => 0
theorem four_at (w : World) (g : Nat) (hg : g = w.heap.size) (x0 x1 x2 x3 : Value) (t : TypeId) : ∀ j u, [x0, x1, x2, x3][j]? = some u → (w.alloc (.cells #[x0, x1, x2, x3] t)).cell? ((⟨g, 0, none⟩ : Addr).add j) = some u := by
  subst hg
  intro j u hu
  have h := heap_alloc_new w (.cells #[x0, x1, x2, x3] t)
  have hj : ((⟨w.heap.size, 0, none⟩ : Addr).add j) = ⟨w.heap.size, j, none⟩ := by unfold Addr.add; split <;> simp_all
  rw [hj]
  unfold World.cell?
  rw [h]
  simpa using hu
theorem row_cells4 {w : World} {base n : Nat} {A : Option Addr} {c : Nat} {xs : List Value} (h : w.ownsRow base 25 4 (.slice A n c) n xs) (hn : 0 < n) : ∃ g, A = some ⟨g, 0, none⟩ ∧ base ≤ g ∧ g < w.heap.size ∧ ∀ j u, xs[j]? = some u → w.cell? ⟨g, j, none⟩ = some u := by
  rcases h.2 with ⟨h1, h2⟩ | ⟨g, cap, cur, e, hb, hh, hc, hm, hs, ht⟩
  · cases h1; omega
  · cases e
    refine ⟨g, rfl, hb, (Array.getElem?_eq_some_iff.1 hh).1, fun j u hu => ?_⟩
    rw [← ht, List.getElem?_take] at hu
    split at hu
    · unfold World.cell?
      rw [hh]
      simpa using hu
    · cases hu
/-- All tokens of a text, if n of them come and then its end. -/
theorem all_ok (S : ByteArray) (K : Nat → Int) (X : Nat → ByteArray) (P B : Nat → Nat) (n : Nat) (w : World) (hn : n ≤ 100000) (hB0 : B 0 = 0)
    (HK : Hid ((∀ i, i < n → K i ≠ 0) ∧ K n = 0))
    (HR : Hid (∀ W : World, Below w.heap.size w W → Calls Tryz.prog 12 #[.string S, .int .i64 0] W fun e w' => e = .returned (.bool true) ∧ Below W.heap.size W w'))
    (HN : Hid (∀ (W : World) (i : Nat), Below w.heap.size w W → i ≤ n → Calls Tryz.prog 13 #[.string S, .int .i64 (B i : Nat)] W fun e w' => e = .returned (.tuple #[.agg #[.int .i64 (K i), .string (X i), .int .i64 (P i : Nat), .int .i64 (B (i + 1) : Nat)], .int .i64 0]) ∧ Below W.heap.size W w')) :
    Calls Tryz.prog 10 #[.string S] w fun e w' => ∃ A c base, e = .returned (.tuple #[.slice A n c, .int .i64 0]) ∧ w.heap.size ≤ base ∧ w'.ownsRow base 25 4 (.slice A n c) n (cellsT K X P B n) ∧ Below w.heap.size w w' := by
  obtain ⟨i4, hi4, hz0, hz1, hz2⟩ := info_parts tok_info
  go_enter Tryz.func10, Tryz.ntmps10
  go_wp2_with fail
  refine (HR.out w (Below.refl _ _)).mono ?_
  rintro e w1 ⟨rfl, hb1⟩
  have HB1 := Lib.hid hb1
  have hN0 := HN.out w1 0 hb1 (Nat.zero_le _)
  rw [hB0] at hN0
  have HN0 := Lib.hid hN0
  clear hb1 hN0 HR
  go_wp2_with fail
  refine HN0.out.mono ?_
  rintro e w2 ⟨rfl, hb2⟩
  have HB2 := Lib.hid (bt HB1.out hb2)
  have hwz : w.heap.size ≤ w2.heap.size := HB2.out.size
  have HWZ := Lib.hid hwz
  clear hb2 HN0 hwz
  go_wp2
  go_loopw [4, 6] (fun s4 s6 wx => ∃ (i : Nat) (A : Option Addr) (c : Nat), s4 = .slice A i c ∧ s6 = .int .i64 0 ∧ i ≤ n ∧ Hid (wx.ownsRow (w2.heap.size + 1) 25 4 (.slice A i c) i (cellsT K X P B i))
      ∧ Hid (wx.cell? ⟨w2.heap.size, 0, none⟩ = some (.int .i64 (K i)) ∧ wx.cell? ⟨w2.heap.size, 1, none⟩ = some (.string (X i)) ∧ wx.cell? ⟨w2.heap.size, 2, none⟩ = some (.int .i64 (P i : Nat)) ∧ wx.cell? ⟨w2.heap.size, 3, none⟩ = some (.int .i64 (B (i + 1) : Nat)) ∧ ∀ o, wx.frozen? ⟨w2.heap.size, o, none⟩ = false)
      ∧ w2.heap.size < wx.heap.size ∧ Hid (Below w.heap.size w wx)) (fun s4 _ _ => n - sliceN s4)
  case atStart =>
    refine ⟨0, none, 0, rfl, rfl, Nat.zero_le _, Lib.hid (World.ownsRow_nil _ _ _ _), Lib.hid ⟨?_, ?_, ?_, ?_, ?_⟩, by simp, Lib.hid (ba HB2.out)⟩
    · simp
    · simp
    · simp
    · simp
    · intro o; simp
  case round =>
    obtain ⟨i, A, c, rfl, rfl, hi, HO, HC, hz, HBW⟩ := hrel
    obtain ⟨c0, c1, c2, c3, c4⟩ := HC.out
    have HNB := HN
    by_cases hlt : i < n
    · have hk := HK.out.1 i hlt
      obtain ⟨k, hkk⟩ : ∃ k, K i = k := ⟨_, rfl⟩
      have HKK := Lib.hid hkk
      rw [hkk] at hk c0
      have g1 : (k != 0) = true := by simpa using hk
      have g2 : decide (¬ k = 0) = true := by simpa using hk
      have HF := Lib.hid c4
      clear hk hkk HN HC c4
      go_wp2_with (at_builtin
                   go_must (refine wpList_append_any _ rfl (.tmp 22) (.tmp 24) _ rfl (w2.heap.size + 1) 25 i4 _ 4 40 Tryz.underlying32 hi4 hz0 hz1 hz2 rfl (by omega) (.slice A i c) i (cellsT K X P B i) rfl (HO.out.alloc _) (wr.heap.size + 1) (some ⟨wr.heap.size, 0, none⟩) 1 1 [.int .i64 k, .string (X i), .int .i64 (P i : Nat), .int .i64 (B (i + 1) : Nat)] rfl ⟨rfl, fun _ => ⟨_, rfl, by simp, four_at _ _ rfl _ _ _ _ _⟩⟩ (by simp; exact ⟨rfl, rfl, rfl, rfl⟩) (by simp only [maxLen]; omega) (by omega) (by simp; omega) ?_))
      intro v4 w4 hown hg hat
      obtain ⟨A4, c4, rfl⟩ := own_slice hown
      have HBg : Hid (Below (w2.heap.size + 1) wr w4) := Lib.hid (Below.grown ((Below.refl _ _).alloc (by omega) _) hg (by simp; omega) (fun b hb => (own_lt HO.out hb).1))
      have HB4 : Hid (Below w.heap.size w w4) := Lib.hid (HBW.out.trans (HBg.out.mono (by have := HWZ.out; omega)))
      have HO4 : Hid (w4.ownsRow (w2.heap.size + 1) 25 4 (.slice A4 (i + 1) c4) (i + 1) (cellsT K X P B (i + 1))) := Lib.hid (by
        have h := hown
        rw [← HKK.out] at h
        exact h)
      have d3 : w4.cell? ⟨w2.heap.size, 3, none⟩ = some (.int .i64 (B (i + 1) : Nat)) := (HBg.out.cell (p := ⟨w2.heap.size, 3, none⟩) (by simp)).trans c3
      have f4 : ∀ o, w4.frozen? ⟨w2.heap.size, o, none⟩ = false := fun o => (HBg.out.frozen (p := ⟨w2.heap.size, o, none⟩) (by simp)).trans (HF.out o)
      have z4 : w2.heap.size < w4.heap.size := by have := HBg.out.size; omega
      have HF4 := Lib.hid f4
      have d0 := (HBg.out.cell (p := ⟨w2.heap.size, 0, none⟩) (by simp)).trans c0
      have d1 := (HBg.out.cell (p := ⟨w2.heap.size, 1, none⟩) (by simp)).trans c1
      have d2 := (HBg.out.cell (p := ⟨w2.heap.size, 2, none⟩) (by simp)).trans c2
      clear hown hg hat c0 c1 c2 c3 HKK f4 g1 g2 HO
      go_wp2_with fail
      refine (HNB.out w4 (i + 1) HB4.out (by omega)).mono ?_
      rintro e w5 ⟨rfl, hb5⟩
      have HB5 : Hid (Below w.heap.size w w5) := Lib.hid (bt HB4.out hb5)
      have HO5 := Lib.hid (own_below HO4.out hb5)
      have e0 : ∀ o, w5.frozen? ⟨w2.heap.size, o, none⟩ = false := fun o => (hb5.frozen (p := ⟨w2.heap.size, o, none⟩) z4).trans (HF4.out o)
      have z5 : w2.heap.size < w5.heap.size := Nat.lt_of_lt_of_le z4 hb5.size
      have k3 := (hb5.cell (p := ⟨w2.heap.size, 3, none⟩) z4).trans d3
      have k0 := (hb5.cell (p := ⟨w2.heap.size, 0, none⟩) z4).trans d0
      have k1 := (hb5.cell (p := ⟨w2.heap.size, 1, none⟩) z4).trans d1
      have k2 := (hb5.cell (p := ⟨w2.heap.size, 2, none⟩) z4).trans d2
      clear hb5 d0 d1 d2 d3 HF4
      go_wp2
      go_roundw
      case rel =>
        refine ⟨i + 1, A4, c4, rfl, rfl, by omega, Lib.hid (own_keep HO5.out fun b hb => ?_), Lib.hid ⟨?_, ?_, ?_, ?_, ?_⟩, ?_, Lib.hid ?_⟩
        · rw [Below.heap_setCell, Below.heap_setCell, Below.heap_setCell, Below.heap_setCell]
          all_goals (intro e; have := (own_lt HO5.out hb).1; simp only at e; omega)
        all_goals first
          | (simp [go_sem, k0, k1, k2, k3, e0]; done)
          | (intro o; simp [go_sem, k0, k1, k2, k3, e0]; done)
          | (simp; omega)
          | (have := HB5.out; repeat (with_reducible (first | assumption | (refine bs ?_ (by have := HWZ.out; simp; omega)))))
      case measure => simp only [sliceN]; omega
    · obtain rfl : i = n := by omega
      have hk := HK.out.2
      rw [hk] at c0
      have HF := Lib.hid c4
      clear hk HN HC c4 HK
      go_wp2
      go_ret2
      exact ⟨A, c, _, rfl, by have := HWZ.out; omega, HO.out, HBW.out⟩
end Go.Proofs.YtolkfhiominjbaaGreatDoor
namespace Go.Proofs.YtolkfhiominjbaaGreatDoor
open Go.RowKit Go.Lib
set_option maxRecDepth 100000
set_option maxHeartbeats 8000000
/-- "x{{&lt;{y" -/
def txP : List UInt8 := [120, 123, 123, 38, 108, 116, 59, 123, 121]
/-- The same behind one, and behind three bytes. -/
def txP1 : List UInt8 := [123, 123, 38, 108, 116, 59, 123, 121]
def txP3 : List UInt8 := [38, 108, 116, 59, 123, 121]
theorem has_is (l : List UInt8) (c : UInt8) (b : Bool) (h : l.contains c = b) : Hid (∀ w : World, Calls Tryz.prog 32 #[.string (ba' l), .int .u8 (c.toNat : Int)] w fun e w' => e = .returned (.bool b) ∧ Below w.heap.size w w') := Lib.hid (by
  intro w
  have := has_any l c w
  rw [h] at this
  exact this)
theorem read_ex (w : World) (v : Int) (hm : w.cell? ⟨2, 0, none⟩ = some (.int .i64 v)) :
    Calls Tryz.prog 20 #[.agg #[.string (ba' [123, 125]), .string (ba' [60]), .bool false], .string (ba' txP)] w fun e w' => e = .returned (.tuple #[.string (ba' [120, 123, 60]), .string (ba' [123, 121]), .bool true]) ∧ Below w.heap.size w w' := by
  have hg2 : 2 < w.heap.size := World.block_lt_of_cell? w ⟨2, 0, none⟩ hm
  have HM := Lib.hid hm
  have HI0 : Hid (Lib.IsBuilder 65 5 (w.heap.size + 1) (w.heap.size + 1) (Lib.byteCells []) ((w.alloc (.cells #[.string (ba' [123, 125]), .string (ba' [60]), .bool false] 47)).alloc (.cells #[.pointer none, .slice none 0 0] 65))) := Lib.hid (by
    have := Lib.fresh_isBuilder 65 5 (w.alloc (.cells #[.string (ba' [123, 125]), .string (ba' [60]), .bool false] 47))
    simpa [Lib.byteCells] using this)
  have HS1 := says_no [123, 125] [60] 120
  have HSAY := gives_unfold HS1
  have HSX := has_is [60] 120 false rfl
  have HDX := has_is [123, 125] 120 false rfl
  have HSB := has_is [60] 123 false rfl
  have HDB := has_is [123, 125] 123 true rfl
  have HCUT : Hid (∀ W : World, Below w.heap.size w W → Calls Tryz.prog 30 #[.string (ba' ([108, 116] ++ 59 :: [123, 121]))] W fun e w' => e = .returned (.tuple #[.string (ba' [60]), .string (ba' [123, 121]), .bool true]) ∧ Below W.heap.size W w') :=
    Lib.hid fun W hW => cut_any [108, 116] [123, 121] [60] (by decide) meaning_lt (by decide) W v ((hW.cell (p := ⟨2, 0, none⟩) hg2).trans HM.out)
  clear hm hg2
  have n0 : (ba' txP).toList.isEmpty = false := by rw [toList_ba]; rfl
  have n1 : (ba' txP1).toList.isEmpty = false := by rw [toList_ba]; rfl
  have n3 : (ba' txP3).toList.isEmpty = false := by rw [toList_ba]; rfl
  have n7 : (ba' [123, 121]).toList.isEmpty = false := by rw [toList_ba]; rfl
  have X0 : Hid ((ba' txP).extract 1 9 = ba' txP1) := Lib.hid (cut_drop txP 1)
  have X1 : Hid ((ba' txP1).extract 2 8 = ba' txP3) := Lib.hid (cut_drop txP1 2)
  have X3 : Hid ((ba' txP3).extract 1 6 = ba' ([108, 116] ++ 59 :: [123, 121])) := Lib.hid (cut_drop txP3 1)
  have s0 : (ba' txP).size = 9 := size_ba _
  have s1 : (ba' txP1).size = 8 := size_ba _
  have s3 : (ba' txP3).size = 6 := size_ba _
  have s7 : (ba' [123, 121]).size = 2 := size_ba _
  have q0 : 0 < (ba' txP).size := by rw [s0]; decide
  have q1 : 0 < (ba' txP1).size := by rw [s1]; decide
  have q1' : 1 < (ba' txP1).size := by rw [s1]; decide
  have q3 : 0 < (ba' txP3).size := by rw [s3]; decide
  have q7 : 0 < (ba' [123, 121]).size := by rw [s7]; decide
  have q7' : 1 < (ba' [123, 121]).size := by rw [s7]; decide
  have b0 : (((ba' txP)[0]'q0).toNat : Int) = 120 := rfl
  have b1 : (((ba' txP1)[0]'q1).toNat : Int) = 123 := rfl
  have b1' : (((ba' txP1)[1]'q1').toNat : Int) = 123 := rfl
  have b3 : (((ba' txP3)[0]'q3).toNat : Int) = 38 := rfl
  have b7 : (((ba' [123, 121])[0]'q7).toNat : Int) = 123 := rfl
  have b7' : (((ba' [123, 121])[1]'q7').toNat : Int) = 121 := rfl
  go_enter Tryz.func20, Tryz.ntmps20
  go_wp2
  have x00 : ((w.alloc (.cells #[.string (ba' [123, 125]), .string (ba' [60]), .bool false] 47)).alloc (.cells #[.pointer none, .slice none 0 0] 65)).cell? ⟨w.heap.size, 0, none⟩ = some (.string (ba' [123, 125])) := by simp
  have x10 : ((w.alloc (.cells #[.string (ba' [123, 125]), .string (ba' [60]), .bool false] 47)).alloc (.cells #[.pointer none, .slice none 0 0] 65)).cell? ⟨w.heap.size, 1, none⟩ = some (.string (ba' [60])) := by simp
  have x20 : ((w.alloc (.cells #[.string (ba' [123, 125]), .string (ba' [60]), .bool false] 47)).alloc (.cells #[.pointer none, .slice none 0 0] 65)).cell? ⟨w.heap.size, 2, none⟩ = some (.bool false) := by simp
  have HB0 : Hid (Below w.heap.size w ((w.alloc (.cells #[.string (ba' [123, 125]), .string (ba' [60]), .bool false] 47)).alloc (.cells #[.pointer none, .slice none 0 0] 65))) := Lib.hid (ba (ba (Below.refl _ _)))
  have z0 : w.heap.size + 1 < ((w.alloc (.cells #[.string (ba' [123, 125]), .string (ba' [60]), .bool false] 47)).alloc (.cells #[.pointer none, .slice none 0 0] 65)).heap.size := by simp
  obtain ⟨w0, hw0⟩ : ∃ w0, (w.alloc (.cells #[.string (ba' [123, 125]), .string (ba' [60]), .bool false] 47)).alloc (.cells #[.pointer none, .slice none 0 0] 65) = w0 := ⟨_, rfl⟩
  rw [hw0] at x00 x10 x20 HB0 z0 HI0 ⊢
  clear hw0
  refine wp_loop_rounds 5 ?_
  rw [rounds_succ]
  go_wp2_with fail
  refine (HSX.out _).mono ?_
  rintro e w1 ⟨rfl, hb1⟩
  have HI1 := Lib.hid (builder_carry HI0.out hb1)
  have x01 := (hb1.cell (p := ⟨w.heap.size, 0, none⟩) (by simp only; omega)).trans x00
  have x11 := (hb1.cell (p := ⟨w.heap.size, 1, none⟩) (by simp only; omega)).trans x10
  have x21 := (hb1.cell (p := ⟨w.heap.size, 2, none⟩) (by simp only; omega)).trans x20
  have HB1 : Hid (Below w.heap.size w w1) := Lib.hid (bt HB0.out hb1)
  have z1 := Nat.lt_of_lt_of_le z0 hb1.size
  clear hb1 x00 x10 x20
  go_wp2_with fail
  refine (HDX.out _).mono ?_
  rintro e w2 ⟨rfl, hb2⟩
  have HI2 := Lib.hid (builder_carry HI1.out hb2)
  have x02 := (hb2.cell (p := ⟨w.heap.size, 0, none⟩) (by simp only; omega)).trans x01
  have x12 := (hb2.cell (p := ⟨w.heap.size, 1, none⟩) (by simp only; omega)).trans x11
  have x22 := (hb2.cell (p := ⟨w.heap.size, 2, none⟩) (by simp only; omega)).trans x21
  have HB2 : Hid (Below w.heap.size w w2) := Lib.hid (bt HB1.out hb2)
  have z2 := Nat.lt_of_lt_of_le z1 hb2.size
  clear hb2 x01 x11 x21
  go_wp2_with fail
  refine (HSAY.out.call _).mono ?_
  rintro e w3 ⟨rfl, hb3⟩
  have HI3 := Lib.hid (builder_carry HI2.out hb3)
  have x03 := (hb3.cell (p := ⟨w.heap.size, 0, none⟩) (by simp only; omega)).trans x02
  have x13 := (hb3.cell (p := ⟨w.heap.size, 1, none⟩) (by simp only; omega)).trans x12
  have x23 := (hb3.cell (p := ⟨w.heap.size, 2, none⟩) (by simp only; omega)).trans x22
  have HB3 : Hid (Below w.heap.size w w3) := Lib.hid (bt HB2.out hb3)
  have z3 := Nat.lt_of_lt_of_le z2 hb3.size
  clear hb3 x02 x12 x22
  go_wp2_with fail
  refine (byte_any (w.heap.size + 1) (w.heap.size + 1) [] 120 w3 HI3.out (by decide) (by omega)).mono ?_
  rintro e w4 ⟨rfl, hI4, hb4⟩
  have HI4 : Hid (Lib.IsBuilder 65 5 (w.heap.size + 1) (w.heap.size + 1) (Lib.byteCells [120]) w4) := Lib.hid (.inr hI4)
  have x04 := (hb4.cell (p := ⟨w.heap.size, 0, none⟩) (by simp only; omega)).trans x03
  have x14 := (hb4.cell (p := ⟨w.heap.size, 1, none⟩) (by simp only; omega)).trans x13
  have x24 := (hb4.cell (p := ⟨w.heap.size, 2, none⟩) (by simp only; omega)).trans x23
  have HB4 : Hid (Below w.heap.size w w4) := Lib.hid (HB3.out.trans (hb4.mono (by omega)))
  have z4 := Nat.lt_of_lt_of_le z3 hb4.size
  clear hI4 hb4 x03 x13 x23
  go_wp2
  rw [X0.out]
  rw [rounds_succ]
  go_wp2_with fail
  refine (HSB.out _).mono ?_
  rintro e w5 ⟨rfl, hb5⟩
  have HI5 := Lib.hid (builder_carry HI4.out hb5)
  have x05 := (hb5.cell (p := ⟨w.heap.size, 0, none⟩) (by simp only; omega)).trans x04
  have x15 := (hb5.cell (p := ⟨w.heap.size, 1, none⟩) (by simp only; omega)).trans x14
  have x25 := (hb5.cell (p := ⟨w.heap.size, 2, none⟩) (by simp only; omega)).trans x24
  have HB5 : Hid (Below w.heap.size w w5) := Lib.hid (bt HB4.out hb5)
  have z5 := Nat.lt_of_lt_of_le z4 hb5.size
  clear hb5 x04 x14 x24
  go_wp2_with fail
  refine (HDB.out _).mono ?_
  rintro e w6 ⟨rfl, hb6⟩
  have HI6 := Lib.hid (builder_carry HI5.out hb6)
  have x06 := (hb6.cell (p := ⟨w.heap.size, 0, none⟩) (by simp only; omega)).trans x05
  have x16 := (hb6.cell (p := ⟨w.heap.size, 1, none⟩) (by simp only; omega)).trans x15
  have x26 := (hb6.cell (p := ⟨w.heap.size, 2, none⟩) (by simp only; omega)).trans x25
  have HB6 : Hid (Below w.heap.size w w6) := Lib.hid (bt HB5.out hb6)
  have z6 := Nat.lt_of_lt_of_le z5 hb6.size
  clear hb6 x05 x15 x25
  go_wp2_with fail
  refine (byte_any (w.heap.size + 1) (w.heap.size + 1) [120] 123 w6 HI6.out (by decide) (by omega)).mono ?_
  rintro e w7 ⟨rfl, hI7, hb7⟩
  have HI7 : Hid (Lib.IsBuilder 65 5 (w.heap.size + 1) (w.heap.size + 1) (Lib.byteCells [120, 123]) w7) := Lib.hid (.inr hI7)
  have x07 := (hb7.cell (p := ⟨w.heap.size, 0, none⟩) (by simp only; omega)).trans x06
  have x17 := (hb7.cell (p := ⟨w.heap.size, 1, none⟩) (by simp only; omega)).trans x16
  have x27 := (hb7.cell (p := ⟨w.heap.size, 2, none⟩) (by simp only; omega)).trans x26
  have HB7 : Hid (Below w.heap.size w w7) := Lib.hid (HB6.out.trans (hb7.mono (by omega)))
  have z7 := Nat.lt_of_lt_of_le z6 hb7.size
  clear hI7 hb7 x06 x16 x26
  go_wp2
  rw [X1.out]
  rw [rounds_succ]
  go_wp2_with fail
  rw [X3.out]
  refine (HCUT.out _ HB7.out).mono ?_
  rintro e w8 ⟨rfl, hb8⟩
  have HI8 := Lib.hid (builder_carry HI7.out hb8)
  have x08 := (hb8.cell (p := ⟨w.heap.size, 0, none⟩) (by simp only; omega)).trans x07
  have x18 := (hb8.cell (p := ⟨w.heap.size, 1, none⟩) (by simp only; omega)).trans x17
  have x28 := (hb8.cell (p := ⟨w.heap.size, 2, none⟩) (by simp only; omega)).trans x27
  have HB8 : Hid (Below w.heap.size w w8) := Lib.hid (bt HB7.out hb8)
  have z8 := Nat.lt_of_lt_of_le z7 hb8.size
  clear hb8 x07 x17 x27
  go_wp2_with fail
  refine (write_any (w.heap.size + 1) (w.heap.size + 1) (Lib.byteCells [120, 123]) (ba' [60]) w8 HI8.out (by decide) (by omega)).mono ?_
  rintro e w9 ⟨rfl, hI9, hb9⟩
  have HI9 : Hid (Lib.IsBuilder 65 5 (w.heap.size + 1) (w.heap.size + 1) (Lib.byteCells [120, 123, 60]) w9) := Lib.hid (.inr hI9)
  have x09 := (hb9.cell (p := ⟨w.heap.size, 0, none⟩) (by simp only; omega)).trans x08
  have x19 := (hb9.cell (p := ⟨w.heap.size, 1, none⟩) (by simp only; omega)).trans x18
  have x29 := (hb9.cell (p := ⟨w.heap.size, 2, none⟩) (by simp only; omega)).trans x28
  have HB9 : Hid (Below w.heap.size w w9) := Lib.hid (HB8.out.trans (hb9.mono (by omega)))
  have z9 := Nat.lt_of_lt_of_le z8 hb9.size
  clear hI9 hb9 x08 x18 x28
  go_wp2
  rw [rounds_succ]
  go_wp2_with fail
  refine (HSB.out _).mono ?_
  rintro e w10 ⟨rfl, hb10⟩
  have HI10 := Lib.hid (builder_carry HI9.out hb10)
  have x010 := (hb10.cell (p := ⟨w.heap.size, 0, none⟩) (by simp only; omega)).trans x09
  have x110 := (hb10.cell (p := ⟨w.heap.size, 1, none⟩) (by simp only; omega)).trans x19
  have x210 := (hb10.cell (p := ⟨w.heap.size, 2, none⟩) (by simp only; omega)).trans x29
  have HB10 : Hid (Below w.heap.size w w10) := Lib.hid (bt HB9.out hb10)
  have z10 := Nat.lt_of_lt_of_le z9 hb10.size
  clear hb10 x09 x19 x29
  go_wp2_with fail
  refine (HDB.out _).mono ?_
  rintro e w11 ⟨rfl, hb11⟩
  have HI11 := Lib.hid (builder_carry HI10.out hb11)
  have x011 := (hb11.cell (p := ⟨w.heap.size, 0, none⟩) (by simp only; omega)).trans x010
  have x111 := (hb11.cell (p := ⟨w.heap.size, 1, none⟩) (by simp only; omega)).trans x110
  have x211 := (hb11.cell (p := ⟨w.heap.size, 2, none⟩) (by simp only; omega)).trans x210
  have HB11 : Hid (Below w.heap.size w w11) := Lib.hid (bt HB10.out hb11)
  have z11 := Nat.lt_of_lt_of_le z10 hb11.size
  clear hb11 x010 x110 x210
  go_wp2_with fail
  refine (Tryz.Builder_String_any (w.heap.size + 1) (w.heap.size + 1) [120, 123, 60] w11 HI11.out (by omega)).mono ?_
  rintro e w12 ⟨rfl, hb12⟩
  have HB12 : Hid (Below w.heap.size w w12) := Lib.hid (HB11.out.trans (hb12.mono (by omega)))
  clear hb12
  go_wp2
  go_ret3
  exact ⟨rfl, HB12.out⟩
end Go.Proofs.YtolkfhiominjbaaGreatDoor
namespace Go.Proofs.YtolkfhiominjbaaGreatDoor
open Go.RowKit Go.Lib
set_option maxRecDepth 100000
set_option maxHeartbeats 8000000
theorem space_any (p : Int) (w : World) : Calls Tryz.prog 37 #[.int .i32 p] w fun e w' => e = .returned (.bool (spaceB p)) ∧ w = w' := by
  go_enter Tryz.func37, Tryz.ntmps37
  go_wp2
  all_goals go_ret
  all_goals (go_light; refine ⟨ret_bool ?_, rfl⟩; rw [Bool.eq_iff_iff, spaceB_iff]; simp only [beq_iff_eq, Bool.or_eq_true, true_iff] at *; unfold spaceP; omega)
theorem e26 : ∀ args w, (callFunc 37 args).run Tryz.prog w = .ok (.enter 37 args) w := enters_of Tryz.func37 (by kernel_rfl) rfl
def spR (r : Nat) : Bool := spaceB (r : Int)
theorem pred_space (w : World) : PredAt Tryz.prog 37 #[] encR spR w := fun W x _ => (space_any (x : Int) W).mono fun _ _ ⟨he, hw⟩ => ⟨he, 0, by rw [← hw]; rfl⟩
/-- "x{{&lt;" -/
def txQ : List UInt8 := [120, 123, 123, 38, 108, 116, 59]
theorem trim_ex : (Lib.trimF spR (ba' txQ)).data.toList = txQ := by decide +kernel
theorem trim_q (w : World) (hT : tabs w) : Calls Tryz.prog 21 #[.string (ba' txQ)] w fun e w' => e = .returned (.string (ba' txQ)) ∧ Below w.heap.size w w' := by
  have h := Tryz.strings_TrimFunc 37 #[] e26 spR (ba' txQ) w (by rw [size_ba]; decide) hT (pred_space w)
  have e : Lib.trimF spR (ba' txQ) = ba' txQ := by
    apply ByteArray.ext
    apply Array.toList_inj.1
    rw [trim_ex]
    rfl
  rw [e] at h
  have H := Lib.hid h
  clear h hT e
  go_enter Tryz.func21, Tryz.ntmps21
  go_wp2_with fail
  refine H.out.mono ?_
  rintro e w1 ⟨rfl, hb1⟩
  have HB1 := Lib.hid hb1
  clear hb1
  go_wp2
  go_ret
  exact ⟨rfl, HB1.out⟩
theorem content_ex (w : World) (hT : tabs w) (v : Int) (hm : w.cell? ⟨2, 0, none⟩ = some (.int .i64 v)) :
    Calls Tryz.prog 11 #[.string (ba' txP), .int .i64 0] w fun e w' => e = .returned (.tuple #[.string (ba' [120, 123, 60]), .bool true, .int .i64 7, .int .i64 0]) ∧ Below w.heap.size w w' := by
  have hg2 : 2 < w.heap.size := World.block_lt_of_cell? w ⟨2, 0, none⟩ hm
  have HRD := Lib.hid (readable_any txP (by decide) (by decide +kernel) w hT)
  have HRE : Hid (∀ W : World, Below w.heap.size w W → Calls Tryz.prog 20 #[.agg #[.string (ba' [123, 125]), .string (ba' [60]), .bool false], .string (ba' txP)] W fun e w' => e = .returned (.tuple #[.string (ba' [120, 123, 60]), .string (ba' [123, 121]), .bool true]) ∧ Below W.heap.size W w') :=
    Lib.hid fun W hW => read_ex W v ((hW.cell (p := ⟨2, 0, none⟩) hg2).trans hm)
  have HTQ : Hid (∀ W : World, Below w.heap.size w W → Calls Tryz.prog 21 #[.string (ba' txQ)] W fun e w' => e = .returned (.string (ba' txQ)) ∧ Below W.heap.size W w') := Lib.hid fun W hW => trim_q W (Utf8Tabs_below hT hW)
  have X0 : Hid ((ba' txP).extract 0 9 = ba' txP) := Lib.hid (cut_take txP 9)
  have X7 : Hid ((ba' txP).extract 0 7 = ba' txQ) := Lib.hid (cut_take txP 7)
  have s0 : (ba' txP).size = 9 := size_ba _
  have s7 : (ba' [123, 121]).size = 2 := size_ba _
  have hem : (ba' txQ).toList.isEmpty = false := by rw [toList_ba]; rfl
  clear hT hm hg2
  go_enter Tryz.func11, Tryz.ntmps11
  go_wp2_with fail
  refine HRD.out.mono ?_
  rintro e w1 ⟨rfl, hb1⟩
  have HB1 := Lib.hid hb1
  clear hb1
  go_wp2_with fail
  rw [X0.out]
  refine (HRE.out w1 HB1.out).mono ?_
  rintro e w2 ⟨rfl, hb2⟩
  have HB2 := Lib.hid (bt HB1.out hb2)
  clear hb2
  go_wp2_with fail
  rw [X7.out]
  refine (HTQ.out w2 HB2.out).mono ?_
  rintro e w3 ⟨rfl, hb3⟩
  have HB3 := Lib.hid (bt HB2.out hb3)
  clear hb3
  go_wp2
  refine bodyPost_ret (v := .tuple #[.string (ba' [120, 123, 60]), .bool true, .int .i64 7, .int .i64 0]) ?_ rfl ⟨rfl, HB3.out⟩
  simp [results, Tryz.results11, go_sem, *]
/-- The example's tokens. -/
def kA : Nat → Int | 0 => 2 | 1 => 6 | 2 => 4 | 3 => 1 | _ => 0
def xA : Nat → ByteArray | 0 => ba' [120] | 1 => ba' [43] | 2 => ba' [49, 46, 53] | 3 => ba' txN | _ => ⟨#[]⟩
def pA : Nat → Nat | 0 => 0 | 1 => 2 | 2 => 3 | 3 => 15 | _ => 18
def bA : Nat → Nat | 0 => 0 | 1 => 2 | 2 => 3 | 3 => 6 | _ => 18
theorem next_A (w : World) (hT : tabs w) (i : Nat) (hi : i ≤ 4) :
    Calls Tryz.prog 13 #[.string (ba' txA), .int .i64 (bA i : Nat)] w fun e w' => e = .returned (.tuple #[.agg #[.int .i64 (kA i), .string (xA i), .int .i64 (pA i : Nat), .int .i64 (bA (i + 1) : Nat)], .int .i64 0]) ∧ Below w.heap.size w w' := by
  rcases (by omega : i = 0 ∨ i = 1 ∨ i = 2 ∨ i = 3 ∨ i = 4) with rfl | rfl | rfl | rfl | rfl
  · exact next_tok txA txA [120] 0 2 2 w (by decide) (by decide) (by decide) (by decide) (by decide) (by decide)
      (Lib.hid fun W hW => passed_any txA txA (by decide +kernel) (by decide +kernel) W)
      (Lib.hid fun W hW => tok_var (120 :: 43 :: txC) [120] W (Lib.hid (variable_any [120] (120 :: 43 :: txC) (by decide) (by decide) (by decide) W (Lib.hid (plain_x W (Utf8Tabs_below hT hW))))))
  · exact next_tok txA (43 :: txC) [43] 2 6 1 w (by decide) (by decide) (by decide) (by decide) (by decide) (by decide)
      (Lib.hid fun W hW => passed_any (txA.drop 2) (43 :: txC) (by decide +kernel) (by decide +kernel) W)
      (Lib.hid fun W hW => tok_plus (txC.drop 1) 49 (by decide) W)
  · exact next_tok txA txC [49, 46, 53] 3 4 3 w (by decide) (by decide) (by decide) (by decide) (by decide) (by decide)
      (Lib.hid fun W hW => passed_any (txA.drop 3) txC (by decide +kernel) (by decide +kernel) W)
      (Lib.hid fun W hW => tok_num (txC.drop 1) 4 3 [49, 46, 53] W (Lib.hid fun W2 => digits_any txC (txC.drop 1) (by decide +kernel) (by decide) (by decide) W2) (Lib.hid fun W2 hW2 => number_dec W2 (Utf8Tabs_below (Utf8Tabs_below hT hW) hW2)))
  · exact next_tok txA txN txN 6 1 3 w (by decide) (by decide) (by decide) (by decide) (by decide) (by decide)
      (Lib.hid fun W hW => passed_r W)
      (Lib.hid fun W hW => tok_name W (Utf8Tabs_below hT hW))
  · exact next_end txA 18 w (by decide) (by decide) (Lib.hid fun W hW => passed_any [] [] (by decide +kernel) (by decide +kernel) W)
theorem all_A (w : World) (hT : tabs w) :
    Calls Tryz.prog 10 #[.string (ba' txA)] w fun e w' => ∃ g c, e = .returned (.tuple #[.slice (some ⟨g, 0, none⟩) 4 c, .int .i64 0]) ∧ g < w'.heap.size ∧ w'.cell? ⟨g, 0, none⟩ = some (.int .i64 2) ∧ w'.cell? ⟨g, 9, none⟩ = some (.string (ba' [49, 46, 53])) ∧ w'.cell? ⟨g, 13, none⟩ = some (.string (ba' txN)) ∧ Below w.heap.size w w' := by
  refine (all_ok (ba' txA) kA xA pA bA 4 w (by decide) rfl (Lib.hid ⟨fun i hi => ?_, rfl⟩) (Lib.hid fun W hW => readable_any txA (by decide) (by decide +kernel) W (Utf8Tabs_below hT hW)) (Lib.hid fun W i hW hi => next_A W (Utf8Tabs_below hT hW) i hi)).mono ?_
  · rcases (by omega : i = 0 ∨ i = 1 ∨ i = 2 ∨ i = 3) with rfl | rfl | rfl | rfl <;> decide
  · rintro e w' ⟨A, c, base, rfl, hbase, hown, hb⟩
    obtain ⟨g, rfl, hg, hgl, hx⟩ := row_cells4 hown (by decide)
    exact ⟨g, c, rfl, hgl, hx 0 _ rfl, hx 9 _ rfl, hx 13 _ rfl, hb⟩
theorem all_1a (w : World) (hT : tabs w) :
    Calls Tryz.prog 10 #[.string (ba' [49, 97])] w fun e w' => e = .returned (.tuple #[.slice none 0 0, .int .i64 40]) ∧ Below w.heap.size w w' := by
  have HR := Lib.hid (readable_any [49, 97] (by decide) (by decide +kernel) w hT)
  have HN : Hid (∀ W : World, Below w.heap.size w W → Calls Tryz.prog 13 #[.string (ba' [49, 97]), .int .i64 0] W fun e w' => e = .returned (.tuple #[.agg #[.int .i64 0, .string ⟨#[]⟩, .int .i64 0, .int .i64 0], .int .i64 40]) ∧ Below W.heap.size W w') :=
    Lib.hid fun W hW => next_bad [49, 97] [49, 97] [] 0 0 W (by decide) (by decide) (by decide) (by decide)
      (Lib.hid fun W1 hW1 => passed_any [49, 97] [49, 97] (by decide +kernel) (by decide +kernel) W1)
      (Lib.hid fun W1 hW1 => tok_num [97] 0 0 [] W1 (Lib.hid fun W2 => digits_any [49, 97] [97] (by decide +kernel) (by decide) (by decide) W2) (Lib.hid fun W2 hW2 => number_bad W2 (Utf8Tabs_below (Utf8Tabs_below (Utf8Tabs_below hT hW) hW1) hW2)))
  clear hT
  go_enter Tryz.func10, Tryz.ntmps10
  go_wp2_with fail
  refine HR.out.mono ?_
  rintro e w1 ⟨rfl, hb1⟩
  have HB1 := Lib.hid hb1
  clear hb1
  go_wp2_with fail
  refine (HN.out w1 HB1.out).mono ?_
  rintro e w2 ⟨rfl, hb2⟩
  have HB2 := Lib.hid (bt HB1.out hb2)
  clear hb2
  go_wp2
  refine wp_loop_rounds 1 ?_
  rw [rounds_succ]
  go_wp2
  go_ret2
  exact ⟨rfl, ba HB2.out⟩
theorem awake_any (w : World) (hT : tabs w) (v : Int) (hm : w.cell? ⟨2, 0, none⟩ = some (.int .i64 v)) :
    Calls Tryz.prog 6 #[] w fun e w' => e = .returned (.bool true) ∧ Below w.heap.size w w' := by
  have hg2 : 2 < w.heap.size := World.block_lt_of_cell? w ⟨2, 0, none⟩ hm
  have HA := Lib.hid (all_A w hT)
  have H1 : Hid (∀ W : World, Below w.heap.size w W → Calls Tryz.prog 10 #[.string (ba' [49, 97])] W fun e w' => e = .returned (.tuple #[.slice none 0 0, .int .i64 40]) ∧ Below W.heap.size W w') := Lib.hid fun W hW => all_1a W (Utf8Tabs_below hT hW)
  have HC : Hid (∀ W : World, Below w.heap.size w W → Calls Tryz.prog 11 #[.string (ba' txP), .int .i64 0] W fun e w' => e = .returned (.tuple #[.string (ba' [120, 123, 60]), .bool true, .int .i64 7, .int .i64 0]) ∧ Below W.heap.size W w') := Lib.hid fun W hW => content_ex W (Utf8Tabs_below hT hW) v ((hW.cell (p := ⟨2, 0, none⟩) hg2).trans hm)
  have t1 : (ba' [49, 46, 53]).toList = [49, 46, 53] := toList_ba _
  have t2 : (ba' txN).toList = [97, 45, 98] := toList_ba _
  have t3 : (ba' [120, 123, 60]).toList = [120, 123, 60] := toList_ba _
  clear hT hm hg2
  go_enter Tryz.func6, Tryz.ntmps6
  go_wp2_with fail
  refine HA.out.mono ?_
  rintro e w1 ⟨g, c, rfl, hg, h0, h9, h13, hb1⟩
  have HB1 := Lib.hid hb1
  clear hb1
  go_wp2_with fail
  refine (H1.out w1 HB1.out).mono ?_
  rintro e w2 ⟨rfl, hb2⟩
  have HB2 := Lib.hid (bt HB1.out hb2)
  have k0 := (hb2.cell (p := ⟨g, 0, none⟩) hg).trans h0
  have k9 := (hb2.cell (p := ⟨g, 9, none⟩) hg).trans h9
  have k13 := (hb2.cell (p := ⟨g, 13, none⟩) hg).trans h13
  have hg' := Nat.lt_of_lt_of_le hg hb2.size
  clear hb2 h0 h9 h13 hg
  go_wp2_with fail
  refine (HC.out w2 HB2.out).mono ?_
  rintro e w3 ⟨rfl, hb3⟩
  have HB3 := Lib.hid (bt HB2.out hb3)
  have j0 := (hb3.cell (p := ⟨g, 0, none⟩) hg').trans k0
  have j9 := (hb3.cell (p := ⟨g, 9, none⟩) hg').trans k9
  have j13 := (hb3.cell (p := ⟨g, 13, none⟩) hg').trans k13
  clear hb3 k0 k9 k13 hg'
  go_wp2
  go_ret
  exact ⟨rfl, HB3.out⟩
end Go.Proofs.YtolkfhiominjbaaGreatDoor
