/- The statement DeepTrees. No condition beyond what the theorems state. -/
import Derived.Test.YtnkodafhjcjpjaaDoorAwake
import Derived.Test.YtnkodafhjcjpjaaDoorLater
import Derived.Test.YtnkodafhjcjpjaaDoorSmalls
import Derived.Test.YtnkodafhjcjpjaaDoorRefs
import Derived.Test.YtnkodafhjcjpjaaDoorCopies
import Derived.Test.YtnkodafhjcjpjaaDoorTwice
import Derived.Test.YtnkodafhjcjpjaaDoorRegion
namespace Go.Proofs.YtnkodafhjcjpjaaDoor
open Go.RowKit Go.Lib
set_option maxRecDepth 100000
set_option maxHeartbeats 16000000
def lw0 (w : World) (k1 : Int) (n1 v1 : List UInt8) (A1 : Option Addr) (ac1 : Nat) (ps1 : List (List UInt8 × List UInt8)) (K1 : Option Addr) (kc1 : Nat) (ks1 : List Tr) (k2 : Int) (n2 v2 : List UInt8) (A2 : Option Addr) (ac2 : Nat) (ps2 : List (List UInt8 × List UInt8)) (K2 : Option Addr) (kc2 : Nat) (ks2 : List Tr) : World := (w.alloc (.cells #[.int .i64 k1, .string (ba' n1), .string (ba' v1), .slice A1 ps1.length ac1, .slice K1 ks1.length kc1] 26)).alloc (.cells #[.int .i64 k2, .string (ba' n2), .string (ba' v2), .slice A2 ps2.length ac2, .slice K2 ks2.length kc2] 26)
theorem lw0_size (w : World) (k1 : Int) (n1 v1 : List UInt8) (A1 : Option Addr) (ac1 : Nat) (ps1 : List (List UInt8 × List UInt8)) (K1 : Option Addr) (kc1 : Nat) (ks1 : List Tr) (k2 : Int) (n2 v2 : List UInt8) (A2 : Option Addr) (ac2 : Nat) (ps2 : List (List UInt8 × List UInt8)) (K2 : Option Addr) (kc2 : Nat) (ks2 : List Tr) : (lw0 w k1 n1 v1 A1 ac1 ps1 K1 kc1 ks1 k2 n2 v2 A2 ac2 ps2 K2 kc2 ks2).heap.size = w.heap.size + 2 := by simp [lw0]
theorem lw0_below (w : World) (k1 : Int) (n1 v1 : List UInt8) (A1 : Option Addr) (ac1 : Nat) (ps1 : List (List UInt8 × List UInt8)) (K1 : Option Addr) (kc1 : Nat) (ks1 : List Tr) (k2 : Int) (n2 v2 : List UInt8) (A2 : Option Addr) (ac2 : Nat) (ps2 : List (List UInt8 × List UInt8)) (K2 : Option Addr) (kc2 : Nat) (ks2 : List Tr) : Below w.heap.size w (lw0 w k1 n1 v1 A1 ac1 ps1 K1 kc1 ks1 k2 n2 v2 A2 ac2 ps2 K2 kc2 ks2) := by unfold lw0; exact ba (ba (Below.refl _ _))
theorem lw0_cells (w W : World) (k1 : Int) (n1 v1 : List UInt8) (A1 : Option Addr) (ac1 : Nat) (ps1 : List (List UInt8 × List UInt8)) (K1 : Option Addr) (kc1 : Nat) (ks1 : List Tr) (k2 : Int) (n2 v2 : List UInt8) (A2 : Option Addr) (ac2 : Nat) (ps2 : List (List UInt8 × List UInt8)) (K2 : Option Addr) (kc2 : Nat) (ks2 : List Tr) (hb : Below (lw0 w k1 n1 v1 A1 ac1 ps1 K1 kc1 ks1 k2 n2 v2 A2 ac2 ps2 K2 kc2 ks2).heap.size (lw0 w k1 n1 v1 A1 ac1 ps1 K1 kc1 ks1 k2 n2 v2 A2 ac2 ps2 K2 kc2 ks2) W) : W.cell? ⟨w.heap.size, 0, none⟩ = some (.int .i64 k1) ∧ W.cell? ⟨w.heap.size, 1, none⟩ = some (.string (ba' n1)) ∧ W.cell? ⟨w.heap.size, 2, none⟩ = some (.string (ba' v1)) ∧ W.cell? ⟨w.heap.size, 3, none⟩ = some (.slice A1 ps1.length ac1) ∧ W.cell? ⟨w.heap.size, 4, none⟩ = some (.slice K1 ks1.length kc1) ∧ W.cell? ⟨w.heap.size + 1, 0, none⟩ = some (.int .i64 k2) ∧ W.cell? ⟨w.heap.size + 1, 1, none⟩ = some (.string (ba' n2)) ∧ W.cell? ⟨w.heap.size + 1, 2, none⟩ = some (.string (ba' v2)) ∧ W.cell? ⟨w.heap.size + 1, 3, none⟩ = some (.slice A2 ps2.length ac2) ∧ W.cell? ⟨w.heap.size + 1, 4, none⟩ = some (.slice K2 ks2.length kc2) := by
  have hz := lw0_size w k1 n1 v1 A1 ac1 ps1 K1 kc1 ks1 k2 n2 v2 A2 ac2 ps2 K2 kc2 ks2
  have f := fun b o (hbb : b < (lw0 w k1 n1 v1 A1 ac1 ps1 K1 kc1 ks1 k2 n2 v2 A2 ac2 ps2 K2 kc2 ks2).heap.size) => hb.cell (p := ⟨b, o, none⟩) hbb
  have x1 : ∀ j u, ([.int .i64 k1, .string (ba' n1), .string (ba' v1), .slice A1 ps1.length ac1, .slice K1 ks1.length kc1] : List Value)[j]? = some u → (lw0 w k1 n1 v1 A1 ac1 ps1 K1 kc1 ks1 k2 n2 v2 A2 ac2 ps2 K2 kc2 ks2).cell? ⟨w.heap.size, j, none⟩ = some u := fun j u hu => by
    unfold lw0
    rw [World.cell?_alloc_lt _ _ _ (by simp)]
    exact row_new w _ 26 _ j u rfl hu
  have x2 : ∀ j u, ([.int .i64 k2, .string (ba' n2), .string (ba' v2), .slice A2 ps2.length ac2, .slice K2 ks2.length kc2] : List Value)[j]? = some u → (lw0 w k1 n1 v1 A1 ac1 ps1 K1 kc1 ks1 k2 n2 v2 A2 ac2 ps2 K2 kc2 ks2).cell? ⟨w.heap.size + 1, j, none⟩ = some u := fun j u hu => by
    unfold lw0
    exact row_new _ _ 26 _ j u (by simp) hu
  rw [hz] at f
  exact ⟨(f _ 0 (by omega)).trans (x1 0 _ rfl), (f _ 1 (by omega)).trans (x1 1 _ rfl), (f _ 2 (by omega)).trans (x1 2 _ rfl), (f _ 3 (by omega)).trans (x1 3 _ rfl), (f _ 4 (by omega)).trans (x1 4 _ rfl), (f _ 0 (by omega)).trans (x2 0 _ rfl), (f _ 1 (by omega)).trans (x2 1 _ rfl), (f _ 2 (by omega)).trans (x2 2 _ rfl), (f _ 3 (by omega)).trans (x2 3 _ rfl), (f _ 4 (by omega)).trans (x2 4 _ rfl)⟩
theorem refers {t u : Tr} {r : Bool} {w : World} (ht : t.In (fun b => b < w.heap.size) w) (hu : u.In (fun b => b < w.heap.size) w) (hft : t.pl.fit) (hfu : u.pl.fit) (hr : r = true ↔ canon t.pl = canon u.pl) :
    ∀ W, Below w.heap.size w W → Calls Tryd.prog 8 #[t.v, u.v] W fun e w' => e = .returned (.bool r) ∧ Below W.heap.size W w' := fun W hW => by
  refine (ref_any t u (fun b => b < w.heap.size) (fun b => b < w.heap.size) W (ht.below (fun _ h => h) hW) (hu.below (fun _ h => h) hW) (fun b hb => Nat.lt_of_lt_of_le hb hW.size) (fun b hb => Nat.lt_of_lt_of_le hb hW.size) hft hfu).mono ?_
  rintro e w' ⟨r', rfl, hr', hb⟩
  have : r' = r := by rw [Bool.eq_iff_iff, hr', hr]
  rw [this]
  exact ⟨rfl, hb⟩
theorem stays {t u : Tr} {w : World} (ht : t.In (fun b => b < w.heap.size) w) (hu : u.In (fun b => b < w.heap.size) w) (hp : t.pl = u.pl) (hft : t.pl.fit) :
    ∀ W, Below w.heap.size w W → Calls Tryd.prog 9 #[t.v, u.v] W fun e w' => e = .returned (.bool true) ∧ Below W.heap.size W w' := fun W hW =>
  same5_any t u (fun b => b < w.heap.size) (fun b => b < w.heap.size) W (ht.below (fun _ h => h) hW) (hu.below (fun _ h => h) hW) (fun _b hb => Nat.lt_of_lt_of_le hb hW.size) (fun _b hb => Nat.lt_of_lt_of_le hb hW.size) hp hft
theorem deeptrees_law (k1 : Int) (n1 v1 : List UInt8) (A1 : Option Addr) (ac1 : Nat) (ps1 : List (List UInt8 × List UInt8)) (K1 : Option Addr) (kc1 : Nat) (ks1 : List Tr) (k2 : Int) (n2 v2 : List UInt8) (A2 : Option Addr) (ac2 : Nat) (ps2 : List (List UInt8 × List UInt8)) (K2 : Option Addr) (kc2 : Nat) (ks2 : List Tr) (w : World) (in1 : (Tr.mk k1 n1 v1 A1 ac1 ps1 K1 kc1 ks1).In (fun b => b < w.heap.size) w) (le1 : (Tr.mk k1 n1 v1 A1 ac1 ps1 K1 kc1 ks1).pl.lens) (ca1 : (Tr.mk k1 n1 v1 A1 ac1 ps1 K1 kc1 ks1).Caps) (in2 : (Tr.mk k2 n2 v2 A2 ac2 ps2 K2 kc2 ks2).In (fun b => b < w.heap.size) w) (le2 : (Tr.mk k2 n2 v2 A2 ac2 ps2 K2 kc2 ks2).pl.lens) (ca2 : (Tr.mk k2 n2 v2 A2 ac2 ps2 K2 kc2 ks2).Caps) :
    Calls Tryd.prog 3 #[.agg #[.int .i64 k1, .string (ba' n1), .string (ba' v1), .slice A1 ps1.length ac1, .slice K1 ks1.length kc1], .agg #[.int .i64 k2, .string (ba' n2), .string (ba' v2), .slice A2 ps2.length ac2, .slice K2 ks2.length kc2]] w fun e w' => e = .returned (.bool true) ∧ Below w.heap.size w w' := by
  have HAW : Hid (∀ W : World, Calls Tryd.prog 4 #[] W fun e w' => e = .returned (.bool true) ∧ Below W.heap.size W w') := Lib.hid awake_any
  have HSM : Hid (∀ W : World, Below w.heap.size w W → Calls Tryd.prog 5 #[.slice (some ⟨W.heap.size, 0, none⟩) 2 2] (W.alloc (.cells #[.int .i64 k1, .string (ba' n1), .string (ba' v1), .slice A1 ps1.length ac1, .slice K1 ks1.length kc1, .int .i64 k2, .string (ba' n2), .string (ba' v2), .slice A2 ps2.length ac2, .slice K2 ks2.length kc2] 26)) fun e w' => Smalls [(Tr.mk k1 n1 v1 A1 ac1 ps1 K1 kc1 ks1), (Tr.mk k2 n2 v2 A2 ac2 ps2 K2 kc2 ks2)] (W.alloc (.cells #[.int .i64 k1, .string (ba' n1), .string (ba' v1), .slice A1 ps1.length ac1, .slice K1 ks1.length kc1, .int .i64 k2, .string (ba' n2), .string (ba' v2), .slice A2 ps2.length ac2, .slice K2 ks2.length kc2] 26)) e w') := Lib.hid fun W hW => by
    have hlt : ∀ b, b < w.heap.size → b < (W.alloc (.cells #[.int .i64 k1, .string (ba' n1), .string (ba' v1), .slice A1 ps1.length ac1, .slice K1 ks1.length kc1, .int .i64 k2, .string (ba' n2), .string (ba' v2), .slice A2 ps2.length ac2, .slice K2 ks2.length kc2] 26)).heap.size := fun b hb => by have := hW.size; simp; omega
    have hB : Below w.heap.size w (W.alloc (.cells #[.int .i64 k1, .string (ba' n1), .string (ba' v1), .slice A1 ps1.length ac1, .slice K1 ks1.length kc1, .int .i64 k2, .string (ba' n2), .string (ba' v2), .slice A2 ps2.length ac2, .slice K2 ks2.length kc2] 26)) := ba hW
    refine small_any (fun b => b < (W.alloc (.cells #[.int .i64 k1, .string (ba' n1), .string (ba' v1), .slice A1 ps1.length ac1, .slice K1 ks1.length kc1, .int .i64 k2, .string (ba' n2), .string (ba' v2), .slice A2 ps2.length ac2, .slice K2 ks2.length kc2] 26)).heap.size) (some ⟨W.heap.size, 0, none⟩) 2 2 [(Tr.mk k1 n1 v1 A1 ac1 ps1 K1 kc1 ks1), (Tr.mk k2 n2 v2 A2 ac2 ps2 K2 kc2 ks2)] _ (fun _ h => h) ⟨rfl, fun _ => ⟨_, rfl, by simp, fun j u hu => ?_⟩⟩ ?_ rfl (by omega) ?_
    · rw [addj]
      exact row_new W [.int .i64 k1, .string (ba' n1), .string (ba' v1), .slice A1 ps1.length ac1, .slice K1 ks1.length kc1, .int .i64 k2, .string (ba' n2), .string (ba' v2), .slice A2 ps2.length ac2, .slice K2 ks2.length kc2] 26 _ j u rfl hu
    · rw [InL, InL, InL]
      exact ⟨(in1.below (fun _ h => h) hB).keep hlt (fun _ _ => rfl), (in2.below (fun _ h => h) hB).keep hlt (fun _ _ => rfl), trivial⟩
    · intro t ht
      rcases List.mem_cons.1 ht with rfl | ht
      · exact le1
      rcases List.mem_cons.1 ht with rfl | ht
      · exact le2
      cases ht
  have HCC := Lib.hid (fun W hb => lw0_cells w W k1 n1 v1 A1 ac1 ps1 K1 kc1 ks1 k2 n2 v2 A2 ac2 ps2 K2 kc2 ks2 hb)
  have HIN := Lib.hid (And.intro in1 in2)
  have HLE := Lib.hid (And.intro le1 le2)
  have HCA := Lib.hid (And.intro ca1 ca2)
  have HZ := Lib.hid (lw0_size w k1 n1 v1 A1 ac1 ps1 K1 kc1 ks1 k2 n2 v2 A2 ac2 ps2 K2 kc2 ks2)
  have HB0 := Lib.hid (lw0_below w k1 n1 v1 A1 ac1 ps1 K1 kc1 ks1 k2 n2 v2 A2 ac2 ps2 K2 kc2 ks2)
  clear in1 in2 le1 le2 ca1 ca2
  go_enter Tryd.func3, Tryd.ntmps3
  go_wp2_with fail
  refine (HAW.out (lw0 w k1 n1 v1 A1 ac1 ps1 K1 kc1 ks1 k2 n2 v2 A2 ac2 ps2 K2 kc2 ks2)).mono ?_
  rintro e w1 ⟨rfl, hb1⟩
  have ⟨d10, d11, d12, d13, d14, d20, d21, d22, d23, d24⟩ := HCC.out w1 hb1
  have HB1 := Lib.hid hb1
  have z1b : w.heap.size + 1 < w1.heap.size := by have := hb1.size; rw [HZ.out] at this; omega
  have z1c : w.heap.size < w1.heap.size := by omega
  clear hb1
  go_wp2_with fail
  refine (HSM.out w1 (bt HB0.out HB1.out)).mono ?_
  rintro e w2 ⟨r, rfl, hr, hb2⟩
  have HR := Lib.hid hr
  have HB2 : Hid (Below (lw0 w k1 n1 v1 A1 ac1 ps1 K1 kc1 ks1 k2 n2 v2 A2 ac2 ps2 K2 kc2 ks2).heap.size (lw0 w k1 n1 v1 A1 ac1 ps1 K1 kc1 ks1 k2 n2 v2 A2 ac2 ps2 K2 kc2 ks2) w2) := Lib.hid (bt (ba HB1.out) hb2)
  have z2b : w.heap.size + 1 < w2.heap.size := by have := HB2.out.size; rw [HZ.out] at this; omega
  have z2c : w.heap.size < w2.heap.size := by omega
  clear hb2 hr d10 d11 d12 d13 d14 d20 d21 d22 d23 d24 z1b z1c
  cases r
  · go_wp2_with fail
    refine (HAW.out w2).mono ?_
    rintro e w3 ⟨rfl, hb3⟩
    have HB3 := Lib.hid (bt HB0.out (bt HB2.out hb3))
    clear hb3
    go_wp2
    go_ret
    exact ⟨rfl, HB3.out⟩
  · have ⟨hs1, hs2⟩ : (Tr.mk k1 n1 v1 A1 ac1 ps1 K1 kc1 ks1).pl.size ≤ 400 ∧ (Tr.mk k2 n2 v2 A2 ac2 ps2 K2 kc2 ks2).pl.size ≤ 400 := ⟨HR.out rfl _ (.head _), HR.out rfl _ (.tail _ (.head _))⟩
    have HF1 : Hid ((Tr.mk k1 n1 v1 A1 ac1 ps1 K1 kc1 ks1).pl.fit) := Lib.hid ⟨by omega, HLE.out.1⟩
    have HF2 : Hid ((Tr.mk k2 n2 v2 A2 ac2 ps2 K2 kc2 ks2).pl.fit) := Lib.hid ⟨by omega, HLE.out.2⟩
    obtain ⟨x, hx⟩ : ∃ x : Bool, x = true ↔ canon (Tr.mk k1 n1 v1 A1 ac1 ps1 K1 kc1 ks1).pl = canon (Tr.mk k2 n2 v2 A2 ac2 ps2 K2 kc2 ks2).pl := by
      rcases Classical.em (canon (Tr.mk k1 n1 v1 A1 ac1 ps1 K1 kc1 ks1).pl = canon (Tr.mk k2 n2 v2 A2 ac2 ps2 K2 kc2 ks2).pl) with h | h
      · exact ⟨true, ⟨fun _ => h, fun _ => rfl⟩⟩
      · exact ⟨false, ⟨(fun h' => by cases h'), fun h' => absurd h' h⟩⟩
    have HX := Lib.hid hx
    have HB := Lib.hid (bt HB0.out HB2.out)
    have HC2 : Hid (∀ W, Below w2.heap.size w2 W → W.cell? ⟨w.heap.size, 0, none⟩ = some (.int .i64 k1) ∧ W.cell? ⟨w.heap.size, 1, none⟩ = some (.string (ba' n1)) ∧ W.cell? ⟨w.heap.size, 2, none⟩ = some (.string (ba' v1)) ∧ W.cell? ⟨w.heap.size, 3, none⟩ = some (.slice A1 ps1.length ac1) ∧ W.cell? ⟨w.heap.size, 4, none⟩ = some (.slice K1 ks1.length kc1) ∧ W.cell? ⟨w.heap.size + 1, 0, none⟩ = some (.int .i64 k2) ∧ W.cell? ⟨w.heap.size + 1, 1, none⟩ = some (.string (ba' n2)) ∧ W.cell? ⟨w.heap.size + 1, 2, none⟩ = some (.string (ba' v2)) ∧ W.cell? ⟨w.heap.size + 1, 3, none⟩ = some (.slice A2 ps2.length ac2) ∧ W.cell? ⟨w.heap.size + 1, 4, none⟩ = some (.slice K2 ks2.length kc2)) := Lib.hid fun W hW => HCC.out W (bt HB2.out hW)
    have ⟨d10, d11, d12, d13, d14, d20, d21, d22, d23, d24⟩ := HC2.out w2 (Below.refl _ _)
    clear hs1 hs2 hx HAW HSM HR
    go_upto_region 3 with fail
    refine Rc_region w2 (Cx := fun x => x.pl = (Tr.mk k1 n1 v1 A1 ac1 ps1 K1 kc1 ks1).pl ∧ x.Caps) (Cy := fun x => x.pl = (Tr.mk k2 n2 v2 A2 ac2 ps2 K2 kc2 ks2).pl ∧ x.Caps) _ _ _ _ _ _ _ _ _ _ _ _ _ _ _ _ _ _ _ _ _ _ _ _ _ _ _ _ _ _ _ _ _ _ _ _ _ _ _ _ _ _ _ _ _ _ _ _ _ _ _ _ _ _ _ _ _ d10 d11 d12 d13 d14 d20 d21 d22 d23 d24 ?_ ?_ ?_
    · intro w3 hb3
      refine (copy_any (Tr.mk k1 n1 v1 A1 ac1 ps1 K1 kc1 ks1) (fun b => b < w.heap.size) w3 (HIN.out.1.below (fun _ h => h) (bt HB.out hb3)) (fun b hb => Nat.lt_of_lt_of_le hb (bt HB.out hb3).size) HF1.out).mono ?_
      rintro e w4 ⟨t', rfl, h1, h2, h3, _, h5⟩
      exact ⟨t', rfl, ⟨h1, h2⟩, h3, h5⟩
    · intro w3 hb3
      refine (copy_any (Tr.mk k2 n2 v2 A2 ac2 ps2 K2 kc2 ks2) (fun b => b < w.heap.size) w3 (HIN.out.2.below (fun _ h => h) (bt HB.out hb3)) (fun b hb => Nat.lt_of_lt_of_le hb (bt HB.out hb3).size) HF2.out).mono ?_
      rintro e w4 ⟨t', rfl, h1, h2, h3, _, h5⟩
      exact ⟨t', rfl, ⟨h1, h2⟩, h3, h5⟩
    clear d10 d11 d12 d13 d14 d20 d21 d22 d23 d24
    rintro p q gx gy w3 ⟨hpx, hcx⟩ ⟨hpy, hcy⟩ ix iy bx by' zgx zgy hb3
    have HBW := Lib.hid (bt HB.out hb3)
    have i1 : (Tr.mk k1 n1 v1 A1 ac1 ps1 K1 kc1 ks1).In (fun b => b < w3.heap.size) w3 := (HIN.out.1.below (fun _ h => h) HBW.out).keep (fun b hb => Nat.lt_of_lt_of_le hb HBW.out.size) (fun _ _ => rfl)
    have i2 : (Tr.mk k2 n2 v2 A2 ac2 ps2 K2 kc2 ks2).In (fun b => b < w3.heap.size) w3 := (HIN.out.2.below (fun _ h => h) HBW.out).keep (fun b hb => Nat.lt_of_lt_of_le hb HBW.out.size) (fun _ _ => rfl)
    have HXY := Lib.hid (asks (r := x) ix iy (by rw [hpx]; exact HF1.out) (by rw [hpy]; exact HF2.out) hcx hcy (by rw [hpx, hpy]; exact HX.out))
    have HAB := Lib.hid (refers (r := x) i1 i2 HF1.out HF2.out HX.out)
    have HXA := Lib.hid (stays ix i1 hpx (by rw [hpx]; exact HF1.out))
    have HYB := Lib.hid (stays iy i2 hpy (by rw [hpy]; exact HF2.out))
    have ⟨e10, e11, e12, e13, e14, e20, e21, e22, e23, e24⟩ := HC2.out w3 hb3
    clear i1 i2 hpx hpy hcx hcy ix iy
    obtain ⟨k3, n3, v3, A3, ac3, ps3, K3, kc3, ks3⟩ := p
    obtain ⟨k4, n4, v4, A4, ac4, ps4, K4, kc4, ks4⟩ := q
    simp only [Tr.v] at HXY HXA HYB ⊢
    have m0 := bx.cell 0; have m1 := bx.cell 1; have m2 := bx.cell 2; have m3 := bx.cell 3; have m4 := bx.cell 4
    have o0 := by'.cell 0; have o1 := by'.cell 1; have o2 := by'.cell 2; have o3 := by'.cell 3; have o4 := by'.cell 4
    simp only [Tr.cells, List.getElem?_toArray, List.getElem?_cons_zero, List.getElem?_cons_succ] at m0 m1 m2 m3 m4 o0 o1 o2 o3 o4
    clear bx by' zgx zgy hb3
    go_upto_region 4 with fail
    cases x
    · refine Rn_region _ _ _ _ _ _ _ _ _ _ _ _ _ _ _ _ _ _ _ _ _ _ _ _ _ _ _ _ _ _ _ _ _ _ _ _ _ _ _ _ _ _ _ _ _ _ _ _ _ _ _ _ _ _ _ _ _ _ _ _ _ _ _ _ _ _ _ _ _ _ _ _ _ _ w3 w3 _ (Below.refl _ _) e10 e11 e12 e13 e14 e20 e21 e22 e23 e24 m0 m1 m2 m3 m4 o0 o1 o2 o3 o4 HXY HAB HXA HYB ?_
      intro w4 _ hb4
      have HBE := Lib.hid (bt HBW.out hb4)
      go_wp2
      go_ret
      exact ⟨rfl, HBE.out⟩
    · refine Ry_region _ _ _ _ _ _ _ _ _ _ _ _ _ _ _ _ _ _ _ _ _ _ _ _ _ _ _ _ _ _ _ _ _ _ _ _ _ _ _ _ _ _ _ _ _ _ _ _ _ _ _ _ _ _ _ _ _ _ _ _ _ _ _ _ _ _ _ _ _ _ _ _ _ _ w3 w3 _ (Below.refl _ _) e10 e11 e12 e13 e14 e20 e21 e22 e23 e24 m0 m1 m2 m3 m4 o0 o1 o2 o3 o4 HXY HAB HXA HYB ?_
      intro w4 _ hb4
      have HBE := Lib.hid (bt HBW.out hb4)
      go_wp2
      go_ret
      exact ⟨rfl, HBE.out⟩
end Go.Proofs.YtnkodafhjcjpjaaDoor
