/- The statement DeepSame. No condition beyond what the theorems state. -/
import Derived.Test.YtlihkeefgbnblaaDoorDeep
import Derived.Test.YtlihkeefgbnblaaDoorCopies
import Derived.Test.YtlihkeefgbnblaaDoorSmalls
import Derived.Test.YtlihkeefgbnblaaDoorAwake
import Derived.Test.YtlihkeefgbnblaaDoorRegion
import Derived.Deep.DeepCutAuto
namespace Go.Proofs.YtlihkeefgbnblaaDoor
open Go.RowKit Go.Lib
set_option maxRecDepth 100000
set_option maxHeartbeats 8000000
/-- The comment that is put beside the kids. -/
def cMore : Tr := .mk 5 [] [109, 111, 114, 101] none 0 [] none 0 []
theorem more_in {H : Nat} {k : Int} {n v : List UInt8} {A : Option Addr} {ac : Nat} {ps : List (List UInt8 × List UInt8)} {K : Option Addr} {kc : Nat} {ks : List Tr} {w1 w2 : World} {o1 o2 : Obj} {A5 : Option Addr} {c5 : Nat} {u : Value}
    (hk : (Tr.mk k n v A ac ps K kc ks).KidsOwn H w1) (hg : ((w1.alloc o1).alloc o2).grownBy w2 (Value.slice K ks.length kc).ownBlock)
    (hown : w2.ownsRow H 26 5 (.slice A5 (ks.length + 1) c5) (ks.length + 1) (rowT ks ++ cMore.cells)) (hat : (Value.slice A5 (ks.length + 1) c5).ownBlock = (Value.slice K ks.length kc).ownBlock ∨ (Value.slice A5 (ks.length + 1) c5).ownBlock = some ((w1.alloc o1).alloc o2).heap.size) :
    (Tr.mk k n v A ac ps A5 c5 (ks ++ [cMore])).In (fun b => b < (w2.setCell ⟨w1.heap.size, 4, none⟩ u).heap.size) (w2.setCell ⟨w1.heap.size, 4, none⟩ u) := by
  rw [Tr.KidsOwn] at hk
  obtain ⟨ho, hI, hR⟩ := hk
  have hz : ((w1.alloc o1).alloc o2).heap.size = w1.heap.size + 2 := by simp
  have hz2 := hg.size
  rw [hz] at hat hz2
  have hs : (w2.setCell ⟨w1.heap.size, 4, none⟩ u).heap.size = w2.heap.size := by simp
  have hcell : ∀ p : Addr, p.block < w1.heap.size → (Value.slice K ks.length kc).ownBlock ≠ some p.block → (w2.setCell ⟨w1.heap.size, 4, none⟩ u).cell? p = w1.cell? p := fun p hp hne =>
    (World.cell?_setCell_other w2 _ p u (fun e => by subst e; simp at hp)).trans ((World.cell?_of_block (hg.block p.block (by omega) (fun h => hne h.symm))).trans ((World.cell?_alloc_lt (w1.alloc o1) o2 p (by simp; omega)).trans (World.cell?_alloc_lt w1 o1 p hp)))
  rw [Tr.In]
  refine ⟨hR.keep (fun b h => by rw [hs]; have := h.2.1; omega) (fun p h => hcell p h.2.1 h.2.2), ?_, inL_iff.2 fun x hx => ?_⟩
  · obtain ⟨A6, c6, e6, _, hrd⟩ := own_rd hown
    cases e6
    rw [rowT_snoc, List.length_append]
    refine RdP.keep hrd (fun b h => ?_) (fun p h => ?_)
    · rw [hs]; exact (own_lt hown h).2
    · refine World.cell?_setCell_other w2 _ p u (fun e => ?_)
      subst e
      rcases hat with e | e
      · rw [e] at h
        have := (own_lt ho h).2
        simp at this
      · rw [e] at h
        have := Option.some.inj h
        simp at this
  · rcases List.mem_append.1 hx with hx | hx
    · exact (inL_iff.1 hI x hx).keep (fun b h => by rw [hs]; have := h.2.1; omega) (fun p h => hcell p h.2.1 h.2.2)
    · obtain rfl : x = cMore := by simpa using hx
      unfold cMore; rw [Tr.In]
      exact ⟨⟨by simp [rowP], fun h => absurd h (Nat.lt_irrefl _)⟩, ⟨by simp [rowT], fun h => absurd h (Nat.lt_irrefl _)⟩, by simp [InL]⟩
theorem more_fit {k : Int} {n v : List UInt8} {A A' : Option Addr} {ac c' : Nat} {ps : List (List UInt8 × List UInt8)} {K : Option Addr} {kc : Nat} {ks : List Tr} (h : (Tr.mk k n v A ac ps K kc ks).pl.fit) (hs : (Tr.mk k n v A ac ps K kc ks).pl.size ≤ 400) : (Tr.mk k n v A ac ps A' c' (ks ++ [cMore])).pl.fit := by
  obtain ⟨_, h2⟩ := h
  rw [Tr.pl, PT.size] at hs
  rw [Tr.pl, PT.lens] at h2
  have hl := sizeL_len (plL ks)
  have e : plL (ks ++ [cMore]) = plL ks ++ [cMore.pl] := by rw [plL_map, plL_map, List.map_append]; rfl
  have hc : cMore.pl.size = 1 := rfl
  refine ⟨?_, ?_⟩
  · rw [Tr.pl, PT.size, e, sizeL_app]
    show 1 + ps.length + (sizeL (plL ks) + sizeL [cMore.pl]) ≤ 1048576
    rw [sizeL, hc, sizeL]
    omega
  · rw [Tr.pl, PT.lens, e]
    refine ⟨h2.1, h2.2.1, h2.2.2.1, ?_, h2.2.2.2.2.1, lensL_iff.2 fun t ht => ?_⟩
    · rw [List.length_append]; simp only [List.length_cons, List.length_nil]; unfold maxLen; omega
    · rcases List.mem_append.1 ht with ht | ht
      · exact lensL_iff.1 h2.2.2.2.2.2 t ht
      · obtain rfl : t = cMore.pl := by simpa using ht
        refine lens_of_bulk _ ?_
        simp [cMore, Tr.pl, PT.bulk, bulkP, bulkL, plL]
theorem capsL_of : ∀ {L : List Tr}, (∀ t ∈ L, t.Caps) → CapsL L
  | [], _ => trivial
  | t :: _ts, h => ⟨h t (.head _), capsL_of fun x hx => h x (.tail _ hx)⟩
theorem more_caps {k : Int} {n v : List UInt8} {A A' : Option Addr} {ac c' : Nat} {ps : List (List UInt8 × List UInt8)} {K : Option Addr} {kc : Nat} {ks : List Tr} (h : (Tr.mk k n v A ac ps K kc ks).Caps) (h1 : ks.length + 1 ≤ c') (h2 : c' ≤ maxLen) : (Tr.mk k n v A ac ps A' c' (ks ++ [cMore])).Caps := by
  rw [Tr.Caps] at h
  rw [Tr.Caps, List.length_append]
  exact ⟨h1, h2, capsL_snoc h.2.2 ⟨Nat.le_refl _, Nat.zero_le _, trivial⟩⟩
theorem more_canon {k : Int} {n v : List UInt8} {A A' : Option Addr} {ac c' : Nat} {ps : List (List UInt8 × List UInt8)} {K : Option Addr} {kc : Nat} {ks : List Tr} : canon (Tr.mk k n v A ac ps A' c' (ks ++ [cMore])).pl = canon (Tr.mk k n v A ac ps K kc ks).pl := by
  have e : plL (ks ++ [cMore]) = plL ks ++ [cMore.pl] := by rw [plL_map, plL_map, List.map_append]; rfl
  rw [Tr.pl, Tr.pl, e]
  exact canon_more _ _ _ _ _ _ rfl
theorem asks {t u : Tr} {r : Bool} {w : World} (ht : t.In (fun b => b < w.heap.size) w) (hu : u.In (fun b => b < w.heap.size) w) (hft : t.pl.fit) (hfu : u.pl.fit) (hct : t.Caps) (hcu : u.Caps) (hr : r = true ↔ canon t.pl = canon u.pl) :
    ∀ W, Below w.heap.size w W → Calls Tryd.prog 6 #[t.v, u.v] W fun e w' => e = .returned (.bool r) ∧ Below W.heap.size W w' := fun W hW => by
  refine (trees_any t u (fun b => b < w.heap.size) W (ht.below (fun _ h => h) hW) (hu.below (fun _ h => h) hW) (fun b hb => Nat.lt_of_lt_of_le hb hW.size) hft hfu hct hcu).mono ?_
  rintro e w' ⟨r', rfl, hr', hb⟩
  have : r' = r := by
    rw [Bool.eq_iff_iff, hr', hr]
  rw [this]
  exact ⟨rfl, hb⟩
end Go.Proofs.YtlihkeefgbnblaaDoor
namespace Go.Proofs.YtlihkeefgbnblaaDoor
open Go.RowKit Go.Lib
set_option maxRecDepth 100000
set_option maxHeartbeats 16000000
/-- The world with the three trees in their boxes. -/
def lw0 (w : World) (k1 : Int) (n1 v1 : List UInt8) (A1 : Option Addr) (ac1 : Nat) (ps1 : List (List UInt8 × List UInt8)) (K1 : Option Addr) (kc1 : Nat) (ks1 : List Tr) (k2 : Int) (n2 v2 : List UInt8) (A2 : Option Addr) (ac2 : Nat) (ps2 : List (List UInt8 × List UInt8)) (K2 : Option Addr) (kc2 : Nat) (ks2 : List Tr) (k3 : Int) (n3 v3 : List UInt8) (A3 : Option Addr) (ac3 : Nat) (ps3 : List (List UInt8 × List UInt8)) (K3 : Option Addr) (kc3 : Nat) (ks3 : List Tr) : World := ((w.alloc (.cells #[.int .i64 k1, .string (ba' n1), .string (ba' v1), .slice A1 ps1.length ac1, .slice K1 ks1.length kc1] 26)).alloc (.cells #[.int .i64 k2, .string (ba' n2), .string (ba' v2), .slice A2 ps2.length ac2, .slice K2 ks2.length kc2] 26)).alloc (.cells #[.int .i64 k3, .string (ba' n3), .string (ba' v3), .slice A3 ps3.length ac3, .slice K3 ks3.length kc3] 26)
theorem lw0_size (w : World) (k1 : Int) (n1 v1 : List UInt8) (A1 : Option Addr) (ac1 : Nat) (ps1 : List (List UInt8 × List UInt8)) (K1 : Option Addr) (kc1 : Nat) (ks1 : List Tr) (k2 : Int) (n2 v2 : List UInt8) (A2 : Option Addr) (ac2 : Nat) (ps2 : List (List UInt8 × List UInt8)) (K2 : Option Addr) (kc2 : Nat) (ks2 : List Tr) (k3 : Int) (n3 v3 : List UInt8) (A3 : Option Addr) (ac3 : Nat) (ps3 : List (List UInt8 × List UInt8)) (K3 : Option Addr) (kc3 : Nat) (ks3 : List Tr) : (lw0 w k1 n1 v1 A1 ac1 ps1 K1 kc1 ks1 k2 n2 v2 A2 ac2 ps2 K2 kc2 ks2 k3 n3 v3 A3 ac3 ps3 K3 kc3 ks3).heap.size = w.heap.size + 3 := by simp [lw0]
theorem lw0_below (w : World) (k1 : Int) (n1 v1 : List UInt8) (A1 : Option Addr) (ac1 : Nat) (ps1 : List (List UInt8 × List UInt8)) (K1 : Option Addr) (kc1 : Nat) (ks1 : List Tr) (k2 : Int) (n2 v2 : List UInt8) (A2 : Option Addr) (ac2 : Nat) (ps2 : List (List UInt8 × List UInt8)) (K2 : Option Addr) (kc2 : Nat) (ks2 : List Tr) (k3 : Int) (n3 v3 : List UInt8) (A3 : Option Addr) (ac3 : Nat) (ps3 : List (List UInt8 × List UInt8)) (K3 : Option Addr) (kc3 : Nat) (ks3 : List Tr) : Below w.heap.size w (lw0 w k1 n1 v1 A1 ac1 ps1 K1 kc1 ks1 k2 n2 v2 A2 ac2 ps2 K2 kc2 ks2 k3 n3 v3 A3 ac3 ps3 K3 kc3 ks3) := by unfold lw0; exact ba (ba (ba (Below.refl _ _)))
theorem lw0_cells (w W : World) (k1 : Int) (n1 v1 : List UInt8) (A1 : Option Addr) (ac1 : Nat) (ps1 : List (List UInt8 × List UInt8)) (K1 : Option Addr) (kc1 : Nat) (ks1 : List Tr) (k2 : Int) (n2 v2 : List UInt8) (A2 : Option Addr) (ac2 : Nat) (ps2 : List (List UInt8 × List UInt8)) (K2 : Option Addr) (kc2 : Nat) (ks2 : List Tr) (k3 : Int) (n3 v3 : List UInt8) (A3 : Option Addr) (ac3 : Nat) (ps3 : List (List UInt8 × List UInt8)) (K3 : Option Addr) (kc3 : Nat) (ks3 : List Tr) (hb : Below (lw0 w k1 n1 v1 A1 ac1 ps1 K1 kc1 ks1 k2 n2 v2 A2 ac2 ps2 K2 kc2 ks2 k3 n3 v3 A3 ac3 ps3 K3 kc3 ks3).heap.size (lw0 w k1 n1 v1 A1 ac1 ps1 K1 kc1 ks1 k2 n2 v2 A2 ac2 ps2 K2 kc2 ks2 k3 n3 v3 A3 ac3 ps3 K3 kc3 ks3) W) : W.cell? ⟨w.heap.size, 0, none⟩ = some (.int .i64 k1) ∧ W.cell? ⟨w.heap.size, 1, none⟩ = some (.string (ba' n1)) ∧ W.cell? ⟨w.heap.size, 2, none⟩ = some (.string (ba' v1)) ∧ W.cell? ⟨w.heap.size, 3, none⟩ = some (.slice A1 ps1.length ac1) ∧ W.cell? ⟨w.heap.size, 4, none⟩ = some (.slice K1 ks1.length kc1) ∧ W.cell? ⟨w.heap.size + 1, 0, none⟩ = some (.int .i64 k2) ∧ W.cell? ⟨w.heap.size + 1, 1, none⟩ = some (.string (ba' n2)) ∧ W.cell? ⟨w.heap.size + 1, 2, none⟩ = some (.string (ba' v2)) ∧ W.cell? ⟨w.heap.size + 1, 3, none⟩ = some (.slice A2 ps2.length ac2) ∧ W.cell? ⟨w.heap.size + 1, 4, none⟩ = some (.slice K2 ks2.length kc2) ∧ W.cell? ⟨w.heap.size + 1 + 1, 0, none⟩ = some (.int .i64 k3) ∧ W.cell? ⟨w.heap.size + 1 + 1, 1, none⟩ = some (.string (ba' n3)) ∧ W.cell? ⟨w.heap.size + 1 + 1, 2, none⟩ = some (.string (ba' v3)) ∧ W.cell? ⟨w.heap.size + 1 + 1, 3, none⟩ = some (.slice A3 ps3.length ac3) ∧ W.cell? ⟨w.heap.size + 1 + 1, 4, none⟩ = some (.slice K3 ks3.length kc3) := by
  have hz := lw0_size w k1 n1 v1 A1 ac1 ps1 K1 kc1 ks1 k2 n2 v2 A2 ac2 ps2 K2 kc2 ks2 k3 n3 v3 A3 ac3 ps3 K3 kc3 ks3
  have f := fun b o (hbb : b < (lw0 w k1 n1 v1 A1 ac1 ps1 K1 kc1 ks1 k2 n2 v2 A2 ac2 ps2 K2 kc2 ks2 k3 n3 v3 A3 ac3 ps3 K3 kc3 ks3).heap.size) => hb.cell (p := ⟨b, o, none⟩) hbb
  have x1 : ∀ j u, ([.int .i64 k1, .string (ba' n1), .string (ba' v1), .slice A1 ps1.length ac1, .slice K1 ks1.length kc1] : List Value)[j]? = some u → (lw0 w k1 n1 v1 A1 ac1 ps1 K1 kc1 ks1 k2 n2 v2 A2 ac2 ps2 K2 kc2 ks2 k3 n3 v3 A3 ac3 ps3 K3 kc3 ks3).cell? ⟨w.heap.size, j, none⟩ = some u := fun j u hu => by
    unfold lw0
    rw [World.cell?_alloc_lt _ _ _ (by simp; omega), World.cell?_alloc_lt _ _ _ (by simp)]
    exact row_new w _ 26 _ j u rfl hu
  have x2 : ∀ j u, ([.int .i64 k2, .string (ba' n2), .string (ba' v2), .slice A2 ps2.length ac2, .slice K2 ks2.length kc2] : List Value)[j]? = some u → (lw0 w k1 n1 v1 A1 ac1 ps1 K1 kc1 ks1 k2 n2 v2 A2 ac2 ps2 K2 kc2 ks2 k3 n3 v3 A3 ac3 ps3 K3 kc3 ks3).cell? ⟨w.heap.size + 1, j, none⟩ = some u := fun j u hu => by
    unfold lw0
    rw [World.cell?_alloc_lt _ _ _ (by simp)]
    exact row_new _ _ 26 _ j u (by simp) hu
  have x3 : ∀ j u, ([.int .i64 k3, .string (ba' n3), .string (ba' v3), .slice A3 ps3.length ac3, .slice K3 ks3.length kc3] : List Value)[j]? = some u → (lw0 w k1 n1 v1 A1 ac1 ps1 K1 kc1 ks1 k2 n2 v2 A2 ac2 ps2 K2 kc2 ks2 k3 n3 v3 A3 ac3 ps3 K3 kc3 ks3).cell? ⟨w.heap.size + 1 + 1, j, none⟩ = some u := fun j u hu => by
    unfold lw0
    exact row_new _ _ 26 _ j u (by simp) hu
  rw [hz] at f
  exact ⟨(f _ 0 (by omega)).trans (x1 0 _ rfl), (f _ 1 (by omega)).trans (x1 1 _ rfl), (f _ 2 (by omega)).trans (x1 2 _ rfl), (f _ 3 (by omega)).trans (x1 3 _ rfl), (f _ 4 (by omega)).trans (x1 4 _ rfl), (f _ 0 (by omega)).trans (x2 0 _ rfl), (f _ 1 (by omega)).trans (x2 1 _ rfl), (f _ 2 (by omega)).trans (x2 2 _ rfl), (f _ 3 (by omega)).trans (x2 3 _ rfl), (f _ 4 (by omega)).trans (x2 4 _ rfl), (f _ 0 (by omega)).trans (x3 0 _ rfl), (f _ 1 (by omega)).trans (x3 1 _ rfl), (f _ 2 (by omega)).trans (x3 2 _ rfl), (f _ 3 (by omega)).trans (x3 3 _ rfl), (f _ 4 (by omega)).trans (x3 4 _ rfl)⟩
theorem deepsame_law (k1 : Int) (n1 v1 : List UInt8) (A1 : Option Addr) (ac1 : Nat) (ps1 : List (List UInt8 × List UInt8)) (K1 : Option Addr) (kc1 : Nat) (ks1 : List Tr) (k2 : Int) (n2 v2 : List UInt8) (A2 : Option Addr) (ac2 : Nat) (ps2 : List (List UInt8 × List UInt8)) (K2 : Option Addr) (kc2 : Nat) (ks2 : List Tr) (k3 : Int) (n3 v3 : List UInt8) (A3 : Option Addr) (ac3 : Nat) (ps3 : List (List UInt8 × List UInt8)) (K3 : Option Addr) (kc3 : Nat) (ks3 : List Tr) (w : World) (in1 : (Tr.mk k1 n1 v1 A1 ac1 ps1 K1 kc1 ks1).In (fun b => b < w.heap.size) w) (le1 : (Tr.mk k1 n1 v1 A1 ac1 ps1 K1 kc1 ks1).pl.lens) (ca1 : (Tr.mk k1 n1 v1 A1 ac1 ps1 K1 kc1 ks1).Caps) (in2 : (Tr.mk k2 n2 v2 A2 ac2 ps2 K2 kc2 ks2).In (fun b => b < w.heap.size) w) (le2 : (Tr.mk k2 n2 v2 A2 ac2 ps2 K2 kc2 ks2).pl.lens) (ca2 : (Tr.mk k2 n2 v2 A2 ac2 ps2 K2 kc2 ks2).Caps) (in3 : (Tr.mk k3 n3 v3 A3 ac3 ps3 K3 kc3 ks3).In (fun b => b < w.heap.size) w) (le3 : (Tr.mk k3 n3 v3 A3 ac3 ps3 K3 kc3 ks3).pl.lens) (ca3 : (Tr.mk k3 n3 v3 A3 ac3 ps3 K3 kc3 ks3).Caps) :
    Calls Tryd.prog 3 #[.agg #[.int .i64 k1, .string (ba' n1), .string (ba' v1), .slice A1 ps1.length ac1, .slice K1 ks1.length kc1], .agg #[.int .i64 k2, .string (ba' n2), .string (ba' v2), .slice A2 ps2.length ac2, .slice K2 ks2.length kc2], .agg #[.int .i64 k3, .string (ba' n3), .string (ba' v3), .slice A3 ps3.length ac3, .slice K3 ks3.length kc3]] w fun e w' => e = .returned (.bool true) ∧ Below w.heap.size w w' := by
  obtain ⟨i5, hi5, hz50, hz51, hz52⟩ := info_parts tree_info
  have HAW : Hid (∀ W : World, Calls Tryd.prog 4 #[] W fun e w' => e = .returned (.bool true) ∧ Below W.heap.size W w') := Lib.hid awake_any
  have HSM : Hid (∀ W : World, Below w.heap.size w W → Calls Tryd.prog 5 #[.slice (some ⟨W.heap.size, 0, none⟩) 3 3] (W.alloc (.cells #[.int .i64 k1, .string (ba' n1), .string (ba' v1), .slice A1 ps1.length ac1, .slice K1 ks1.length kc1, .int .i64 k2, .string (ba' n2), .string (ba' v2), .slice A2 ps2.length ac2, .slice K2 ks2.length kc2, .int .i64 k3, .string (ba' n3), .string (ba' v3), .slice A3 ps3.length ac3, .slice K3 ks3.length kc3] 26)) fun e w' => Smalls [(Tr.mk k1 n1 v1 A1 ac1 ps1 K1 kc1 ks1), (Tr.mk k2 n2 v2 A2 ac2 ps2 K2 kc2 ks2), (Tr.mk k3 n3 v3 A3 ac3 ps3 K3 kc3 ks3)] (W.alloc (.cells #[.int .i64 k1, .string (ba' n1), .string (ba' v1), .slice A1 ps1.length ac1, .slice K1 ks1.length kc1, .int .i64 k2, .string (ba' n2), .string (ba' v2), .slice A2 ps2.length ac2, .slice K2 ks2.length kc2, .int .i64 k3, .string (ba' n3), .string (ba' v3), .slice A3 ps3.length ac3, .slice K3 ks3.length kc3] 26)) e w') := Lib.hid fun W hW => by
    have hlt : ∀ b, b < w.heap.size → b < (W.alloc (.cells #[.int .i64 k1, .string (ba' n1), .string (ba' v1), .slice A1 ps1.length ac1, .slice K1 ks1.length kc1, .int .i64 k2, .string (ba' n2), .string (ba' v2), .slice A2 ps2.length ac2, .slice K2 ks2.length kc2, .int .i64 k3, .string (ba' n3), .string (ba' v3), .slice A3 ps3.length ac3, .slice K3 ks3.length kc3] 26)).heap.size := fun b hb => by have := hW.size; simp; omega
    have hB : Below w.heap.size w (W.alloc (.cells #[.int .i64 k1, .string (ba' n1), .string (ba' v1), .slice A1 ps1.length ac1, .slice K1 ks1.length kc1, .int .i64 k2, .string (ba' n2), .string (ba' v2), .slice A2 ps2.length ac2, .slice K2 ks2.length kc2, .int .i64 k3, .string (ba' n3), .string (ba' v3), .slice A3 ps3.length ac3, .slice K3 ks3.length kc3] 26)) := ba hW
    refine small_any (fun b => b < (W.alloc (.cells #[.int .i64 k1, .string (ba' n1), .string (ba' v1), .slice A1 ps1.length ac1, .slice K1 ks1.length kc1, .int .i64 k2, .string (ba' n2), .string (ba' v2), .slice A2 ps2.length ac2, .slice K2 ks2.length kc2, .int .i64 k3, .string (ba' n3), .string (ba' v3), .slice A3 ps3.length ac3, .slice K3 ks3.length kc3] 26)).heap.size) (some ⟨W.heap.size, 0, none⟩) 3 3 [(Tr.mk k1 n1 v1 A1 ac1 ps1 K1 kc1 ks1), (Tr.mk k2 n2 v2 A2 ac2 ps2 K2 kc2 ks2), (Tr.mk k3 n3 v3 A3 ac3 ps3 K3 kc3 ks3)] _ (fun _ h => h) ⟨rfl, fun _ => ⟨_, rfl, by simp, fun j u hu => ?_⟩⟩ ?_ rfl (by omega) ?_
    · rw [addj]
      exact row_new W [.int .i64 k1, .string (ba' n1), .string (ba' v1), .slice A1 ps1.length ac1, .slice K1 ks1.length kc1, .int .i64 k2, .string (ba' n2), .string (ba' v2), .slice A2 ps2.length ac2, .slice K2 ks2.length kc2, .int .i64 k3, .string (ba' n3), .string (ba' v3), .slice A3 ps3.length ac3, .slice K3 ks3.length kc3] 26 _ j u rfl hu
    · rw [InL, InL, InL, InL]
      exact ⟨(in1.below (fun _ h => h) hB).keep hlt (fun _ _ => rfl), (in2.below (fun _ h => h) hB).keep hlt (fun _ _ => rfl), (in3.below (fun _ h => h) hB).keep hlt (fun _ _ => rfl), trivial⟩
    · intro t ht
      rcases List.mem_cons.1 ht with rfl | ht
      · exact le1
      rcases List.mem_cons.1 ht with rfl | ht
      · exact le2
      rcases List.mem_cons.1 ht with rfl | ht
      · exact le3
      cases ht
  have HCC := Lib.hid (fun W hb => lw0_cells w W k1 n1 v1 A1 ac1 ps1 K1 kc1 ks1 k2 n2 v2 A2 ac2 ps2 K2 kc2 ks2 k3 n3 v3 A3 ac3 ps3 K3 kc3 ks3 hb)
  have HIN := Lib.hid (And.intro in1 (And.intro in2 in3))
  have HLE := Lib.hid (And.intro le1 (And.intro le2 le3))
  have HCA := Lib.hid (And.intro ca1 (And.intro ca2 ca3))
  have HZ := Lib.hid (lw0_size w k1 n1 v1 A1 ac1 ps1 K1 kc1 ks1 k2 n2 v2 A2 ac2 ps2 K2 kc2 ks2 k3 n3 v3 A3 ac3 ps3 K3 kc3 ks3)
  have HB0 := Lib.hid (lw0_below w k1 n1 v1 A1 ac1 ps1 K1 kc1 ks1 k2 n2 v2 A2 ac2 ps2 K2 kc2 ks2 k3 n3 v3 A3 ac3 ps3 K3 kc3 ks3)
  clear in1 in2 in3 le1 le2 le3 ca1 ca2 ca3
  go_enter Tryd.func3, Tryd.ntmps3
  go_wp2_with fail
  refine (HAW.out (lw0 w k1 n1 v1 A1 ac1 ps1 K1 kc1 ks1 k2 n2 v2 A2 ac2 ps2 K2 kc2 ks2 k3 n3 v3 A3 ac3 ps3 K3 kc3 ks3)).mono ?_
  rintro e w1 ⟨rfl, hb1⟩
  have ⟨d10, d11, d12, d13, d14, d20, d21, d22, d23, d24, d30, d31, d32, d33, d34⟩ := HCC.out w1 hb1
  have HB1 := Lib.hid hb1
  have z1 : w.heap.size + 1 + 1 < w1.heap.size := by have := hb1.size; rw [HZ.out] at this; omega
  have z1b : w.heap.size + 1 < w1.heap.size := by omega
  have z1c : w.heap.size < w1.heap.size := by omega
  clear hb1
  go_wp2_with fail
  refine (HSM.out w1 (bt HB0.out HB1.out)).mono ?_
  rintro e w2 ⟨r, rfl, hr, hb2⟩
  have HR := Lib.hid hr
  have HB2 : Hid (Below (lw0 w k1 n1 v1 A1 ac1 ps1 K1 kc1 ks1 k2 n2 v2 A2 ac2 ps2 K2 kc2 ks2 k3 n3 v3 A3 ac3 ps3 K3 kc3 ks3).heap.size (lw0 w k1 n1 v1 A1 ac1 ps1 K1 kc1 ks1 k2 n2 v2 A2 ac2 ps2 K2 kc2 ks2 k3 n3 v3 A3 ac3 ps3 K3 kc3 ks3) w2) := Lib.hid (bt (ba HB1.out) hb2)
  have z2 : w.heap.size + 1 + 1 < w2.heap.size := by have := HB2.out.size; rw [HZ.out] at this; omega
  have z2b : w.heap.size + 1 < w2.heap.size := by omega
  have z2c : w.heap.size < w2.heap.size := by omega
  clear hb2 hr d10 d11 d12 d13 d14 d20 d21 d22 d23 d24 d30 d31 d32 d33 d34 z1 z1b z1c
  cases r
  · go_wp2_with fail
    refine (HAW.out w2).mono ?_
    rintro e w3 ⟨rfl, hb3⟩
    have HB3 := Lib.hid (bt HB0.out (bt HB2.out hb3))
    clear hb3
    go_wp2
    go_ret
    exact ⟨rfl, HB3.out⟩
  · have ⟨hs1, hs2, hs3⟩ : (Tr.mk k1 n1 v1 A1 ac1 ps1 K1 kc1 ks1).pl.size ≤ 400 ∧ (Tr.mk k2 n2 v2 A2 ac2 ps2 K2 kc2 ks2).pl.size ≤ 400 ∧ (Tr.mk k3 n3 v3 A3 ac3 ps3 K3 kc3 ks3).pl.size ≤ 400 := ⟨HR.out rfl _ (.head _), HR.out rfl _ (.tail _ (.head _)), HR.out rfl _ (.tail _ (.tail _ (.head _)))⟩
    have hf1 : (Tr.mk k1 n1 v1 A1 ac1 ps1 K1 kc1 ks1).pl.fit := ⟨by omega, HLE.out.1⟩
    have hf2 : (Tr.mk k2 n2 v2 A2 ac2 ps2 K2 kc2 ks2).pl.fit := ⟨by omega, HLE.out.2.1⟩
    have hf3 : (Tr.mk k3 n3 v3 A3 ac3 ps3 K3 kc3 ks3).pl.fit := ⟨by omega, HLE.out.2.2⟩
    obtain ⟨x, hx⟩ : ∃ x : Bool, x = true ↔ canon (Tr.mk k1 n1 v1 A1 ac1 ps1 K1 kc1 ks1).pl = canon (Tr.mk k2 n2 v2 A2 ac2 ps2 K2 kc2 ks2).pl := by
      rcases Classical.em (canon (Tr.mk k1 n1 v1 A1 ac1 ps1 K1 kc1 ks1).pl = canon (Tr.mk k2 n2 v2 A2 ac2 ps2 K2 kc2 ks2).pl) with h | h
      · exact ⟨true, ⟨fun _ => h, fun _ => rfl⟩⟩
      · exact ⟨false, ⟨(fun h' => by cases h'), fun h' => absurd h' h⟩⟩
    obtain ⟨y, hy⟩ : ∃ x : Bool, x = true ↔ canon (Tr.mk k2 n2 v2 A2 ac2 ps2 K2 kc2 ks2).pl = canon (Tr.mk k3 n3 v3 A3 ac3 ps3 K3 kc3 ks3).pl := by
      rcases Classical.em (canon (Tr.mk k2 n2 v2 A2 ac2 ps2 K2 kc2 ks2).pl = canon (Tr.mk k3 n3 v3 A3 ac3 ps3 K3 kc3 ks3).pl) with h | h
      · exact ⟨true, ⟨fun _ => h, fun _ => rfl⟩⟩
      · exact ⟨false, ⟨(fun h' => by cases h'), fun h' => absurd h' h⟩⟩
    obtain ⟨z, hz⟩ : ∃ x : Bool, x = true ↔ canon (Tr.mk k1 n1 v1 A1 ac1 ps1 K1 kc1 ks1).pl = canon (Tr.mk k3 n3 v3 A3 ac3 ps3 K3 kc3 ks3).pl := by
      rcases Classical.em (canon (Tr.mk k1 n1 v1 A1 ac1 ps1 K1 kc1 ks1).pl = canon (Tr.mk k3 n3 v3 A3 ac3 ps3 K3 kc3 ks3).pl) with h | h
      · exact ⟨true, ⟨fun _ => h, fun _ => rfl⟩⟩
      · exact ⟨false, ⟨(fun h' => by cases h'), fun h' => absurd h' h⟩⟩
    have HXYZ : Hid (x = true → y = true → z = true) := Lib.hid fun h1 h2 => hz.2 ((hx.1 h1).trans (hy.1 h2))
    have HB := Lib.hid (bt HB0.out HB2.out)
    have HAA : Hid (∀ W, Below w2.heap.size w2 W → Calls Tryd.prog 6 #[.agg #[.int .i64 k1, .string (ba' n1), .string (ba' v1), .slice A1 ps1.length ac1, .slice K1 ks1.length kc1], .agg #[.int .i64 k1, .string (ba' n1), .string (ba' v1), .slice A1 ps1.length ac1, .slice K1 ks1.length kc1]] W fun e w' => e = .returned (.bool true) ∧ Below W.heap.size W w') := Lib.hid fun W hW => asks HIN.out.1 HIN.out.1 hf1 hf1 HCA.out.1 HCA.out.1 ⟨fun _ => rfl, fun _ => rfl⟩ W (bt HB.out hW)
    have HAB : Hid (∀ W, Below w2.heap.size w2 W → Calls Tryd.prog 6 #[.agg #[.int .i64 k1, .string (ba' n1), .string (ba' v1), .slice A1 ps1.length ac1, .slice K1 ks1.length kc1], .agg #[.int .i64 k2, .string (ba' n2), .string (ba' v2), .slice A2 ps2.length ac2, .slice K2 ks2.length kc2]] W fun e w' => e = .returned (.bool x) ∧ Below W.heap.size W w') := Lib.hid fun W hW => asks HIN.out.1 HIN.out.2.1 hf1 hf2 HCA.out.1 HCA.out.2.1 hx W (bt HB.out hW)
    have HBA : Hid (∀ W, Below w2.heap.size w2 W → Calls Tryd.prog 6 #[.agg #[.int .i64 k2, .string (ba' n2), .string (ba' v2), .slice A2 ps2.length ac2, .slice K2 ks2.length kc2], .agg #[.int .i64 k1, .string (ba' n1), .string (ba' v1), .slice A1 ps1.length ac1, .slice K1 ks1.length kc1]] W fun e w' => e = .returned (.bool x) ∧ Below W.heap.size W w') := Lib.hid fun W hW => asks HIN.out.2.1 HIN.out.1 hf2 hf1 HCA.out.2.1 HCA.out.1 (hx.trans eq_comm) W (bt HB.out hW)
    have HBC : Hid (∀ W, Below w2.heap.size w2 W → Calls Tryd.prog 6 #[.agg #[.int .i64 k2, .string (ba' n2), .string (ba' v2), .slice A2 ps2.length ac2, .slice K2 ks2.length kc2], .agg #[.int .i64 k3, .string (ba' n3), .string (ba' v3), .slice A3 ps3.length ac3, .slice K3 ks3.length kc3]] W fun e w' => e = .returned (.bool y) ∧ Below W.heap.size W w') := Lib.hid fun W hW => asks HIN.out.2.1 HIN.out.2.2 hf2 hf3 HCA.out.2.1 HCA.out.2.2 hy W (bt HB.out hW)
    have HAC : Hid (∀ W, Below w2.heap.size w2 W → Calls Tryd.prog 6 #[.agg #[.int .i64 k1, .string (ba' n1), .string (ba' v1), .slice A1 ps1.length ac1, .slice K1 ks1.length kc1], .agg #[.int .i64 k3, .string (ba' n3), .string (ba' v3), .slice A3 ps3.length ac3, .slice K3 ks3.length kc3]] W fun e w' => e = .returned (.bool z) ∧ Below W.heap.size W w') := Lib.hid fun W hW => asks HIN.out.1 HIN.out.2.2 hf1 hf3 HCA.out.1 HCA.out.2.2 hz W (bt HB.out hW)
    have HS1 := Lib.hid hs1
    have HF1 := Lib.hid hf1
    clear hx hy hz hf1 hf2 hf3 hs1 hs2 hs3 HAW HSM HR
    have HC2 : Hid (∀ W, Below w2.heap.size w2 W → W.cell? ⟨w.heap.size, 0, none⟩ = some (.int .i64 k1) ∧ W.cell? ⟨w.heap.size, 1, none⟩ = some (.string (ba' n1)) ∧ W.cell? ⟨w.heap.size, 2, none⟩ = some (.string (ba' v1)) ∧ W.cell? ⟨w.heap.size, 3, none⟩ = some (.slice A1 ps1.length ac1) ∧ W.cell? ⟨w.heap.size, 4, none⟩ = some (.slice K1 ks1.length kc1) ∧ W.cell? ⟨w.heap.size + 1, 0, none⟩ = some (.int .i64 k2) ∧ W.cell? ⟨w.heap.size + 1, 1, none⟩ = some (.string (ba' n2)) ∧ W.cell? ⟨w.heap.size + 1, 2, none⟩ = some (.string (ba' v2)) ∧ W.cell? ⟨w.heap.size + 1, 3, none⟩ = some (.slice A2 ps2.length ac2) ∧ W.cell? ⟨w.heap.size + 1, 4, none⟩ = some (.slice K2 ks2.length kc2) ∧ W.cell? ⟨w.heap.size + 1 + 1, 0, none⟩ = some (.int .i64 k3) ∧ W.cell? ⟨w.heap.size + 1 + 1, 1, none⟩ = some (.string (ba' n3)) ∧ W.cell? ⟨w.heap.size + 1 + 1, 2, none⟩ = some (.string (ba' v3)) ∧ W.cell? ⟨w.heap.size + 1 + 1, 3, none⟩ = some (.slice A3 ps3.length ac3) ∧ W.cell? ⟨w.heap.size + 1 + 1, 4, none⟩ = some (.slice K3 ks3.length kc3)) := Lib.hid fun W hW => HCC.out W (bt HB2.out hW)
    have ⟨d10, d11, d12, d13, d14, d20, d21, d22, d23, d24, d30, d31, d32, d33, d34⟩ := HC2.out w2 (Below.refl _ _)
    go_upto_region 3 with fail
    go_cut [47] (fun s47 wx => s47 = .bool false ∧ Below w2.heap.size w2 wx)
    case first =>
      rename_i J K' hJ hK'
      have hcase : x = false ∨ (x = true ∧ y = false) ∨ (x = true ∧ y = true ∧ z = true) := by
        cases x
        · exact .inl rfl
        · cases y
          · exact .inr (.inl ⟨rfl, rfl⟩)
          · exact .inr (.inr ⟨rfl, rfl, HXYZ.out rfl rfl⟩)
      clear HXYZ
      rcases hcase with rfl | ⟨rfl, rfl⟩ | ⟨rfl, rfl, rfl⟩
      · refine Ra_region _ _ _ _ _ _ _ _ _ _ _ _ _ _ _ _ _ _ _ _ _ _ _ _ _ _ _ _ _ _ _ _ _ _ _ _ _ _ _ _ _ _ _ _ _ _ _ _ _ _ _ _ _ _ _ _ _ _ _ _ _ _ _ _ _ _ _ _ _ _ _ _ _ _ _ _ _ _ _ _ _ _ _ _ _ _ _ _ _ _ _ _ _ _ _ _ w2 w2 _ (Below.refl _ _) d10 d11 d12 d13 d14 d20 d21 d22 d23 d24 d30 d31 d32 d33 d34 HAA HAB HBA ?_
        intro w' _ hb
        refine hK' _ _ (Met.intro (hJ _ _ ?_))
        (repeat apply Exists.intro)
        refine ⟨?_, rfl⟩
        exact ⟨rfl, hb⟩
      · refine Rb_region _ _ _ _ _ _ _ _ _ _ _ _ _ _ _ _ _ _ _ _ _ _ _ _ _ _ _ _ _ _ _ _ _ _ _ _ _ _ _ _ _ _ _ _ _ _ _ _ _ _ _ _ _ _ _ _ _ _ _ _ _ _ _ _ _ _ _ _ _ _ _ _ _ _ _ _ _ _ _ _ _ _ _ _ _ _ _ _ _ _ _ _ _ _ _ _ w2 w2 _ (Below.refl _ _) d10 d11 d12 d13 d14 d20 d21 d22 d23 d24 d30 d31 d32 d33 d34 HAA HAB HBA HBC ?_
        intro w' _ hb
        refine hK' _ _ (Met.intro (hJ _ _ ?_))
        (repeat apply Exists.intro)
        refine ⟨?_, rfl⟩
        exact ⟨rfl, hb⟩
      · refine Rc_region _ _ _ _ _ _ _ _ _ _ _ _ _ _ _ _ _ _ _ _ _ _ _ _ _ _ _ _ _ _ _ _ _ _ _ _ _ _ _ _ _ _ _ _ _ _ _ _ _ _ _ _ _ _ _ _ _ _ _ _ _ _ _ _ _ _ _ _ _ _ _ _ _ _ _ _ _ _ _ _ _ _ _ _ _ _ _ _ _ _ _ _ _ _ _ _ w2 w2 _ (Below.refl _ _) d10 d11 d12 d13 d14 d20 d21 d22 d23 d24 d30 d31 d32 d33 d34 HAA HAB HBA HBC HAC ?_
        intro w' _ hb
        refine hK' _ _ (Met.intro (hJ _ _ ?_))
        (repeat apply Exists.intro)
        refine ⟨?_, rfl⟩
        exact ⟨rfl, hb⟩
    case rest =>
      obtain ⟨rfl, hbc⟩ := hcut
      have HWC := Lib.hid hbc
      have HBW := Lib.hid (bt HB.out hbc)
      have ⟨e10, e11, e12, e13, e14, e20, e21, e22, e23, e24, e30, e31, e32, e33, e34⟩ := HC2.out wc hbc
      have zc := hbc.size
      have zc0 : w.heap.size + 1 + 1 < wc.heap.size := by omega
      have zc1 : w.heap.size + 1 < wc.heap.size := by omega
      have zc2 : w.heap.size < wc.heap.size := by omega
      have HCP := Lib.hid (copy_any (Tr.mk k1 n1 v1 A1 ac1 ps1 K1 kc1 ks1) (fun b => b < w.heap.size) wc (HIN.out.1.below (fun _ h => h) HBW.out) (fun b hb => by omega) HF1.out)
      clear hbc d10 d11 d12 d13 d14 d20 d21 d22 d23 d24 d30 d31 d32 d33 d34 HAA HAB HBA HBC HAC z2 z2b z2c zc
      go_wp2_with fail
      refine HCP.out.mono ?_
      rintro e w5 ⟨t', rfl, hpl, hcap, hin, hko, hb5⟩
      have HPL := Lib.hid hpl
      have HCAP := Lib.hid hcap
      have HKO := Lib.hid hko
      have HB5 := Lib.hid hb5
      have ⟨g10, g11, g12, g13, g14, g20, g21, g22, g23, g24, g30, g31, g32, g33, g34⟩ := HC2.out w5 (bt HWC.out hb5)
      have HLT : Hid (∀ b, (Value.slice (none) 0 0).ownBlock = some b → b < w5.heap.size) := Lib.hid (fun b h => by cases h)
      clear hpl hcap hin hko e10 e11 e12 e13 e14 e20 e21 e22 e23 e24 e30 e31 e32 e33 e34 HCP
      obtain ⟨k', n', v', A', ac', ps', K', kc', ks'⟩ := t'
      have z5 := hb5.size
      have y0 : w.heap.size + 1 + 1 < w5.heap.size := by omega
      have y1 : w.heap.size + 1 < w5.heap.size := by omega
      have y2 : w.heap.size < w5.heap.size := by omega
      have HOW := Lib.hid HKO.out.1
      have hkl : ks'.length ≤ 1048576 := by
        have := congrArg PT.size HPL.out
        have h1 := HF1.out.1
        rw [← HPL.out, Tr.pl, PT.size] at h1
        have h3 := sizeL_len (plL ks')
        rw [plL_len] at h3
        omega
      simp only [Tr.v]
      clear hb5 z5 zc0 zc1 zc2
      go_wp2_with (at_builtin
                   go_must (refine wpList_append_any _ rfl (.tmp 51) (.tmp 53) _ rfl wc.heap.size 26 i5 _ 5 88 Tryd.underlying24 hi5 hz50 hz51 hz52 rfl (by omega) (.slice K' ks'.length kc') ks'.length (rowT ks') rfl ((HOW.out.alloc _).alloc _) (w5.heap.size + 2) (some ⟨w5.heap.size + 1, 0, none⟩) 1 1 cMore.cells rfl ⟨rfl, fun _ => ⟨_, rfl, by simp, ?_⟩⟩ (cells_one _) (by simp only [maxLen]; omega) (by omega) (by simp; have := HB5.out.size; omega) ?_))
      · exact five_at _ _ (by simp) _ _ _ _ _ _
      intro v6 w6 hown6 hg6 hat6
      obtain ⟨A6, c6, rfl⟩ := own_slice hown6
      have f6 := fun o => World.cell?_of_block (a := ⟨w5.heap.size, o, none⟩) (hg6.block w5.heap.size (by simp; omega) (fun h => by have := (own_lt HOW.out h.symm).2; omega))
      have fz6 := World.frozen?_of_block (a := ⟨w5.heap.size, 4, none⟩) (hg6.block w5.heap.size (by simp; omega) (fun h => by have := (own_lt HOW.out h.symm).2; omega))
      have m0 : w6.cell? ⟨w5.heap.size, 0, none⟩ = some (.int .i64 k') := (f6 0).trans (by simp)
      have m1 : w6.cell? ⟨w5.heap.size, 1, none⟩ = some (.string (ba' n')) := (f6 1).trans (by simp)
      have m2 : w6.cell? ⟨w5.heap.size, 2, none⟩ = some (.string (ba' v')) := (f6 2).trans (by simp)
      have m3 : w6.cell? ⟨w5.heap.size, 3, none⟩ = some (.slice A' ps'.length ac') := (f6 3).trans (by simp)
      have m4 : w6.cell? ⟨w5.heap.size, 4, none⟩ = some (.slice K' ks'.length kc') := (f6 4).trans (by simp)
      have mf : w6.frozen? ⟨w5.heap.size, 4, none⟩ = false := fz6.trans (by simp)
      have z6 : w5.heap.size < w6.heap.size := by have := hg6.size; simp at this; omega
      have hbw6 : Below w2.heap.size w2 w6 := Below.grown (ba (ba (bt HWC.out HB5.out))) hg6 (by have := HWC.out.size; have := HB5.out.size; simp; omega) (fun k hk => by have := (own_lt HOW.out hk).1; have := HWC.out.size; omega)
      have ⟨h10, h11, h12, h13, h14, h20, h21, h22, h23, h24, h30, h31, h32, h33, h34⟩ := HC2.out w6 hbw6
      have HB6 := Lib.hid hbw6
      have y3 : w.heap.size + 1 + 1 < w6.heap.size := by omega
      have y4 : w.heap.size + 1 < w6.heap.size := by omega
      have y5 : w.heap.size < w6.heap.size := by omega
      have HZ6 := Lib.hid (show w2.heap.size ≤ w5.heap.size by have := HWC.out.size; have := HB5.out.size; omega)
      have HMI := Lib.hid (fun u => more_in (u := u) HKO.out hg6 hown6 (by simpa using hat6))
      have HMC : Hid (Tr.mk k' n' v' A' ac' ps' A6 c6 (ks' ++ [cMore])).Caps := Lib.hid (more_caps HCAP.out (own_cap hown6).1 (own_cap hown6).2)
      have HMF : Hid (Tr.mk k' n' v' A' ac' ps' A6 c6 (ks' ++ [cMore])).pl.fit := Lib.hid (more_fit (k := k') (A := A') (ac := ac') (K := K') (kc := kc') (by rw [HPL.out]; exact HF1.out) (by rw [HPL.out]; exact HS1.out))
      have HME : Hid (canon (Tr.mk k1 n1 v1 A1 ac1 ps1 K1 kc1 ks1).pl = canon (Tr.mk k' n' v' A' ac' ps' A6 c6 (ks' ++ [cMore])).pl) := Lib.hid (by rw [← HPL.out]; exact more_canon.symm)
      have HFIN : Hid (∀ u, Calls Tryd.prog 6 #[.agg #[.int .i64 k1, .string (ba' n1), .string (ba' v1), .slice A1 ps1.length ac1, .slice K1 ks1.length kc1], .agg #[.int .i64 k', .string (ba' n'), .string (ba' v'), .slice A' ps'.length ac', .slice A6 (ks'.length + 1) c6]] (w6.setCell ⟨w5.heap.size, 4, none⟩ u) fun e w' => e = .returned (.bool true) ∧ Below w.heap.size w w') := Lib.hid fun u => by
        have hb : Below w.heap.size w (w6.setCell ⟨w5.heap.size, 4, none⟩ u) := (bt HB.out HB6.out).setCell (p := ⟨w5.heap.size, 4, none⟩) (by have := HZ6.out; have := HB.out.size; show w.heap.size ≤ w5.heap.size; omega) _
        have := asks (r := true) (((HIN.out.1.below (fun _ h => h) hb).keep (fun b h => Nat.lt_of_lt_of_le h hb.size) (fun _ _ => rfl))) (HMI.out u) HF1.out HMF.out HCA.out.1 HMC.out ⟨fun _ => HME.out, fun _ => rfl⟩ _ (Below.refl _ _)
        simp only [Tr.v, List.length_append, List.length_cons, List.length_nil] at this
        exact this.mono fun e w' ⟨h1, h2⟩ => ⟨h1, bt hb h2⟩
      have HBE := Lib.hid (bt HB.out HB6.out)
      have hZE : w.heap.size ≤ w5.heap.size := by omega
      clear hown6 hg6 hat6 f6 fz6 hbw6 g10 g11 g12 g13 g14 g20 g21 g22 g23 g24 g30 g31 g32 g33 g34
      by_cases h2 : k1 = 2
      · subst h2
        go_wp2_with fail
        refine (HFIN.out _).mono ?_
        rintro e w7 ⟨rfl, hb7⟩
        have HB7 := Lib.hid hb7
        clear hb7
        go_wp2
        go_ret
        exact ⟨rfl, HB7.out⟩
      · have q2 : (k1 != 2) = true := by simpa using h2
        by_cases h1 : k1 = 1
        · subst h1
          go_wp2_with fail
          refine (HFIN.out _).mono ?_
          rintro e w7 ⟨rfl, hb7⟩
          have HB7 := Lib.hid hb7
          clear hb7
          go_wp2
          go_ret
          exact ⟨rfl, HB7.out⟩
        · have q1 : (k1 != 1) = true := by simpa using h1
          clear h1 h2
          go_wp2
          go_ret
          exact ⟨rfl, HBE.out.setCell (p := ⟨w5.heap.size, 4, none⟩) hZE _⟩
end Go.Proofs.YtlihkeefgbnblaaDoor
