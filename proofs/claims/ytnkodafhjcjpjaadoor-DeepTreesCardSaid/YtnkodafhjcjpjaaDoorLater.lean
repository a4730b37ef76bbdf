/- Two trees asked in any later world. No condition beyond what the theorems state. -/
import Derived.Test.YtnkodafhjcjpjaaDoorDeep
import Derived.Test.YtnkodafhjcjpjaaDoorCopies
import Derived.Test.YtnkodafhjcjpjaaDoorSmalls
namespace Go.Proofs.YtnkodafhjcjpjaaDoor
open Go.RowKit Go.Lib
set_option maxRecDepth 100000
set_option maxHeartbeats 8000000
/-- The comment that is put beside the kids. -/
def cMore : Tr := .mk 5 [] [109, 111, 114, 101] none 0 [] none 0 []
theorem more_in {H : Nat} {k : Int} {n v : List UInt8} {A : Option Addr} {ac : Nat} {ps : List (List UInt8 × List UInt8)} {K : Option Addr} {kc : Nat} {ks : List Tr} {w1 w2 : World} {o1 o2 : Obj} {A5 : Option Addr} {c5 : Nat} {u : Value}
    (hk : (Tr.mk k n v A ac ps K kc ks).KidsOwn H w1) (hg : ((w1.alloc o1).alloc o2).grownBy w2 (Value.slice K ks.length kc).ownBlock)
    (hown : w2.ownsRow H 26 5 (.slice A5 (ks.length + 1) c5) (ks.length + 1) (rowT ks ++ cMore.cells)) (hat : (Value.slice A5 (ks.length + 1) c5).ownBlock = (Value.slice K ks.length kc).ownBlock ∨ (Value.slice A5 (ks.length + 1) c5).ownBlock = some ((w1.alloc o1).alloc o2).heap.size) :
    (Tr.mk k n v A ac ps A5 c5 (ks ++ [cMore])).In (fun b => b < (w2.setCell ⟨w1.heap.size, 4, none⟩ u).heap.size) (w2.setCell ⟨w1.heap.size, 4, none⟩ u) := by
  rw [Tr.KidsOwn] at hk
  obtain ⟨ho, hI, hR⟩ := hk
  have hz : ((w1.alloc o1).alloc o2).heap.size = w1.heap.size + 2 := by simp
  have hz2 := hg.size
  rw [hz] at hat hz2
  have hs : (w2.setCell ⟨w1.heap.size, 4, none⟩ u).heap.size = w2.heap.size := by simp
  have hcell : ∀ p : Addr, p.block < w1.heap.size → (Value.slice K ks.length kc).ownBlock ≠ some p.block → (w2.setCell ⟨w1.heap.size, 4, none⟩ u).cell? p = w1.cell? p := fun p hp hne =>
    (World.cell?_setCell_other w2 _ p u (fun e => by subst e; simp at hp)).trans ((World.cell?_of_block (hg.block p.block (by omega) (fun h => hne h.symm))).trans ((World.cell?_alloc_lt (w1.alloc o1) o2 p (by simp; omega)).trans (World.cell?_alloc_lt w1 o1 p hp)))
  rw [Tr.In]
  refine ⟨hR.keep (fun b h => by rw [hs]; have := h.2.1; omega) (fun p h => hcell p h.2.1 h.2.2), ?_, inL_iff.2 fun x hx => ?_⟩
  · obtain ⟨A6, c6, e6, _, hrd⟩ := own_rd hown
    cases e6
    rw [rowT_snoc, List.length_append]
    refine RdP.keep hrd (fun b h => ?_) (fun p h => ?_)
    · rw [hs]; exact (own_lt hown h).2
    · refine World.cell?_setCell_other w2 _ p u (fun e => ?_)
      subst e
      rcases hat with e | e
      · rw [e] at h
        have := (own_lt ho h).2
        simp at this
      · rw [e] at h
        have := Option.some.inj h
        simp at this
  · rcases List.mem_append.1 hx with hx | hx
    · exact (inL_iff.1 hI x hx).keep (fun b h => by rw [hs]; have := h.2.1; omega) (fun p h => hcell p h.2.1 h.2.2)
    · obtain rfl : x = cMore := by simpa using hx
      unfold cMore; rw [Tr.In]
      exact ⟨⟨by simp [rowP], fun h => absurd h (Nat.lt_irrefl _)⟩, ⟨by simp [rowT], fun h => absurd h (Nat.lt_irrefl _)⟩, by simp [InL]⟩
theorem more_fit {k : Int} {n v : List UInt8} {A A' : Option Addr} {ac c' : Nat} {ps : List (List UInt8 × List UInt8)} {K : Option Addr} {kc : Nat} {ks : List Tr} (h : (Tr.mk k n v A ac ps K kc ks).pl.fit) (hs : (Tr.mk k n v A ac ps K kc ks).pl.size ≤ 400) : (Tr.mk k n v A ac ps A' c' (ks ++ [cMore])).pl.fit := by
  obtain ⟨_, h2⟩ := h
  rw [Tr.pl, PT.size] at hs
  rw [Tr.pl, PT.lens] at h2
  have hl := sizeL_len (plL ks)
  have e : plL (ks ++ [cMore]) = plL ks ++ [cMore.pl] := by rw [plL_map, plL_map, List.map_append]; rfl
  have hc : cMore.pl.size = 1 := rfl
  refine ⟨?_, ?_⟩
  · rw [Tr.pl, PT.size, e, sizeL_app]
    show 1 + ps.length + (sizeL (plL ks) + sizeL [cMore.pl]) ≤ 1048576
    rw [sizeL, hc, sizeL]
    omega
  · rw [Tr.pl, PT.lens, e]
    refine ⟨h2.1, h2.2.1, h2.2.2.1, ?_, h2.2.2.2.2.1, lensL_iff.2 fun t ht => ?_⟩
    · rw [List.length_append]; simp only [List.length_cons, List.length_nil]; unfold maxLen; omega
    · rcases List.mem_append.1 ht with ht | ht
      · exact lensL_iff.1 h2.2.2.2.2.2 t ht
      · obtain rfl : t = cMore.pl := by simpa using ht
        refine lens_of_bulk _ ?_
        simp [cMore, Tr.pl, PT.bulk, bulkP, bulkL, plL]
theorem capsL_of : ∀ {L : List Tr}, (∀ t ∈ L, t.Caps) → CapsL L
  | [], _ => trivial
  | t :: _ts, h => ⟨h t (.head _), capsL_of fun x hx => h x (.tail _ hx)⟩
theorem more_caps {k : Int} {n v : List UInt8} {A A' : Option Addr} {ac c' : Nat} {ps : List (List UInt8 × List UInt8)} {K : Option Addr} {kc : Nat} {ks : List Tr} (h : (Tr.mk k n v A ac ps K kc ks).Caps) (h1 : ks.length + 1 ≤ c') (h2 : c' ≤ maxLen) : (Tr.mk k n v A ac ps A' c' (ks ++ [cMore])).Caps := by
  rw [Tr.Caps] at h
  rw [Tr.Caps, List.length_append]
  exact ⟨h1, h2, capsL_snoc h.2.2 ⟨Nat.le_refl _, Nat.zero_le _, trivial⟩⟩
theorem more_canon {k : Int} {n v : List UInt8} {A A' : Option Addr} {ac c' : Nat} {ps : List (List UInt8 × List UInt8)} {K : Option Addr} {kc : Nat} {ks : List Tr} : canon (Tr.mk k n v A ac ps A' c' (ks ++ [cMore])).pl = canon (Tr.mk k n v A ac ps K kc ks).pl := by
  have e : plL (ks ++ [cMore]) = plL ks ++ [cMore.pl] := by rw [plL_map, plL_map, List.map_append]; rfl
  rw [Tr.pl, Tr.pl, e]
  exact canon_more _ _ _ _ _ _ rfl
theorem asks {t u : Tr} {r : Bool} {w : World} (ht : t.In (fun b => b < w.heap.size) w) (hu : u.In (fun b => b < w.heap.size) w) (hft : t.pl.fit) (hfu : u.pl.fit) (hct : t.Caps) (hcu : u.Caps) (hr : r = true ↔ canon t.pl = canon u.pl) :
    ∀ W, Below w.heap.size w W → Calls Tryd.prog 7 #[t.v, u.v] W fun e w' => e = .returned (.bool r) ∧ Below W.heap.size W w' := fun W hW => by
  refine (trees_any t u (fun b => b < w.heap.size) W (ht.below (fun _ h => h) hW) (hu.below (fun _ h => h) hW) (fun b hb => Nat.lt_of_lt_of_le hb hW.size) hft hfu hct hcu).mono ?_
  rintro e w' ⟨r', rfl, hr', hb⟩
  have : r' = r := by
    rw [Bool.eq_iff_iff, hr', hr]
  rw [this]
  exact ⟨rfl, hb⟩
end Go.Proofs.YtnkodafhjcjpjaaDoor
