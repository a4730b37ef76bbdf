/- The reference tells whether a test takes a node. No condition beyond what the theorems state. -/
import Derived.Test.YtcmlfkoeajpliaaDoorRefWalk
import Derived.Test.YtcmlfkoeajpliaaDoorAxTakes
import Derived.Test.YtcmlfkoeajpliaaDoorLwAxWalks
namespace Go.Proofs.YtcmlfkoeajpliaaDoor
open Go.RowKit Go.Lib
set_option maxRecDepth 100000
set_option maxHeartbeats 8000000
/-- The list of nodes in memory, with the whole of their trees' cells. -/
def ListFull (w : World) (Al : Option Addr) (L : List En) : Prop :=
  ∀ i x, L[i]? = some x → ∃ (ad : Addr) (v : List UInt8) (A K : Option Addr) (np ac nk kc : Nat), Al = some ad ∧ ad.block < w.heap.size ∧ w.cell? (ad.add (i * 6)) = some (.int .i64 x.k) ∧ w.cell? ⟨(ad.add (i * 6)).block, (ad.add (i * 6)).off + 1, none⟩ = some (.string (ba' x.n)) ∧ w.cell? ⟨(ad.add (i * 6)).block, (ad.add (i * 6)).off + 2, none⟩ = some (.string (ba' v)) ∧ w.cell? ⟨(ad.add (i * 6)).block, (ad.add (i * 6)).off + 3, none⟩ = some (.slice A np ac) ∧ w.cell? ⟨(ad.add (i * 6)).block, (ad.add (i * 6)).off + 4, none⟩ = some (.slice K nk kc)
theorem ListFull.below {w w' : World} {Al : Option Addr} {L : List En} (h : ListFull w Al L) (hb : Below w.heap.size w w') : ListFull w' Al L := fun i x hx => by
  obtain ⟨ad, v, A, K, np, ac, nk, kc, e, hl, h0, h1, h2, h3, h4⟩ := h i x hx
  have hbl : (ad.add (i * 6)).block < w.heap.size := by rw [block_of_add]; exact hl
  have go : ∀ o, (⟨(ad.add (i * 6)).block, o, none⟩ : Addr).block < w.heap.size := fun _ => hbl
  exact ⟨ad, v, A, K, np, ac, nk, kc, e, Nat.lt_of_lt_of_le hl hb.size, (hb.cell hbl).trans h0, (hb.cell (go _)).trans h1, (hb.cell (go _)).trans h2, (hb.cell (go _)).trans h3, (hb.cell (go _)).trans h4⟩
theorem listFull_of {w : World} {base n c : Nat} {Al : Option Addr} {us : List Tr} (h : w.ownsRow base 83 6 (.slice Al n c) n (rowN (nodesL us 0 0))) : ListFull w Al (layL (plL us) 0 0) := by
  intro i x hx
  have hp : ((nodesL us 0 0).map prjN)[i]? = some (prjE x) := by rw [prj_nodesL, List.getElem?_map, hx]; rfl
  rw [List.getElem?_map] at hp
  obtain ⟨y, hy, e⟩ := Option.map_eq_some_iff.1 hp
  rcases h.2 with ⟨h0, h1⟩ | ⟨g, cap, cur, h0, hb, hh, hc, hm, hs, ht⟩
  · have hlen := h.1
    subst h1
    have : nodesL us 0 0 ≠ [] := fun e => by rw [e] at hy; simp at hy
    exfalso
    cases hq : nodesL us 0 0 with
    | nil => exact this hq
    | cons a M =>
      rw [hq] at hlen
      have : (rowN (a :: M)).length = (ndC a).length + (rowN M).length := by show (ndC a ++ rowN M).length = _; rw [List.length_append]
      rw [ndC_len] at this
      omega
  · injection h0 with e1 e2 e3
    subst e1
    subst e3
    have hcell : ∀ o u, (ndC y)[o]? = some u → o < 6 → w.cell? ⟨g, i * 6 + o, none⟩ = some u := by
      intro o u hu ho
      have h1 := rowN_at (nodesL us 0 0) i y o u hy hu ho
      rw [← ht, List.getElem?_take] at h1
      split at h1
      · unfold World.cell?
        rw [hh]
        simpa using h1
      · cases h1
    obtain ⟨⟨k, n', v, A, ac, ps, K, kc, ks⟩, p⟩ := y
    have e' : (k, n', p) = (x.k, x.n, x.p) := e
    injection e' with ek e''
    injection e'' with en ep
    subst ek en ep
    refine ⟨⟨g, 0, none⟩, v, A, K, ps.length, ac, ks.length, kc, rfl, (Array.getElem?_eq_some_iff.1 hh).1, ?_, ?_, ?_, ?_, ?_⟩
    · rw [addj]; exact hcell 0 _ rfl (by omega)
    · rw [addj]; exact hcell 1 _ rfl (by omega)
    · rw [addj]; exact hcell 2 _ rfl (by omega)
    · rw [addj]; exact hcell 3 _ rfl (by omega)
    · rw [addj]; exact hcell 4 _ rfl (by omega)
theorem tref_0 (ad : Addr) (N cl i : Nat) (a k : Int) (nm v tn : List UInt8) (A K : Option Addr) (np ac nk kc : Nat) (w : World) (d0 : w.cell? (ad.add (i * 6)) = some (.int .i64 k)) (d1 : w.cell? ⟨(ad.add (i * 6)).block, (ad.add (i * 6)).off + 1, none⟩ = some (.string (ba' nm))) (d2 : w.cell? ⟨(ad.add (i * 6)).block, (ad.add (i * 6)).off + 2, none⟩ = some (.string (ba' v))) (d3 : w.cell? ⟨(ad.add (i * 6)).block, (ad.add (i * 6)).off + 3, none⟩ = some (.slice A np ac)) (d4 : w.cell? ⟨(ad.add (i * 6)).block, (ad.add (i * 6)).off + 4, none⟩ = some (.slice K nk kc)) (hl : ad.block < w.heap.size) (hi : i < N) (hN : N ≤ 480) (hk0 : k ≠ 0) :
    Calls Tryd.prog 39 #[.slice (some ad) N cl, .int .i64 ((i : Int) + 1), .int .i64 a, .agg #[.int .i64 0, .string (ba' tn)]] w fun e' w' => e' = .returned (.bool (takesF k nm a 0 tn)) ∧ Below w.heap.size w w' := by
  have g1 : decide ((i : Int) + 1 < 1) = false := by simp; omega
  have g2 : decide ((i : Int) + 1 > (N : Int)) = false := by simp; omega
  have g3 : decide ((N : Int) < (i : Int) + 1) = false := by simp; omega
  have hbl : (ad.add (i * 6)).block < w.heap.size := by rw [block_of_add]; exact hl
  have hne : (ad.add (i * 6)).block ≠ w.heap.size := by omega
  by_cases ha : a = 3
  · subst ha
    by_cases hk : k = 3
    · subst hk
      go_enter Tryd.func39, Tryd.ntmps39
      go_wp2
      go_ret
      exact ⟨by simp [takesF], ba (ba (Below.refl _ _))⟩
    · have ghk : (k == 3) = false := by simpa using hk
      have ghk' : decide (k = 3) = false := by simpa using hk
      go_enter Tryd.func39, Tryd.ntmps39
      go_wp2
      go_ret
      exact ⟨by simp [takesF, hk0], ba (ba (Below.refl _ _))⟩
  · have ga : (a == 3) = false := by simpa using ha
    have ga' : decide (a = 3) = false := by simpa using ha
    have ga2 : (a != 3) = true := by simpa using ha
    by_cases hk : k = 2
    · subst hk
      go_enter Tryd.func39, Tryd.ntmps39
      go_wp2
      go_ret
      exact ⟨by simp [takesF], ba (ba (Below.refl _ _))⟩
    · have ghk : (k == 2) = false := by simpa using hk
      have ghk' : decide (k = 2) = false := by simpa using hk
      go_enter Tryd.func39, Tryd.ntmps39
      go_wp2
      go_ret
      exact ⟨by simp [takesF, hk0], ba (ba (Below.refl _ _))⟩
theorem tref_1 (ad : Addr) (N cl i : Nat) (a k : Int) (nm v tn : List UInt8) (A K : Option Addr) (np ac nk kc : Nat) (w : World) (d0 : w.cell? (ad.add (i * 6)) = some (.int .i64 k)) (d1 : w.cell? ⟨(ad.add (i * 6)).block, (ad.add (i * 6)).off + 1, none⟩ = some (.string (ba' nm))) (d2 : w.cell? ⟨(ad.add (i * 6)).block, (ad.add (i * 6)).off + 2, none⟩ = some (.string (ba' v))) (d3 : w.cell? ⟨(ad.add (i * 6)).block, (ad.add (i * 6)).off + 3, none⟩ = some (.slice A np ac)) (d4 : w.cell? ⟨(ad.add (i * 6)).block, (ad.add (i * 6)).off + 4, none⟩ = some (.slice K nk kc)) (hl : ad.block < w.heap.size) (hi : i < N) (hN : N ≤ 480) (hk0 : k ≠ 0) :
    Calls Tryd.prog 39 #[.slice (some ad) N cl, .int .i64 ((i : Int) + 1), .int .i64 a, .agg #[.int .i64 1, .string (ba' tn)]] w fun e' w' => e' = .returned (.bool (takesF k nm a 1 tn)) ∧ Below w.heap.size w w' := by
  have g1 : decide ((i : Int) + 1 < 1) = false := by simp; omega
  have g2 : decide ((i : Int) + 1 > (N : Int)) = false := by simp; omega
  have g3 : decide ((N : Int) < (i : Int) + 1) = false := by simp; omega
  have hbl : (ad.add (i * 6)).block < w.heap.size := by rw [block_of_add]; exact hl
  have hne : (ad.add (i * 6)).block ≠ w.heap.size := by omega
  by_cases ha : a = 3
  · subst ha
    by_cases hk : k = 3
    · subst hk
      go_enter Tryd.func39, Tryd.ntmps39
      go_wp2
      go_ret
      exact ⟨by simp [takesF], ba (ba (Below.refl _ _))⟩
    · have ghk : (k == 3) = false := by simpa using hk
      have ghk' : decide (k = 3) = false := by simpa using hk
      go_enter Tryd.func39, Tryd.ntmps39
      go_wp2
      go_ret
      exact ⟨by simp [takesF, hk], ba (ba (Below.refl _ _))⟩
  · have ga : (a == 3) = false := by simpa using ha
    have ga' : decide (a = 3) = false := by simpa using ha
    have ga2 : (a != 3) = true := by simpa using ha
    by_cases hk : k = 2
    · subst hk
      go_enter Tryd.func39, Tryd.ntmps39
      go_wp2
      go_ret
      exact ⟨by simp [takesF, ha], ba (ba (Below.refl _ _))⟩
    · have ghk : (k == 2) = false := by simpa using hk
      have ghk' : decide (k = 2) = false := by simpa using hk
      go_enter Tryd.func39, Tryd.ntmps39
      go_wp2
      go_ret
      exact ⟨by simp [takesF, hk, ha], ba (ba (Below.refl _ _))⟩
theorem tref_2 (ad : Addr) (N cl i : Nat) (a k : Int) (nm v tn : List UInt8) (A K : Option Addr) (np ac nk kc : Nat) (w : World) (d0 : w.cell? (ad.add (i * 6)) = some (.int .i64 k)) (d1 : w.cell? ⟨(ad.add (i * 6)).block, (ad.add (i * 6)).off + 1, none⟩ = some (.string (ba' nm))) (d2 : w.cell? ⟨(ad.add (i * 6)).block, (ad.add (i * 6)).off + 2, none⟩ = some (.string (ba' v))) (d3 : w.cell? ⟨(ad.add (i * 6)).block, (ad.add (i * 6)).off + 3, none⟩ = some (.slice A np ac)) (d4 : w.cell? ⟨(ad.add (i * 6)).block, (ad.add (i * 6)).off + 4, none⟩ = some (.slice K nk kc)) (hl : ad.block < w.heap.size) (hi : i < N) (hN : N ≤ 480) (hk0 : k ≠ 0) :
    Calls Tryd.prog 39 #[.slice (some ad) N cl, .int .i64 ((i : Int) + 1), .int .i64 a, .agg #[.int .i64 2, .string (ba' tn)]] w fun e' w' => e' = .returned (.bool (takesF k nm a 2 tn)) ∧ Below w.heap.size w w' := by
  have g1 : decide ((i : Int) + 1 < 1) = false := by simp; omega
  have g2 : decide ((i : Int) + 1 > (N : Int)) = false := by simp; omega
  have g3 : decide ((N : Int) < (i : Int) + 1) = false := by simp; omega
  have hbl : (ad.add (i * 6)).block < w.heap.size := by rw [block_of_add]; exact hl
  have hne : (ad.add (i * 6)).block ≠ w.heap.size := by omega
  by_cases ha : a = 3
  · subst ha
    by_cases hk : k = 3
    · subst hk
      by_cases hn : nm = tn
      · have gn : ((ba' nm).toList == (ba' tn).toList) = true := by rw [hn]; exact eq_yes tn
        go_enter Tryd.func39, Tryd.ntmps39
        go_wp2
        go_ret
        exact ⟨by simp [takesF, hn], ba (ba (Below.refl _ _))⟩
      · have gn := eq_no hn
        go_enter Tryd.func39, Tryd.ntmps39
        go_wp2
        go_ret
        exact ⟨by simp [takesF, hn], ba (ba (Below.refl _ _))⟩
    · have ghk : (k == 3) = false := by simpa using hk
      have ghk' : decide (k = 3) = false := by simpa using hk
      go_enter Tryd.func39, Tryd.ntmps39
      go_wp2
      go_ret
      exact ⟨by simp [takesF, hk], ba (ba (Below.refl _ _))⟩
  · have ga : (a == 3) = false := by simpa using ha
    have ga' : decide (a = 3) = false := by simpa using ha
    have ga2 : (a != 3) = true := by simpa using ha
    by_cases hk : k = 2
    · subst hk
      by_cases hn : nm = tn
      · have gn : ((ba' nm).toList == (ba' tn).toList) = true := by rw [hn]; exact eq_yes tn
        go_enter Tryd.func39, Tryd.ntmps39
        go_wp2
        go_ret
        exact ⟨by simp [takesF, hn, ha], ba (ba (Below.refl _ _))⟩
      · have gn := eq_no hn
        go_enter Tryd.func39, Tryd.ntmps39
        go_wp2
        go_ret
        exact ⟨by simp [takesF, hn, ha], ba (ba (Below.refl _ _))⟩
    · have ghk : (k == 2) = false := by simpa using hk
      have ghk' : decide (k = 2) = false := by simpa using hk
      go_enter Tryd.func39, Tryd.ntmps39
      go_wp2
      go_ret
      exact ⟨by simp [takesF, hk, ha], ba (ba (Below.refl _ _))⟩
theorem tref_3 (ad : Addr) (N cl i : Nat) (a k : Int) (nm v tn : List UInt8) (A K : Option Addr) (np ac nk kc : Nat) (w : World) (d0 : w.cell? (ad.add (i * 6)) = some (.int .i64 k)) (d1 : w.cell? ⟨(ad.add (i * 6)).block, (ad.add (i * 6)).off + 1, none⟩ = some (.string (ba' nm))) (d2 : w.cell? ⟨(ad.add (i * 6)).block, (ad.add (i * 6)).off + 2, none⟩ = some (.string (ba' v))) (d3 : w.cell? ⟨(ad.add (i * 6)).block, (ad.add (i * 6)).off + 3, none⟩ = some (.slice A np ac)) (d4 : w.cell? ⟨(ad.add (i * 6)).block, (ad.add (i * 6)).off + 4, none⟩ = some (.slice K nk kc)) (hl : ad.block < w.heap.size) (hi : i < N) (hN : N ≤ 480) (hk0 : k ≠ 0) :
    Calls Tryd.prog 39 #[.slice (some ad) N cl, .int .i64 ((i : Int) + 1), .int .i64 a, .agg #[.int .i64 3, .string (ba' tn)]] w fun e' w' => e' = .returned (.bool (takesF k nm a 3 tn)) ∧ Below w.heap.size w w' := by
  have g1 : decide ((i : Int) + 1 < 1) = false := by simp; omega
  have g2 : decide ((i : Int) + 1 > (N : Int)) = false := by simp; omega
  have g3 : decide ((N : Int) < (i : Int) + 1) = false := by simp; omega
  have hbl : (ad.add (i * 6)).block < w.heap.size := by rw [block_of_add]; exact hl
  have hne : (ad.add (i * 6)).block ≠ w.heap.size := by omega
  by_cases ha : a = 3
  · subst ha
    by_cases hk : k = 3
    · subst hk
      go_enter Tryd.func39, Tryd.ntmps39
      go_wp2
      go_ret
      exact ⟨by simp [takesF], ba (ba (Below.refl _ _))⟩
    · have ghk : (k == 3) = false := by simpa using hk
      have ghk' : decide (k = 3) = false := by simpa using hk
      by_cases hk2 : k = 4
      · subst hk2
        go_enter Tryd.func39, Tryd.ntmps39
        go_wp2
        go_ret
        exact ⟨by simp [takesF], ba (ba (Below.refl _ _))⟩
      · have ghk2 : (k == 4) = false := by simpa using hk2
        have ghk2' : decide (k = 4) = false := by simpa using hk2
        go_enter Tryd.func39, Tryd.ntmps39
        go_wp2
        go_ret
        exact ⟨by simp [takesF, hk2], ba (ba (Below.refl _ _))⟩
  · have ga : (a == 3) = false := by simpa using ha
    have ga' : decide (a = 3) = false := by simpa using ha
    have ga2 : (a != 3) = true := by simpa using ha
    by_cases hk : k = 2
    · subst hk
      go_enter Tryd.func39, Tryd.ntmps39
      go_wp2
      go_ret
      exact ⟨by simp [takesF], ba (ba (Below.refl _ _))⟩
    · have ghk : (k == 2) = false := by simpa using hk
      have ghk' : decide (k = 2) = false := by simpa using hk
      by_cases hk2 : k = 4
      · subst hk2
        go_enter Tryd.func39, Tryd.ntmps39
        go_wp2
        go_ret
        exact ⟨by simp [takesF], ba (ba (Below.refl _ _))⟩
      · have ghk2 : (k == 4) = false := by simpa using hk2
        have ghk2' : decide (k = 4) = false := by simpa using hk2
        go_enter Tryd.func39, Tryd.ntmps39
        go_wp2
        go_ret
        exact ⟨by simp [takesF, hk2], ba (ba (Below.refl _ _))⟩
theorem tref_4 (ad : Addr) (N cl i : Nat) (a k : Int) (nm v tn : List UInt8) (A K : Option Addr) (np ac nk kc : Nat) (w : World) (d0 : w.cell? (ad.add (i * 6)) = some (.int .i64 k)) (d1 : w.cell? ⟨(ad.add (i * 6)).block, (ad.add (i * 6)).off + 1, none⟩ = some (.string (ba' nm))) (d2 : w.cell? ⟨(ad.add (i * 6)).block, (ad.add (i * 6)).off + 2, none⟩ = some (.string (ba' v))) (d3 : w.cell? ⟨(ad.add (i * 6)).block, (ad.add (i * 6)).off + 3, none⟩ = some (.slice A np ac)) (d4 : w.cell? ⟨(ad.add (i * 6)).block, (ad.add (i * 6)).off + 4, none⟩ = some (.slice K nk kc)) (hl : ad.block < w.heap.size) (hi : i < N) (hN : N ≤ 480) (hk0 : k ≠ 0) :
    Calls Tryd.prog 39 #[.slice (some ad) N cl, .int .i64 ((i : Int) + 1), .int .i64 a, .agg #[.int .i64 4, .string (ba' tn)]] w fun e' w' => e' = .returned (.bool (takesF k nm a 4 tn)) ∧ Below w.heap.size w w' := by
  have g1 : decide ((i : Int) + 1 < 1) = false := by simp; omega
  have g2 : decide ((i : Int) + 1 > (N : Int)) = false := by simp; omega
  have g3 : decide ((N : Int) < (i : Int) + 1) = false := by simp; omega
  have hbl : (ad.add (i * 6)).block < w.heap.size := by rw [block_of_add]; exact hl
  have hne : (ad.add (i * 6)).block ≠ w.heap.size := by omega
  by_cases ha : a = 3
  · subst ha
    by_cases hk : k = 3
    · subst hk
      go_enter Tryd.func39, Tryd.ntmps39
      go_wp2
      go_ret
      exact ⟨by simp [takesF], ba (ba (Below.refl _ _))⟩
    · have ghk : (k == 3) = false := by simpa using hk
      have ghk' : decide (k = 3) = false := by simpa using hk
      by_cases hk2 : k = 5
      · subst hk2
        go_enter Tryd.func39, Tryd.ntmps39
        go_wp2
        go_ret
        exact ⟨by simp [takesF], ba (ba (Below.refl _ _))⟩
      · have ghk2 : (k == 5) = false := by simpa using hk2
        have ghk2' : decide (k = 5) = false := by simpa using hk2
        go_enter Tryd.func39, Tryd.ntmps39
        go_wp2
        go_ret
        exact ⟨by simp [takesF, hk2], ba (ba (Below.refl _ _))⟩
  · have ga : (a == 3) = false := by simpa using ha
    have ga' : decide (a = 3) = false := by simpa using ha
    have ga2 : (a != 3) = true := by simpa using ha
    by_cases hk : k = 2
    · subst hk
      go_enter Tryd.func39, Tryd.ntmps39
      go_wp2
      go_ret
      exact ⟨by simp [takesF], ba (ba (Below.refl _ _))⟩
    · have ghk : (k == 2) = false := by simpa using hk
      have ghk' : decide (k = 2) = false := by simpa using hk
      by_cases hk2 : k = 5
      · subst hk2
        go_enter Tryd.func39, Tryd.ntmps39
        go_wp2
        go_ret
        exact ⟨by simp [takesF], ba (ba (Below.refl _ _))⟩
      · have ghk2 : (k == 5) = false := by simpa using hk2
        have ghk2' : decide (k = 5) = false := by simpa using hk2
        go_enter Tryd.func39, Tryd.ntmps39
        go_wp2
        go_ret
        exact ⟨by simp [takesF, hk2], ba (ba (Below.refl _ _))⟩
theorem tref_7 (ad : Addr) (N cl i : Nat) (a k : Int) (nm v tn : List UInt8) (A K : Option Addr) (np ac nk kc : Nat) (w : World) (d0 : w.cell? (ad.add (i * 6)) = some (.int .i64 k)) (d1 : w.cell? ⟨(ad.add (i * 6)).block, (ad.add (i * 6)).off + 1, none⟩ = some (.string (ba' nm))) (d2 : w.cell? ⟨(ad.add (i * 6)).block, (ad.add (i * 6)).off + 2, none⟩ = some (.string (ba' v))) (d3 : w.cell? ⟨(ad.add (i * 6)).block, (ad.add (i * 6)).off + 3, none⟩ = some (.slice A np ac)) (d4 : w.cell? ⟨(ad.add (i * 6)).block, (ad.add (i * 6)).off + 4, none⟩ = some (.slice K nk kc)) (hl : ad.block < w.heap.size) (hi : i < N) (hN : N ≤ 480) (hk0 : k ≠ 0) :
    Calls Tryd.prog 39 #[.slice (some ad) N cl, .int .i64 ((i : Int) + 1), .int .i64 a, .agg #[.int .i64 7, .string (ba' tn)]] w fun e' w' => e' = .returned (.bool (takesF k nm a 7 tn)) ∧ Below w.heap.size w w' := by
  have g1 : decide ((i : Int) + 1 < 1) = false := by simp; omega
  have g2 : decide ((i : Int) + 1 > (N : Int)) = false := by simp; omega
  have g3 : decide ((N : Int) < (i : Int) + 1) = false := by simp; omega
  have hbl : (ad.add (i * 6)).block < w.heap.size := by rw [block_of_add]; exact hl
  have hne : (ad.add (i * 6)).block ≠ w.heap.size := by omega
  by_cases ha : a = 3
  · subst ha
    by_cases hk : k = 3
    · subst hk
      go_enter Tryd.func39, Tryd.ntmps39
      go_wp2
      go_ret
      exact ⟨by simp [takesF], ba (ba (Below.refl _ _))⟩
    · have ghk : (k == 3) = false := by simpa using hk
      have ghk' : decide (k = 3) = false := by simpa using hk
      by_cases hk2 : k = 1
      · subst hk2
        go_enter Tryd.func39, Tryd.ntmps39
        go_wp2
        go_ret
        exact ⟨by simp [takesF], ba (ba (Below.refl _ _))⟩
      · have ghk2 : (k == 1) = false := by simpa using hk2
        have ghk2' : decide (k = 1) = false := by simpa using hk2
        go_enter Tryd.func39, Tryd.ntmps39
        go_wp2
        go_ret
        exact ⟨by simp [takesF, hk2], ba (ba (Below.refl _ _))⟩
  · have ga : (a == 3) = false := by simpa using ha
    have ga' : decide (a = 3) = false := by simpa using ha
    have ga2 : (a != 3) = true := by simpa using ha
    by_cases hk : k = 2
    · subst hk
      go_enter Tryd.func39, Tryd.ntmps39
      go_wp2
      go_ret
      exact ⟨by simp [takesF], ba (ba (Below.refl _ _))⟩
    · have ghk : (k == 2) = false := by simpa using hk
      have ghk' : decide (k = 2) = false := by simpa using hk
      by_cases hk2 : k = 1
      · subst hk2
        go_enter Tryd.func39, Tryd.ntmps39
        go_wp2
        go_ret
        exact ⟨by simp [takesF], ba (ba (Below.refl _ _))⟩
      · have ghk2 : (k == 1) = false := by simpa using hk2
        have ghk2' : decide (k = 1) = false := by simpa using hk2
        go_enter Tryd.func39, Tryd.ntmps39
        go_wp2
        go_ret
        exact ⟨by simp [takesF, hk2], ba (ba (Below.refl _ _))⟩
theorem tref_5 (ad : Addr) (N cl i : Nat) (a k : Int) (nm v tn : List UInt8) (A K : Option Addr) (np ac nk kc : Nat) (w : World) (d0 : w.cell? (ad.add (i * 6)) = some (.int .i64 k)) (d1 : w.cell? ⟨(ad.add (i * 6)).block, (ad.add (i * 6)).off + 1, none⟩ = some (.string (ba' nm))) (d2 : w.cell? ⟨(ad.add (i * 6)).block, (ad.add (i * 6)).off + 2, none⟩ = some (.string (ba' v))) (d3 : w.cell? ⟨(ad.add (i * 6)).block, (ad.add (i * 6)).off + 3, none⟩ = some (.slice A np ac)) (d4 : w.cell? ⟨(ad.add (i * 6)).block, (ad.add (i * 6)).off + 4, none⟩ = some (.slice K nk kc)) (hl : ad.block < w.heap.size) (hi : i < N) (hN : N ≤ 480) (hk0 : k ≠ 0) :
    Calls Tryd.prog 39 #[.slice (some ad) N cl, .int .i64 ((i : Int) + 1), .int .i64 a, .agg #[.int .i64 5, .string (ba' tn)]] w fun e' w' => e' = .returned (.bool (takesF k nm a 5 tn)) ∧ Below w.heap.size w w' := by
  have g1 : decide ((i : Int) + 1 < 1) = false := by simp; omega
  have g2 : decide ((i : Int) + 1 > (N : Int)) = false := by simp; omega
  have g3 : decide ((N : Int) < (i : Int) + 1) = false := by simp; omega
  have hbl : (ad.add (i * 6)).block < w.heap.size := by rw [block_of_add]; exact hl
  have hne : (ad.add (i * 6)).block ≠ w.heap.size := by omega
  by_cases ha : a = 3
  · subst ha
    by_cases hk : k = 3
    · subst hk
      go_enter Tryd.func39, Tryd.ntmps39
      go_wp2
      go_ret
      exact ⟨by simp [takesF], ba (ba (Below.refl _ _))⟩
    · have ghk : (k == 3) = false := by simpa using hk
      have ghk' : decide (k = 3) = false := by simpa using hk
      by_cases hk2 : k = 2
      · subst hk2
        by_cases he : tn = []
        · have ge := isE he
          have HE := Lib.hid he
          clear he
          go_enter Tryd.func39, Tryd.ntmps39
          go_wp2
          go_ret
          exact ⟨by simp [takesF, HE.out], ba (ba (Below.refl _ _))⟩
        · have ge := isN he
          by_cases hn : nm = tn
          · have gn : ((ba' nm).toList == (ba' tn).toList) = true := by rw [hn]; exact eq_yes tn
            go_enter Tryd.func39, Tryd.ntmps39
            go_wp2
            go_ret
            exact ⟨by simp [takesF, hn], ba (ba (Below.refl _ _))⟩
          · have gn := eq_no hn
            go_enter Tryd.func39, Tryd.ntmps39
            go_wp2
            go_ret
            exact ⟨by simp [takesF, hn, he], ba (ba (Below.refl _ _))⟩
      · have ghk2 : (k == 2) = false := by simpa using hk2
        have ghk2' : decide (k = 2) = false := by simpa using hk2
        go_enter Tryd.func39, Tryd.ntmps39
        go_wp2
        go_ret
        exact ⟨by simp [takesF, hk2], ba (ba (Below.refl _ _))⟩
  · have ga : (a == 3) = false := by simpa using ha
    have ga' : decide (a = 3) = false := by simpa using ha
    have ga2 : (a != 3) = true := by simpa using ha
    by_cases hk : k = 2
    · subst hk
      by_cases he : tn = []
      · have ge := isE he
        have HE := Lib.hid he
        clear he
        go_enter Tryd.func39, Tryd.ntmps39
        go_wp2
        go_ret
        exact ⟨by simp [takesF, HE.out], ba (ba (Below.refl _ _))⟩
      · have ge := isN he
        by_cases hn : nm = tn
        · have gn : ((ba' nm).toList == (ba' tn).toList) = true := by rw [hn]; exact eq_yes tn
          go_enter Tryd.func39, Tryd.ntmps39
          go_wp2
          go_ret
          exact ⟨by simp [takesF, hn], ba (ba (Below.refl _ _))⟩
        · have gn := eq_no hn
          go_enter Tryd.func39, Tryd.ntmps39
          go_wp2
          go_ret
          exact ⟨by simp [takesF, hn, he], ba (ba (Below.refl _ _))⟩
    · have ghk : (k == 2) = false := by simpa using hk
      have ghk' : decide (k = 2) = false := by simpa using hk
      go_enter Tryd.func39, Tryd.ntmps39
      go_wp2
      go_ret
      exact ⟨by simp [takesF, hk], ba (ba (Below.refl _ _))⟩
theorem tref_6 (ad : Addr) (N cl i : Nat) (a k : Int) (nm v tn : List UInt8) (A K : Option Addr) (np ac nk kc : Nat) (w : World) (d0 : w.cell? (ad.add (i * 6)) = some (.int .i64 k)) (d1 : w.cell? ⟨(ad.add (i * 6)).block, (ad.add (i * 6)).off + 1, none⟩ = some (.string (ba' nm))) (d2 : w.cell? ⟨(ad.add (i * 6)).block, (ad.add (i * 6)).off + 2, none⟩ = some (.string (ba' v))) (d3 : w.cell? ⟨(ad.add (i * 6)).block, (ad.add (i * 6)).off + 3, none⟩ = some (.slice A np ac)) (d4 : w.cell? ⟨(ad.add (i * 6)).block, (ad.add (i * 6)).off + 4, none⟩ = some (.slice K nk kc)) (hl : ad.block < w.heap.size) (hi : i < N) (hN : N ≤ 480) (hk0 : k ≠ 0) :
    Calls Tryd.prog 39 #[.slice (some ad) N cl, .int .i64 ((i : Int) + 1), .int .i64 a, .agg #[.int .i64 6, .string (ba' tn)]] w fun e' w' => e' = .returned (.bool (takesF k nm a 6 tn)) ∧ Below w.heap.size w w' := by
  have g1 : decide ((i : Int) + 1 < 1) = false := by simp; omega
  have g2 : decide ((i : Int) + 1 > (N : Int)) = false := by simp; omega
  have g3 : decide ((N : Int) < (i : Int) + 1) = false := by simp; omega
  have hbl : (ad.add (i * 6)).block < w.heap.size := by rw [block_of_add]; exact hl
  have hne : (ad.add (i * 6)).block ≠ w.heap.size := by omega
  by_cases ha : a = 3
  · subst ha
    by_cases hk : k = 3
    · subst hk
      by_cases he : tn = []
      · have ge := isE he
        have HE := Lib.hid he
        clear he
        go_enter Tryd.func39, Tryd.ntmps39
        go_wp2
        go_ret
        exact ⟨by simp [takesF, HE.out], ba (ba (Below.refl _ _))⟩
      · have ge := isN he
        by_cases hn : nm = tn
        · have gn : ((ba' nm).toList == (ba' tn).toList) = true := by rw [hn]; exact eq_yes tn
          go_enter Tryd.func39, Tryd.ntmps39
          go_wp2
          go_ret
          exact ⟨by simp [takesF, hn], ba (ba (Below.refl _ _))⟩
        · have gn := eq_no hn
          go_enter Tryd.func39, Tryd.ntmps39
          go_wp2
          go_ret
          exact ⟨by simp [takesF, hn, he], ba (ba (Below.refl _ _))⟩
    · have ghk : (k == 3) = false := by simpa using hk
      have ghk' : decide (k = 3) = false := by simpa using hk
      go_enter Tryd.func39, Tryd.ntmps39
      go_wp2
      go_ret
      exact ⟨by simp [takesF, hk], ba (ba (Below.refl _ _))⟩
  · have ga : (a == 3) = false := by simpa using ha
    have ga' : decide (a = 3) = false := by simpa using ha
    have ga2 : (a != 3) = true := by simpa using ha
    by_cases hk : k = 2
    · subst hk
      go_enter Tryd.func39, Tryd.ntmps39
      go_wp2
      go_ret
      exact ⟨by simp [takesF], ba (ba (Below.refl _ _))⟩
    · have ghk : (k == 2) = false := by simpa using hk
      have ghk' : decide (k = 2) = false := by simpa using hk
      by_cases hk2 : k = 3
      · subst hk2
        by_cases he : tn = []
        · have ge := isE he
          have HE := Lib.hid he
          clear he
          go_enter Tryd.func39, Tryd.ntmps39
          go_wp2
          go_ret
          exact ⟨by simp [takesF, HE.out], ba (ba (Below.refl _ _))⟩
        · have ge := isN he
          by_cases hn : nm = tn
          · have gn : ((ba' nm).toList == (ba' tn).toList) = true := by rw [hn]; exact eq_yes tn
            go_enter Tryd.func39, Tryd.ntmps39
            go_wp2
            go_ret
            exact ⟨by simp [takesF, hn], ba (ba (Below.refl _ _))⟩
          · have gn := eq_no hn
            go_enter Tryd.func39, Tryd.ntmps39
            go_wp2
            go_ret
            exact ⟨by simp [takesF, hn, he], ba (ba (Below.refl _ _))⟩
      · have ghk2 : (k == 3) = false := by simpa using hk2
        have ghk2' : decide (k = 3) = false := by simpa using hk2
        go_enter Tryd.func39, Tryd.ntmps39
        go_wp2
        go_ret
        exact ⟨by simp [takesF, hk2], ba (ba (Below.refl _ _))⟩
theorem tref_x (ad : Addr) (N cl i : Nat) (a k tk : Int) (nm v tn : List UInt8) (A K : Option Addr) (np ac nk kc : Nat) (w : World) (d0 : w.cell? (ad.add (i * 6)) = some (.int .i64 k)) (d1 : w.cell? ⟨(ad.add (i * 6)).block, (ad.add (i * 6)).off + 1, none⟩ = some (.string (ba' nm))) (d2 : w.cell? ⟨(ad.add (i * 6)).block, (ad.add (i * 6)).off + 2, none⟩ = some (.string (ba' v))) (d3 : w.cell? ⟨(ad.add (i * 6)).block, (ad.add (i * 6)).off + 3, none⟩ = some (.slice A np ac)) (d4 : w.cell? ⟨(ad.add (i * 6)).block, (ad.add (i * 6)).off + 4, none⟩ = some (.slice K nk kc)) (hl : ad.block < w.heap.size) (hi : i < N) (hN : N ≤ 480) (hk0 : k ≠ 0) (ht : ¬ (0 ≤ tk ∧ tk ≤ 7)) :
    Calls Tryd.prog 39 #[.slice (some ad) N cl, .int .i64 ((i : Int) + 1), .int .i64 a, .agg #[.int .i64 tk, .string (ba' tn)]] w fun e' w' => e' = .returned (.bool (takesF k nm a tk tn)) ∧ Below w.heap.size w w' := by
  have g1 : decide ((i : Int) + 1 < 1) = false := by simp; omega
  have g2 : decide ((i : Int) + 1 > (N : Int)) = false := by simp; omega
  have g3 : decide ((N : Int) < (i : Int) + 1) = false := by simp; omega
  have hbl : (ad.add (i * 6)).block < w.heap.size := by rw [block_of_add]; exact hl
  have hne : (ad.add (i * 6)).block ≠ w.heap.size := by omega
  have gt0 : (tk == 0) = false := by simpa using (by omega : ¬ tk = 0)
  have gu0 : decide (tk = 0) = false := by simpa using (by omega : ¬ tk = 0)
  have ht0 : ¬ tk = 0 := by omega
  have gt1 : (tk == 1) = false := by simpa using (by omega : ¬ tk = 1)
  have gu1 : decide (tk = 1) = false := by simpa using (by omega : ¬ tk = 1)
  have ht1 : ¬ tk = 1 := by omega
  have gt2 : (tk == 2) = false := by simpa using (by omega : ¬ tk = 2)
  have gu2 : decide (tk = 2) = false := by simpa using (by omega : ¬ tk = 2)
  have ht2 : ¬ tk = 2 := by omega
  have gt3 : (tk == 3) = false := by simpa using (by omega : ¬ tk = 3)
  have gu3 : decide (tk = 3) = false := by simpa using (by omega : ¬ tk = 3)
  have ht3 : ¬ tk = 3 := by omega
  have gt4 : (tk == 4) = false := by simpa using (by omega : ¬ tk = 4)
  have gu4 : decide (tk = 4) = false := by simpa using (by omega : ¬ tk = 4)
  have ht4 : ¬ tk = 4 := by omega
  have gt5 : (tk == 5) = false := by simpa using (by omega : ¬ tk = 5)
  have gu5 : decide (tk = 5) = false := by simpa using (by omega : ¬ tk = 5)
  have ht5 : ¬ tk = 5 := by omega
  have gt6 : (tk == 6) = false := by simpa using (by omega : ¬ tk = 6)
  have gu6 : decide (tk = 6) = false := by simpa using (by omega : ¬ tk = 6)
  have ht6 : ¬ tk = 6 := by omega
  have gt7 : (tk == 7) = false := by simpa using (by omega : ¬ tk = 7)
  have gu7 : decide (tk = 7) = false := by simpa using (by omega : ¬ tk = 7)
  have ht7 : ¬ tk = 7 := by omega
  by_cases ha : a = 3
  · subst ha
    by_cases hk : k = 3
    · subst hk
      go_enter Tryd.func39, Tryd.ntmps39
      go_wp2
      go_ret
      exact ⟨by simp [takesF, ht0, ht1, ht2, ht3, ht4, ht5, ht6, ht7], ba (ba (Below.refl _ _))⟩
    · have ghk : (k == 3) = false := by simpa using hk
      have ghk' : decide (k = 3) = false := by simpa using hk
      go_enter Tryd.func39, Tryd.ntmps39
      go_wp2
      go_ret
      exact ⟨by simp [takesF, ht0, ht1, ht2, ht3, ht4, ht5, ht6, ht7], ba (ba (Below.refl _ _))⟩
  · have ga : (a == 3) = false := by simpa using ha
    have ga' : decide (a = 3) = false := by simpa using ha
    have ga2 : (a != 3) = true := by simpa using ha
    by_cases hk : k = 2
    · subst hk
      go_enter Tryd.func39, Tryd.ntmps39
      go_wp2
      go_ret
      exact ⟨by simp [takesF, ht0, ht1, ht2, ht3, ht4, ht5, ht6, ht7], ba (ba (Below.refl _ _))⟩
    · have ghk : (k == 2) = false := by simpa using hk
      have ghk' : decide (k = 2) = false := by simpa using hk
      go_enter Tryd.func39, Tryd.ntmps39
      go_wp2
      go_ret
      exact ⟨by simp [takesF, ht0, ht1, ht2, ht3, ht4, ht5, ht6, ht7], ba (ba (Below.refl _ _))⟩
end Go.Proofs.YtcmlfkoeajpliaaDoor
namespace Go.Proofs.YtcmlfkoeajpliaaDoor
open Go.RowKit Go.Lib
set_option maxRecDepth 100000
set_option maxHeartbeats 8000000
theorem tref_out (Al : Option Addr) (N cl n : Nat) (a tk : Int) (tn : List UInt8) (w : World) (h : n = 0 ∨ N < n) :
    Calls Tryd.prog 39 #[.slice Al N cl, .int .i64 (n : Int), .int .i64 a, .agg #[.int .i64 tk, .string (ba' tn)]] w fun e' w' => e' = .returned (.bool false) ∧ Below w.heap.size w w' := by
  by_cases h0 : n = 0
  · subst h0
    go_enter Tryd.func39, Tryd.ntmps39
    go_wp2
    go_ret
    exact ⟨rfl, ba (Below.refl _ _)⟩
  · have g1 : decide ((n : Int) < 1) = false := by simp; omega
    have g2 : decide ((n : Int) > (N : Int)) = true := by simp; omega
    have g3 : decide ((N : Int) < (n : Int)) = true := by simp; omega
    have g4 : decide (N < n) = true := by simp; omega
    go_enter Tryd.func39, Tryd.ntmps39
    go_wp2
    go_ret
    exact ⟨rfl, ba (Below.refl _ _)⟩
theorem takesRef (Al : Option Addr) (cl : Nat) (L : List En) (n : Nat) (a tk : Int) (tn : List UInt8) (w : World) (hA : ListFull w Al L) (hO : Ord L.length (kdN L) (prN L) (enN L)) (hL : L.length ≤ 480) :
    Calls Tryd.prog 39 #[.slice Al L.length cl, .int .i64 (n : Int), .int .i64 a, .agg #[.int .i64 tk, .string (ba' tn)]] w fun e' w' => e' = .returned (.bool (takesF (kdN L n) (nmN L n) a tk tn)) ∧ Below w.heap.size w w' := by
  by_cases h : n = 0 ∨ L.length < n
  · have e : takesF (kdN L n) (nmN L n) a tk tn = false := by
      rw [(told_out h).1]
      unfold takesF
      by_cases h3 : a = 3 <;> simp [h3]
    rw [e]
    exact tref_out Al L.length cl n a tk tn w h
  · have h1 : 1 ≤ n := by omega
    have h2 : n ≤ L.length := by omega
    have hk0 := hO.k0 n h1 h2
    obtain ⟨x, hx, e1, _, _⟩ := told_in h1 h2
    have e2 : nmN L n = x.n := by unfold nmN; rw [if_neg (by omega), hx]; rfl
    obtain ⟨ad, v, A, K, np, ac, nk, kc, rfl, hl, d0, d1, d2, d3, d4⟩ := hA _ x hx
    rw [e1] at hk0 ⊢
    rw [e2]
    obtain ⟨i, rfl⟩ : ∃ i, n = i + 1 := ⟨n - 1, by omega⟩
    rw [show i + 1 - 1 = i by omega] at d0 d1 d2 d3 d4
    have ei : ((i + 1 : Nat) : Int) = (i : Int) + 1 := by omega
    rw [ei]
    by_cases ht : 0 ≤ tk ∧ tk ≤ 7
    · have : tk = 0 ∨ tk = 1 ∨ tk = 2 ∨ tk = 3 ∨ tk = 4 ∨ tk = 5 ∨ tk = 6 ∨ tk = 7 := by omega
      rcases this with rfl | rfl | rfl | rfl | rfl | rfl | rfl | rfl
      · exact tref_0 ad _ cl i a _ _ v tn A K np ac nk kc w d0 d1 d2 d3 d4 hl (by omega) hL hk0
      · exact tref_1 ad _ cl i a _ _ v tn A K np ac nk kc w d0 d1 d2 d3 d4 hl (by omega) hL hk0
      · exact tref_2 ad _ cl i a _ _ v tn A K np ac nk kc w d0 d1 d2 d3 d4 hl (by omega) hL hk0
      · exact tref_3 ad _ cl i a _ _ v tn A K np ac nk kc w d0 d1 d2 d3 d4 hl (by omega) hL hk0
      · exact tref_4 ad _ cl i a _ _ v tn A K np ac nk kc w d0 d1 d2 d3 d4 hl (by omega) hL hk0
      · exact tref_5 ad _ cl i a _ _ v tn A K np ac nk kc w d0 d1 d2 d3 d4 hl (by omega) hL hk0
      · exact tref_6 ad _ cl i a _ _ v tn A K np ac nk kc w d0 d1 d2 d3 d4 hl (by omega) hL hk0
      · exact tref_7 ad _ cl i a _ _ v tn A K np ac nk kc w d0 d1 d2 d3 d4 hl (by omega) hL hk0
    · exact tref_x ad _ cl i a _ tk _ v tn A K np ac nk kc w d0 d1 d2 d3 d4 hl (by omega) hL hk0 ht
/-- A row of tests. -/
def rowS (ts : List (Int × List UInt8)) : List Value := ts.flatMap fun t => [.int .i64 t.1, .string (ba' t.2)]
theorem rowS_at : ∀ (L : List (Int × List UInt8)) (i : Nat) (t : Int × List UInt8), L[i]? = some t → (rowS L)[i * 2]? = some (.int .i64 t.1) ∧ (rowS L)[i * 2 + 1]? = some (.string (ba' t.2))
  | [], i, t, h => by simp at h
  | a :: L, 0, t, h => by
    simp at h; subst h
    exact ⟨rfl, rfl⟩
  | a :: L, i + 1, t, h => by
    have h' : L[i]? = some t := by simpa using h
    have e : rowS (a :: L) = [.int .i64 a.1, .string (ba' a.2)] ++ rowS L := rfl
    obtain ⟨h1, h2⟩ := rowS_at L i t h'
    rw [e, List.getElem?_append_right (by simp; omega), List.getElem?_append_right (by simp; omega)]
    refine ⟨?_, ?_⟩
    · rw [← h1]; congr 1; simp; omega
    · rw [← h2]; congr 1; simp; omega
theorem tests_at {P : Nat → Prop} {w : World} {A : Option Addr} {n : Nat} {ts : List (Int × List UInt8)} (h : RdP P w 2 A n (rowS ts)) (hl : ts.length = n) {k : Nat} (hk : k < n) :
    ∃ ad tk tn, A = some ad ∧ P ad.block ∧ w.cell? (ad.add (k * 2)) = some (.int .i64 tk) ∧ w.cell? ⟨(ad.add (k * 2)).block, (ad.add (k * 2)).off + 1, none⟩ = some (.string (ba' tn)) := by
  obtain ⟨ad, e, hP, hc⟩ := h.2 (by omega)
  obtain ⟨t, ht⟩ : ∃ t, ts[k]? = some t := ⟨_, List.getElem?_eq_getElem (by omega)⟩
  obtain ⟨h1, h2⟩ := rowS_at ts k t ht
  have c1 := hc _ _ h1
  have c2 := hc _ _ h2
  refine ⟨ad, t.1, t.2, e, hP, c1, ?_⟩
  have hs : (ad.add (k * 2)).spot = none := by
    have := World.cell?_spot c1
    exact this
  rw [← Go.Deep.add_add] at c2
  rw [show (ad.add (k * 2)).add 1 = ⟨(ad.add (k * 2)).block, (ad.add (k * 2)).off + 1, none⟩ by
    generalize ad.add (k * 2) = q at hs
    obtain ⟨b, o, sp⟩ := q
    simp at hs
    subst hs
    rfl] at c2
  exact c2
end Go.Proofs.YtcmlfkoeajpliaaDoor
