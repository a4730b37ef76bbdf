/- Numbers put in order, each once. No condition beyond what the theorems state. -/
import Derived.Test.YtcmlfkoeajpliaaDoorShelfS
import Derived.Test.YtcmlfkoeajpliaaDoorRefCopy
import Derived.Sort.OwnSortedInts
import Derived.Lib.OwnBridge
import Derived.Sort.Grow
namespace Go.Proofs.YtcmlfkoeajpliaaDoor
open Go.RowKit Go.Lib Go.Shelf Go.Sort
set_option maxRecDepth 100000
set_option maxHeartbeats 8000000
def rowZ (zs : List Int) : List Value := zs.map (Value.int .i64)
def ordZ (zs : List Int) : List Int := Lib.compact (zs.mergeSort fun x y => decide (x ≤ y))
theorem add_block_off (b off j : Nat) : (⟨b, off, none⟩ : Addr).add j = ⟨b, off + j, none⟩ := by unfold Addr.add; split <;> simp_all
/-- What is left: a row of the call's own. -/
def OrdLeft (w : World) (zs : List Int) (e : Ending) (w' : World) : Prop :=
  ∃ A c, e = .returned (.slice A (ordZ zs).length c) ∧ w'.ownsRow w.heap.size 3 1 (.slice A (ordZ zs).length c) (ordZ zs).length (rowZ (ordZ zs)) ∧ Below w.heap.size w w'
theorem ordLeft_of {w w1 : World} {g cap n nn q : Nat} {os : Array Obj} {zs : List Int} (hown : w1.ownsRow w.heap.size 3 1 (.slice (some ⟨g, 0, none⟩) n cap) n (zs.map (Value.int .i64))) (hbel : Below w.heap.size w w1) (hbg : w.heap.size ≤ g) (hlen : zs.length = n) :
    OrdLeft w zs (.returned (.slice (some ⟨g, 0, none⟩) (Lib.compact (zs.mergeSort fun x y => decide (x ≤ y))).length cap))
      (putRow (Value.int .i64) (Sort.ahead (grow (putRow (Value.int .i64) (Sort.ahead w1 nn) g 0 (zs.mergeSort fun x y => decide (x ≤ y)).toArray) os) q) g 0 (Lib.compact (zs.mergeSort fun x y => decide (x ≤ y)) ++ List.replicate (n - (Lib.compact (zs.mergeSort fun x y => decide (x ≤ y))).length) 0).toArray) := by
  have hl2 : (zs.mergeSort fun x y => decide (x ≤ y)).length = zs.length := List.length_mergeSort zs
  have hle := Lib.compact_length_le (zs.mergeSort fun x y => decide (x ≤ y))
  subst hlen
  rcases hown.2 with ⟨h0, _⟩ | ⟨g', cap', cur, hv, hbase, hb, h1, h2, h3, h4⟩
  · cases h0
  cases hv
  have hs := ownsRow_sortedI (n := nn) (os := os) (ts := zs.mergeSort fun x y => decide (x ≤ y)) hl2 hbase hb h1 h2 h3
  have hc := Lib.ownsRow_putRow (q := q) (k := (Lib.compact (zs.mergeSort fun x y => decide (x ≤ y))).length) (ys := Lib.compact (zs.mergeSort fun x y => decide (x ≤ y)) ++ List.replicate (zs.length - (Lib.compact (zs.mergeSort fun x y => decide (x ≤ y))).length) 0) hs (by simp; omega) (by omega)
  rw [List.take_left] at hc
  exact ⟨_, cap, rfl, hc, Lib.below_putRow (hbel.grown (grownBy_sortedI _) hbel.size (fun j hj => by cases hj; exact hbase)) hbg⟩
theorem order_tail (n : Nat) (arg : Value) (zs : List Int) (w : World) (hn : n ≤ 4611686018427387903)
    (hclone : Calls Tryd.prog 66 #[arg] w fun e w' => ∃ v', e = .returned v' ∧ w'.ownsRow w.heap.size 3 1 v' n (zs.map (Value.int .i64)) ∧ v' ≠ .slice none 0 0 ∧ Below w.heap.size w w') :
    Calls Tryd.prog 41 #[arg] w (OrdLeft w zs) := by
  have HC := Lib.hid hclone
  clear hclone
  go_enter Tryd.func41, Tryd.ntmps41
  go_wp2_with fail
  refine HC.out.mono ?_
  rintro e w1 ⟨v1, rfl, hown, hnn, hbel⟩
  obtain ⟨g, cap, rfl, hbg, hgl, hncap, hcm, hlen, hH⟩ := Lib.holds_of_ownsRow hown hnn
  have HX := Lib.hid (⟨hown, hbel, hbg, hgl, hncap, hcm, hlen, hH⟩ : w1.ownsRow w.heap.size 3 1 (.slice (some ⟨g, 0, none⟩) n cap) n (zs.map (Value.int .i64)) ∧ Below w.heap.size w w1 ∧ w.heap.size ≤ g ∧ g < w1.heap.size ∧ n ≤ cap ∧ cap ≤ maxLen ∧ zs.length = n ∧ Holds (Value.int .i64) w1 g 0 zs.toArray)
  have HS := Lib.hid (Tryd.slices_Sort_int g 0 cap zs w1 hH hgl (by omega))
  rw [hlen] at HS
  clear hown hbel hH hnn hlen hbg hgl hncap hcm
  go_wp2_with fail
  refine HS.out.mono ?_
  rintro e w2 ⟨rfl, nn, os, rfl⟩
  have hl2 : (zs.mergeSort fun x y => decide (x ≤ y)).length = n := by rw [List.length_mergeSort]; exact HX.out.2.2.2.2.2.2.1
  have hH2 : Holds (Value.int .i64) (grow (putRow (Value.int .i64) (Sort.ahead w1 nn) g 0 (zs.mergeSort fun x y => decide (x ≤ y)).toArray) os) g 0 (zs.mergeSort fun x y => decide (x ≤ y)).toArray :=
    holds_grow (Value.int .i64) _ os g 0 _ (by simpa [putRow, mapBlock, Sort.ahead] using HX.out.2.2.2.1) (holds_putRow (Value.int .i64) _ g 0 _ _ (holds_ahead (Value.int .i64) w1 nn g 0 _ HX.out.2.2.2.2.2.2.2) (by simp))
  have hcomp := Tryd.slices_Compact_int g 0 cap (zs.mergeSort fun x y => decide (x ≤ y)) _ hH2 (by omega) (by have := HX.out.2.2.2.2.1; omega)
  rw [hl2] at hcomp
  have HCO := Lib.hid hcomp
  clear hH2 hcomp hl2
  go_wp2_with fail
  refine HCO.out.mono ?_
  rintro e w3 ⟨rfl, q, rfl⟩
  have HL := Lib.hid (ordLeft_of (nn := nn) (os := os) (q := q) HX.out.1 HX.out.2.1 HX.out.2.2.1 HX.out.2.2.2.2.2.2.1)
  go_wp2
  go_ret
  exact HL.out
theorem order_any (P : Nat → Prop) (A : Option Addr) (n c : Nat) (zs : List Int) (w : World) (hR : RdP P w 1 A n (rowZ zs)) (hn : n ≤ 1099511627776) : Calls Tryd.prog 41 #[.slice A n c] w (OrdLeft w zs) := by
  have hl : zs.length = n := by have := hR.1; simpa [rowZ] using this
  cases A with
  | none =>
    have hn0 : n = 0 := by
      rcases Nat.eq_zero_or_pos n with h | h
      · exact h
      · obtain ⟨ad, e, _⟩ := hR.2 h; cases e
    subst hn0
    obtain rfl : zs = [] := List.length_eq_zero_iff.1 hl
    have HC := Lib.hid (Tryd.slices_Clone_int_nil 0 c w)
    have HS := Lib.hid (fun w => Tryd.slices_Sort_int_none none 0 w)
    have HO := Lib.hid (fun w => Tryd.slices_Compact_int_empty none 0 w)
    clear hR hl
    go_enter Tryd.func41, Tryd.ntmps41
    go_wp2_with fail
    refine HC.out.mono ?_
    rintro e w1 ⟨rfl, rfl⟩
    go_wp2_with fail
    refine (HS.out _).mono ?_
    rintro e w2 ⟨rfl, rfl⟩
    go_wp2_with fail
    refine (HO.out _).mono ?_
    rintro e w3 ⟨rfl, rfl⟩
    go_wp2
    go_ret
    have e0 : ordZ [] = [] := by unfold ordZ; simp [Lib.compact, Lib.compactUpTo]
    exact ⟨none, 0, by rw [e0]; rfl, by rw [e0]; exact World.ownsRow_nil _ _ _ _, Below.refl _ _⟩
  | some a =>
    rcases Nat.eq_zero_or_pos n with h0 | h0
    · subst h0
      obtain rfl : zs = [] := List.length_eq_zero_iff.1 hl
      exact order_tail 0 _ [] w (by omega) (Tryd.slices_Clone_int_zero a c w)
    · obtain ⟨ad, e, _, hc⟩ := hR.2 h0
      cases e
      obtain ⟨b, off, spot⟩ := a
      have hget : ∀ j, j < zs.length → w.cell? ((⟨b, off, spot⟩ : Addr).add j) = some (.int .i64 (zs.getD j 0)) := fun j hj => hc j _ (by simp [rowZ, List.getD, List.getElem?_eq_getElem hj])
      have hspot : spot = none := by simpa [Addr.add] using World.cell?_spot (hget 0 (by omega))
      subst hspot
      have hget' : ∀ j, j < zs.length → w.cell? ⟨b, off + j, none⟩ = some (.int .i64 (zs.getD j 0)) := fun j hj => by have := hget j hj; rwa [add_block_off] at this
      have := Tryd.slices_Clone_int b off n c zs w (by omega) (by omega) hget'
      rw [← hl, List.take_length, hl] at this
      exact order_tail n _ zs w (by omega) this
end Go.Proofs.YtcmlfkoeajpliaaDoor
namespace Go.Proofs.YtcmlfkoeajpliaaDoor
open Go.RowKit Go.Lib
theorem compact_upto (d : Array Int) (hs : ∀ i j, i < j → j < d.size → d[i]! ≤ d[j]!) : ∀ m, m ≤ d.size → (Lib.compactUpTo d m).Pairwise (· < ·) ∧ ∀ x, x ∈ Lib.compactUpTo d m ↔ ∃ j, j < m ∧ d[j]! = x
  | 0, _ => ⟨by simp [Lib.compactUpTo], fun x => by simp [Lib.compactUpTo]⟩
  | m + 1, h => by
    obtain ⟨h1, h2⟩ := compact_upto d hs m (by omega)
    rw [Lib.compactUpTo_succ]
    by_cases hk : Lib.keeps d m = true
    · rw [if_pos hk]
      have hk' : m = 0 ∨ d[m]! ≠ d[m - 1]! := by unfold Lib.keeps at hk; exact of_decide_eq_true hk
      refine ⟨List.pairwise_append.2 ⟨h1, by simp, fun x hx y hy => ?_⟩, fun x => ?_⟩
      · obtain rfl : y = d[m]! := by simpa using hy
        obtain ⟨j, hj, rfl⟩ := (h2 x).1 hx
        rcases hk' with hk' | hk'
        · omega
        · have h3 := hs (m - 1) m (by omega) (by omega)
          rcases Nat.lt_or_ge j (m - 1) with h4 | h4
          · have h5 := hs j (m - 1) h4 (by omega); omega
          · have h6 : j = m - 1 := by omega
            rw [h6]; omega
      · rw [List.mem_append, h2]
        constructor
        · rintro (⟨j, hj, rfl⟩ | hx)
          · exact ⟨j, by omega, rfl⟩
          · exact ⟨m, by omega, ((List.mem_singleton.1 hx)).symm⟩
        · rintro ⟨j, hj, rfl⟩
          rcases Nat.lt_or_ge j m with h4 | h4
          · exact .inl ⟨j, h4, rfl⟩
          · obtain rfl : j = m := by omega
            exact .inr (by simp)
    · rw [if_neg hk]
      have hk' : m ≠ 0 ∧ d[m]! = d[m - 1]! := by
        unfold Lib.keeps at hk
        simpa using hk
      simp only [List.append_nil]
      refine ⟨h1, fun x => ?_⟩
      rw [h2]
      constructor
      · rintro ⟨j, hj, rfl⟩; exact ⟨j, by omega, rfl⟩
      · rintro ⟨j, hj, rfl⟩
        rcases Nat.lt_or_ge j m with h4 | h4
        · exact ⟨j, h4, rfl⟩
        · obtain rfl : j = m := by omega
          exact ⟨j - 1, by omega, hk'.2.symm⟩
theorem ordZ_both (zs : List Int) : (ordZ zs).Pairwise (· < ·) ∧ ∀ x, x ∈ ordZ zs ↔ x ∈ zs := by
  obtain ⟨ms, hms⟩ : ∃ ms, (zs.mergeSort fun x y => decide (x ≤ y)) = ms := ⟨_, rfl⟩
  have hp : ms.Perm zs := by rw [← hms]; exact List.mergeSort_perm _ _
  have hs : ms.Pairwise (fun x y : Int => decide (x ≤ y) = true) := by
    rw [← hms]
    exact List.pairwise_mergeSort (fun a b c h1 h2 => by simp at h1 h2 ⊢; omega) (fun a b => by simp; omega) zs
  unfold ordZ Lib.compact
  rw [hms]
  have hg : ∀ j, j < ms.length → ms.toArray[j]! = ms.getD j 0 := fun j hj => by simp [List.getD, hj]
  obtain ⟨h1, h2⟩ := compact_upto ms.toArray (fun i j hij hj => by
    simp only [List.size_toArray] at hj
    rw [hg i (by omega), hg j hj]
    have := List.pairwise_iff_getElem.1 hs i j (by omega) hj hij
    simpa [List.getD, List.getElem?_eq_getElem hj, List.getElem?_eq_getElem (show i < ms.length by omega)] using this) ms.length (by simp)
  refine ⟨h1, fun x => ?_⟩
  rw [h2, ← hp.mem_iff, List.mem_iff_getElem]
  constructor
  · rintro ⟨j, hj, e⟩; exact ⟨j, hj, by rw [← e, hg j hj]; simp [List.getD, List.getElem?_eq_getElem hj]⟩
  · rintro ⟨j, hj, e⟩; exact ⟨j, hj, by rw [hg j hj, ← e]; simp [List.getD, List.getElem?_eq_getElem hj]⟩
theorem lt_unique : ∀ {a b : List Int}, a.Pairwise (· < ·) → b.Pairwise (· < ·) → (∀ x, x ∈ a ↔ x ∈ b) → a = b
  | [], [], _, _, _ => rfl
  | [], y :: b, _, _, h => nomatch (h y).2 (.head _)
  | x :: a, [], _, _, h => nomatch (h x).1 (.head _)
  | x :: a, y :: b, ha, hb, h => by
    rw [List.pairwise_cons] at ha hb
    have e : x = y := by
      rcases List.mem_cons.1 ((h x).1 (.head _)) with h1 | h1
      · exact h1
      · rcases List.mem_cons.1 ((h y).2 (.head _)) with h2 | h2
        · exact h2.symm
        · have := hb.1 x h1; have := ha.1 y h2; omega
    subst e
    rw [lt_unique ha.2 hb.2 fun z => ?_]
    constructor
    · intro hz
      rcases List.mem_cons.1 ((h z).1 (.tail _ hz)) with rfl | h1
      · have := ha.1 z hz; omega
      · exact h1
    · intro hz
      rcases List.mem_cons.1 ((h z).2 (.tail _ hz)) with rfl | h1
      · have := hb.1 z hz; omega
      · exact h1
theorem ordZ_is {zs l : List Int} (h : l.Pairwise (· < ·)) (hm : ∀ x, x ∈ l ↔ x ∈ zs) : ordZ zs = l :=
  lt_unique (ordZ_both zs).1 h fun x => ((ordZ_both zs).2 x).trans (hm x).symm
theorem ordZ_len (zs : List Int) : (ordZ zs).length ≤ zs.length := by
  unfold ordZ
  have := Lib.compact_length_le (zs.mergeSort fun x y => decide (x ≤ y))
  rwa [List.length_mergeSort] at this
end Go.Proofs.YtcmlfkoeajpliaaDoor
