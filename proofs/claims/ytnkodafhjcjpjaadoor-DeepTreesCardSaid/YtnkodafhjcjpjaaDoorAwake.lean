/- The example of the document for package deep. No condition beyond what the theorems state. -/
import Derived.Test.YtnkodafhjcjpjaaDoorMerges
import Derived.Test.YtnkodafhjcjpjaaDoorDeep
namespace Go.Proofs.YtnkodafhjcjpjaaDoor
open Go.RowKit Go.Lib
set_option maxRecDepth 100000
set_option maxHeartbeats 8000000
theorem addj (g j : Nat) : ((⟨g, 0, none⟩ : Addr).add j) = ⟨g, j, none⟩ := by unfold Addr.add; split <;> simp_all
theorem row_new (w : World) (xs : List Value) (t : TypeId) (g j : Nat) (u : Value) (hg : g = w.heap.size) (h : xs[j]? = some u) : (w.alloc (.cells xs.toArray t)).cell? ⟨g, j, none⟩ = some u := by
  subst hg
  have hh := heap_alloc_new w (.cells xs.toArray t)
  unfold World.cell?
  rw [hh]
  simpa using h
theorem nil_row (P : Nat → Prop) (w : World) (s : Nat) : RdP P w s none 0 [] := ⟨by simp, fun h => absurd h (Nat.lt_irrefl _)⟩
def exA (g : Nat) : Tr := .mk 2 [97] [] (some ⟨g, 0, none⟩) 2 [([120], [49]), ([121], [50])] none 0 []
def exB (g : Nat) : Tr := .mk 2 [97] [] (some ⟨g, 0, none⟩) 2 [([121], [50]), ([120], [49])] none 0 []
def exN (l : List UInt8) : Tr := .mk 2 l [] none 0 [] none 0 []
theorem ex_same (g h : Nat) : canon (exA g).pl = canon (exB h).pl := by
  refine (canon_iff 2 [97] [] _ [] [97] [] _ []).2 ?_
  rw [if_neg (by decide), if_pos rfl]
  exact ⟨rfl, cnt_same.2 ⟨rfl, by decide⟩, rfl⟩
theorem ex_other : ¬ canon (exN [97]).pl = canon (exN [98]).pl := by
  intro h
  have := (canon_iff 2 [97] [] [] [] [98] [] [] []).1 h
  simp at this
theorem exN_in (l : List UInt8) (P : Nat → Prop) (w : World) : (exN l).In P w := by
  unfold exN; rw [Tr.In]; exact ⟨nil_row _ _ _, nil_row _ _ _, by simp [InL]⟩
theorem exA_in (w : World) : (exA w.heap.size).In (fun b => b < w.heap.size + 2) ((w.alloc (.cells #[.string ⟨#[120]⟩, .string ⟨#[49]⟩, .string ⟨#[121]⟩, .string ⟨#[50]⟩] 32)).alloc (.cells #[.string ⟨#[121]⟩, .string ⟨#[50]⟩, .string ⟨#[120]⟩, .string ⟨#[49]⟩] 32)) := by
  unfold exA; rw [Tr.In]
  refine ⟨⟨rfl, fun _ => ⟨_, rfl, by simp, fun j u hu => ?_⟩⟩, nil_row _ _ _, by simp [InL]⟩
  rw [addj, World.cell?_alloc_lt _ _ _ (by simp)]
  exact row_new w [.string ⟨#[120]⟩, .string ⟨#[49]⟩, .string ⟨#[121]⟩, .string ⟨#[50]⟩] 32 _ j u rfl hu
theorem exB_in (w : World) : (exB (w.heap.size + 1)).In (fun b => b < w.heap.size + 2) ((w.alloc (.cells #[.string ⟨#[120]⟩, .string ⟨#[49]⟩, .string ⟨#[121]⟩, .string ⟨#[50]⟩] 32)).alloc (.cells #[.string ⟨#[121]⟩, .string ⟨#[50]⟩, .string ⟨#[120]⟩, .string ⟨#[49]⟩] 32)) := by
  unfold exB; rw [Tr.In]
  refine ⟨⟨rfl, fun _ => ⟨_, rfl, by simp, fun j u hu => ?_⟩⟩, nil_row _ _ _, by simp [InL]⟩
  rw [addj]
  exact row_new (w.alloc (.cells #[.string ⟨#[120]⟩, .string ⟨#[49]⟩, .string ⟨#[121]⟩, .string ⟨#[50]⟩] 32)) [.string ⟨#[121]⟩, .string ⟨#[50]⟩, .string ⟨#[120]⟩, .string ⟨#[49]⟩] 32 _ j u (by simp) hu
theorem fit_small (t : PT) (h : t.bulk ≤ 100) : t.fit := fit_of_bulk (by omega)
theorem ex_yes (w : World) : Calls Tryd.prog 7 #[.agg #[.int .i64 2, .string ⟨#[97]⟩, .string ⟨#[]⟩, .slice (some ⟨w.heap.size, 0, none⟩) 2 2, .slice none 0 0], .agg #[.int .i64 2, .string ⟨#[97]⟩, .string ⟨#[]⟩, .slice (some ⟨w.heap.size + 1, 0, none⟩) 2 2, .slice none 0 0]]
    ((w.alloc (.cells #[.string ⟨#[120]⟩, .string ⟨#[49]⟩, .string ⟨#[121]⟩, .string ⟨#[50]⟩] 32)).alloc (.cells #[.string ⟨#[121]⟩, .string ⟨#[50]⟩, .string ⟨#[120]⟩, .string ⟨#[49]⟩] 32)) fun e w' => e = .returned (.bool true) ∧ Below w.heap.size w w' := by
  refine (trees_any (exA w.heap.size) (exB (w.heap.size + 1)) _ _ (exA_in w) (exB_in w) (by intro b hb; simpa using hb) (fit_small _ (by simp [exA, Tr.pl, PT.bulk, bulkP, bulkL, plL])) (fit_small _ (by simp [exB, Tr.pl, PT.bulk, bulkP, bulkL, plL])) ⟨Nat.le_refl _, Nat.zero_le _, trivial⟩ ⟨Nat.le_refl _, Nat.zero_le _, trivial⟩).mono ?_
  rintro e w' ⟨r, rfl, hr, hb⟩
  rw [hr.2 (ex_same _ _)]
  exact ⟨rfl, bt (ba (ba (Below.refl _ _))) hb⟩
theorem ex_no (w : World) : Calls Tryd.prog 7 #[.agg #[.int .i64 2, .string ⟨#[97]⟩, .string ⟨#[]⟩, .slice none 0 0, .slice none 0 0], .agg #[.int .i64 2, .string ⟨#[98]⟩, .string ⟨#[]⟩, .slice none 0 0, .slice none 0 0]] w fun e w' => e = .returned (.bool false) ∧ Below w.heap.size w w' := by
  refine (trees_any (exN [97]) (exN [98]) (fun _ => False) _ (exN_in _ _ _) (exN_in _ _ _) (by intro b hb; cases hb) (fit_small _ (by simp [exN, Tr.pl, PT.bulk, bulkP, bulkL, plL])) (fit_small _ (by simp [exN, Tr.pl, PT.bulk, bulkP, bulkL, plL])) ⟨Nat.le_refl _, Nat.zero_le _, trivial⟩ ⟨Nat.le_refl _, Nat.zero_le _, trivial⟩).mono ?_
  rintro e w' ⟨r, rfl, hr, hb⟩
  cases r
  · exact ⟨rfl, hb⟩
  · exact absurd (hr.1 rfl) ex_other
def exU (w : World) : World := ((w.alloc (.cells #[.string ⟨#[120]⟩, .string ⟨#[49]⟩] 32)).alloc (.cells #[.string ⟨#[121]⟩, .string ⟨#[50]⟩] 32)).alloc (.cells #[.int .i64 4, .string ⟨#[]⟩, .string ⟨#[120]⟩, .slice none 0 0, .slice none 0 0, .int .i64 4, .string ⟨#[]⟩, .string ⟨#[]⟩, .slice none 0 0, .slice none 0 0, .int .i64 4, .string ⟨#[]⟩, .string ⟨#[121]⟩, .slice none 0 0, .slice none 0 0] 26)
theorem exU_call (w : World) : Calls Tryd.prog 10 #[.slice (some ⟨w.heap.size + 1 + 1, 0, none⟩) 3 3] (exU w) fun e w' => ∃ g cc, e = .returned (.slice (some ⟨g, 0, none⟩) 1 cc) ∧ (exU w).heap.size ≤ g ∧ g < w'.heap.size ∧ w'.cell? ⟨g, 2, none⟩ = some (.string ⟨#[120, 121]⟩) ∧ Below (exU w).heap.size (exU w) w' := by
  have h : ∀ j u, ([.int .i64 4, .string ⟨#[]⟩, .string ⟨#[120]⟩, .slice none 0 0, .slice none 0 0, .int .i64 4, .string ⟨#[]⟩, .string ⟨#[]⟩, .slice none 0 0, .slice none 0 0, .int .i64 4, .string ⟨#[]⟩, .string ⟨#[121]⟩, .slice none 0 0, .slice none 0 0] : List Value)[j]? = some u → (exU w).cell? ⟨w.heap.size + 1 + 1, j, none⟩ = some u := fun j u hu => row_new _ _ 26 _ j u (by simp) hu
  exact merge_ex (w.heap.size + 1 + 1) 3 (exU w) (by simp [exU]) (h 0 _ rfl) (h 1 _ rfl) (h 2 _ rfl) (h 3 _ rfl) (h 4 _ rfl) (h 5 _ rfl) (h 6 _ rfl) (h 7 _ rfl) (h 8 _ rfl) (h 9 _ rfl) (h 10 _ rfl) (h 11 _ rfl) (h 12 _ rfl) (h 13 _ rfl) (h 14 _ rfl)
theorem exU_x (w : World) (j : Nat) (u : Value) (h : ([.string ⟨#[120]⟩, .string ⟨#[49]⟩] : List Value)[j]? = some u) : (exU w).cell? ⟨w.heap.size, j, none⟩ = some u := by
  unfold exU
  rw [World.cell?_alloc_lt _ _ _ (by simp; omega), World.cell?_alloc_lt _ _ _ (by simp)]
  exact row_new w _ 32 _ j u rfl h
theorem exU_y (w : World) (j : Nat) (u : Value) (h : ([.string ⟨#[121]⟩, .string ⟨#[50]⟩] : List Value)[j]? = some u) : (exU w).cell? ⟨w.heap.size + 1, j, none⟩ = some u := by
  unfold exU
  rw [World.cell?_alloc_lt _ _ _ (by simp)]
  exact row_new _ _ 32 _ j u (by simp) h
def exJ (w : World) : World := w.alloc (.cells #[.int .i64 1, .int .i64 1, .int .i64 0, .string ⟨#[]⟩, .bool false, .int .i64 4, .int .i64 0, .int .i64 0, .string ⟨#[]⟩, .bool true] 37)
theorem exJ_call (w : World) : Calls Tryd.prog 11 #[.string ⟨#[32]⟩, .slice (some ⟨w.heap.size, 0, none⟩) 2 2] (exJ w) fun e w' => e = .returned (.string ⟨#[49, 32, 116, 114, 117, 101]⟩) ∧ Below w.heap.size w w' := by
  have h : ∀ j u, ([.int .i64 1, .int .i64 1, .int .i64 0, .string ⟨#[]⟩, .bool false, .int .i64 4, .int .i64 0, .int .i64 0, .string ⟨#[]⟩, .bool true] : List Value)[j]? = some u → (exJ w).cell? ⟨w.heap.size, j, none⟩ = some u := fun j u hu => row_new _ _ 37 _ j u rfl hu
  refine (join_ex w.heap.size 2 (exJ w) (by simp [exJ]) (h 0 _ rfl) (h 1 _ rfl) (h 2 _ rfl) (h 3 _ rfl) (h 4 _ rfl) (h 5 _ rfl) (h 6 _ rfl) (h 7 _ rfl) (h 8 _ rfl) (h 9 _ rfl)).mono ?_
  rintro e w' ⟨rfl, hb⟩
  exact ⟨rfl, bt (ba (Below.refl _ _)) hb⟩
theorem awake_any (w : World) : Calls Tryd.prog 4 #[] w fun e w' => e = .returned (.bool true) ∧ Below w.heap.size w w' := by
  go_enter Tryd.func4, Tryd.ntmps4
  go_wp2_with fail
  refine (exU_call w).mono ?_
  rintro e w1 ⟨g, cc, rfl, hg0, hg1, hg2, hb⟩
  have hz : (exU w).heap.size = w.heap.size + 3 := by simp [exU]
  have hz1 := hb.size
  have f := fun b o (hbb : b < (exU w).heap.size) => hb.cell (p := ⟨b, o, none⟩) hbb
  have x0 : w1.cell? ⟨w.heap.size, 0, none⟩ = some (.string ⟨#[120]⟩) := (f _ 0 (by omega)).trans (exU_x w 0 _ rfl)
  have x1 : w1.cell? ⟨w.heap.size, 1, none⟩ = some (.string ⟨#[49]⟩) := (f _ 1 (by omega)).trans (exU_x w 1 _ rfl)
  have y0 : w1.cell? ⟨w.heap.size + 1, 0, none⟩ = some (.string ⟨#[121]⟩) := (f _ 0 (by omega)).trans (exU_y w 0 _ rfl)
  have y1 : w1.cell? ⟨w.heap.size + 1, 1, none⟩ = some (.string ⟨#[50]⟩) := (f _ 1 (by omega)).trans (exU_y w 1 _ rfl)
  have HB1 : Hid (Below w.heap.size w w1) := Lib.hid (bt (ba (ba (ba (Below.refl _ _)))) hb)
  rw [hz] at hz1
  have zx : w.heap.size < w1.heap.size := by omega
  have zy : w.heap.size + 1 < w1.heap.size := by omega
  clear f hb hg0 hz
  go_wp2_with fail
  refine (ex_yes w1).mono ?_
  rintro e w2 ⟨rfl, hb2⟩
  have HB2 : Hid (Below w.heap.size w w2) := Lib.hid (bt HB1.out hb2)
  have k2 := (hb2.cell (p := ⟨g, 2, none⟩) hg1).trans hg2
  have hg3 : g < w2.heap.size := Nat.lt_of_lt_of_le hg1 hb2.size
  clear hb2 hg1 hg2 x0 x1 y0 y1 zx zy hz1
  go_wp2_with fail
  refine (ex_no w2).mono ?_
  rintro e w3 ⟨rfl, hb3⟩
  have HB3 : Hid (Below w.heap.size w w3) := Lib.hid (bt HB2.out hb3)
  have k3 := (hb3.cell (p := ⟨g, 2, none⟩) hg3).trans k2
  have hg4 : g < w3.heap.size := Nat.lt_of_lt_of_le hg3 hb3.size
  clear hb3 hg3 k2
  go_wp2_with fail
  refine (exJ_call w3).mono ?_
  rintro e w4 ⟨rfl, hb4⟩
  have HB4 : Hid (Below w.heap.size w w4) := Lib.hid (bt HB3.out hb4)
  clear hb4
  go_wp2
  go_ret
  exact ⟨rfl, HB4.out⟩
end Go.Proofs.YtnkodafhjcjpjaaDoor
