/- What the writer holds; package serial; the example of the document. No condition beyond what the theorems state. -/
import Derived.Test.YtonkepjfnbcncaaWriter
import Derived.RegionTactic
namespace Go.Proofs.Ytonkepjfnbcncaa
open Go.RowKit Go.Lib
set_option maxRecDepth 100000
set_option maxHeartbeats 8000000
theorem byte_cells : Try.prog.cellsOf 5 = 1 := by kernel_rfl
theorem str_nil (B b : Nat) (p : Value) (w : World) (hbk : w.heap[b]? = some (.cells #[p, .slice none 0 0] 41 (0, 0))) :
    Calls Try.prog 10 #[.pointer (some ⟨b, 0, none⟩)] w fun e w' => e = .returned (.string ⟨#[]⟩) ∧ Below B w w' := by
  have hUS : ∀ (W : World) (q : Option Addr), (Builtin.unsafeString_ #[47, 3] 9 #[.pointer q, .int .i64 0]).run Try.prog W = .ok (.string .empty) W := fun W q => Lib.run_unsafeString_none W _ _ _ q
  have c1 : w.drew.cell? ⟨b, 1, none⟩ = some (.slice none 0 0) := by
    have : w.drew.heap[b]? = some (.cells #[p, .slice none 0 0] 41 (0, 0)) := hbk
    rw [Lib.cell_of_heap this]; rfl
  have hSD : (Builtin.unsafeSliceData_ #[37] 47 #[.slice none 0 0]).run Try.prog w.drew = .ok (.pointer none) w.drew := rfl
  have mixed : Try.prog.follows .mixedOrders = true := by kernel_rfl
  go_enter Try.func10, Try.ntmps10
  go_wp2
  go_region_o
  all_goals (go_wp2; go_ret; exact ⟨rfl, Below.drew (Below.refl B w)⟩)
theorem str_noroom (B b g : Nat) (p : Value) (cur : Array Value) (w : World) (hBw : B ≤ w.heap.size) (hbk : w.heap[b]? = some (.cells #[p, .slice (some ⟨g, 0, none⟩) 0 0] 41 (0, 0))) (hg : w.heap[g]? = some (.cells cur 5 (0, 0))) :
    Calls Try.prog 10 #[.pointer (some ⟨b, 0, none⟩)] w fun e w' => e = .returned (.string ⟨#[]⟩) ∧ Below B w w' := by
  have hUS : ∀ (W : World) (q : Option Addr), (Builtin.unsafeString_ #[47, 3] 9 #[.pointer q, .int .i64 0]).run Try.prog W = .ok (.string .empty) W := fun W q => Lib.run_unsafeString_none W _ _ _ q
  have hlt : b < w.heap.size := (Array.getElem?_eq_some_iff.1 hbk).1
  have c1 : w.drew.cell? ⟨b, 1, none⟩ = some (.slice (some ⟨g, 0, none⟩) 0 0) := by
    have : w.drew.heap[b]? = some (.cells #[p, .slice (some ⟨g, 0, none⟩) 0 0] 41 (0, 0)) := hbk
    rw [Lib.cell_of_heap this]; rfl
  have hSD : (Builtin.unsafeSliceData_ #[37] 47 #[.slice (some ⟨g, 0, none⟩) 0 0]).run Try.prog w.drew = .ok (.pointer (some ⟨w.drew.heap.size, 0, none⟩)) (w.drew.alloc (.view ⟨g, 0, none⟩ 5)) :=
    Lib.run_unsafeSliceData_zero w.drew _ _ 5 Try.underlying47 ⟨g, 0, none⟩ 0 (5, cur.size) (by have hg' : w.drew.heap[g]? = some (.cells cur 5 (0, 0)) := hg; simp [World.shape?, hg'])
  have c2 : (w.drew.alloc (.view ⟨g, 0, none⟩ 5)).cell? ⟨b, 1, none⟩ = some (.slice (some ⟨g, 0, none⟩) 0 0) := by
    have : (w.drew.alloc (.view ⟨g, 0, none⟩ 5)).heap[b]? = _ := (Lib.alloc_old w.drew _ b hlt).trans hbk
    rw [Lib.cell_of_heap this]; rfl
  have c3 : (w.alloc (.view ⟨g, 0, none⟩ 5)).drew.cell? ⟨b, 1, none⟩ = some (.slice (some ⟨g, 0, none⟩) 0 0) := c2
  have c0 : w.cell? ⟨b, 1, none⟩ = some (.slice (some ⟨g, 0, none⟩) 0 0) := c1
  have mixed : Try.prog.follows .mixedOrders = true := by kernel_rfl
  go_enter Try.func10, Try.ntmps10
  go_wp2
  go_region_o
  all_goals (go_wp2; go_ret; exact ⟨rfl, (Below.drew (Below.refl B w)).alloc hBw _⟩)
theorem str_room (B b g cap : Nat) (p : Value) (w : World) (hc0 : cap ≠ 0) (hbk : w.heap[b]? = some (.cells #[p, .slice (some ⟨g, 0, none⟩) 0 cap] 41 (0, 0))) :
    Calls Try.prog 10 #[.pointer (some ⟨b, 0, none⟩)] w fun e w' => e = .returned (.string ⟨#[]⟩) ∧ Below B w w' := by
  have hUS : ∀ (W : World) (q : Option Addr), (Builtin.unsafeString_ #[47, 3] 9 #[.pointer q, .int .i64 0]).run Try.prog W = .ok (.string .empty) W := fun W q => Lib.run_unsafeString_none W _ _ _ q
  have c1 : w.drew.cell? ⟨b, 1, none⟩ = some (.slice (some ⟨g, 0, none⟩) 0 cap) := by
    have : w.drew.heap[b]? = some (.cells #[p, .slice (some ⟨g, 0, none⟩) 0 cap] 41 (0, 0)) := hbk
    rw [Lib.cell_of_heap this]; rfl
  have hSD : (Builtin.unsafeSliceData_ #[37] 47 #[.slice (some ⟨g, 0, none⟩) 0 cap]).run Try.prog w.drew = .ok (.pointer (some ⟨g, 0, none⟩)) w.drew := Lib.run_unsafeSliceData_row _ _ _ _ _ _ hc0
  clear hc0
  have mixed : Try.prog.follows .mixedOrders = true := by kernel_rfl
  go_enter Try.func10, Try.ntmps10
  go_wp2
  go_region_o
  all_goals (go_wp2; go_ret; exact ⟨rfl, Below.drew (Below.refl B w)⟩)
theorem str_some (B b : Nat) (l : List UInt8) (w : World) (h : Bd B b l w) (h0 : l ≠ []) :
    Calls Try.prog 10 #[.pointer (some ⟨b, 0, none⟩)] w fun e w' => e = .returned (.string (ba' l)) ∧ Below B w w' := by
  obtain ⟨p, hB, v, hbk, hown, hne⟩ : ∃ p, Lib.BuilderAt 41 5 B b p (Lib.byteCells l) w := by
    rcases h with h | h
    · exact ⟨_, h⟩
    · exact ⟨_, h⟩
  have hl0 : l.length ≠ 0 := by simpa using h0
  rw [Lib.byteCells_length] at hown
  obtain ⟨g, cap, cur, rfl, hbg, hg, hnc, hcm, hcs, htake⟩ : ∃ g cap cur, v = .slice (some ⟨g, 0, none⟩) l.length cap ∧ B ≤ g ∧ w.heap[g]? = some (.cells cur 5 (0, 0)) ∧ l.length ≤ cap ∧ cap ≤ maxLen ∧ cur.size = cap * 1 ∧ cur.toList.take (l.length * 1) = Lib.byteCells l := by
    rcases hown.2 with ⟨_, hz⟩ | ⟨g, cap, cur, hv, r⟩
    · exact absurd hz hl0
    · exact ⟨g, cap, cur, hv, r⟩
  have c1 : w.drew.cell? ⟨b, 1, none⟩ = some (.slice (some ⟨g, 0, none⟩) l.length cap) := by
    have : w.drew.heap[b]? = some (.cells #[p, .slice (some ⟨g, 0, none⟩) l.length cap] 41 (0, 0)) := hbk
    rw [Lib.cell_of_heap this]; rfl
  have hSD : (Builtin.unsafeSliceData_ #[37] 47 #[.slice (some ⟨g, 0, none⟩) l.length cap]).run Try.prog w.drew = .ok (.pointer (some ⟨g, 0, none⟩)) w.drew :=
    Lib.run_unsafeSliceData_row _ _ _ _ _ _ (by omega)
  have hUS : (Builtin.unsafeString_ #[47, 3] 9 #[.pointer (some ⟨g, 0, none⟩), .int .i64 l.length]).run Try.prog w.drew = .ok (.string ⟨l.toArray⟩) (w.drew.freeze ⟨g, 0, none⟩ l.length) := by
    refine Lib.run_unsafeString_row w.drew 47 3 9 5 Try.underlying47 byte_cells g cur.size (by have hg' : w.drew.heap[g]? = some (.cells cur 5 (0, 0)) := hg; simp [World.shape?, hg']) l h0 (by omega) (by unfold maxLen at hcm; omega) ?_
    intro j x hx
    exact hown.cells (g := g) rfl j (.int .u8 x.toNat) (by simp [Lib.byteCells, hx])
  clear hown hg hnc hcm hcs htake h
  have mixed : Try.prog.follows .mixedOrders = true := by kernel_rfl
  go_enter Try.func10, Try.ntmps10
  go_wp2
  go_region_o
  all_goals (go_wp2; go_ret; exact ⟨rfl, Lib.below_freeze (Below.drew (Below.refl B w)) (p := ⟨g, 0, none⟩) hbg _⟩)
theorem str_any (B b : Nat) (l : List UInt8) (w : World) (h : Bd B b l w) (hBw : B ≤ w.heap.size) :
    Calls Try.prog 10 #[.pointer (some ⟨b, 0, none⟩)] w fun e w' => e = .returned (.string (ba' l)) ∧ Below B w w' := by
  by_cases h0 : l = []
  · subst h0
    obtain ⟨p, hB, v, hbk, hown, hne⟩ : ∃ p, Lib.BuilderAt 41 5 B b p [] w := by
      rcases h with h | h
      · exact ⟨_, h⟩
      · exact ⟨_, h⟩
    rcases hown.2 with ⟨rfl, _⟩ | ⟨g, cap, cur, rfl, hbg, hg, _, _, _, _⟩
    · exact str_nil B b p w hbk
    · by_cases hc0 : cap = 0
      · subst hc0
        exact str_noroom B b g p cur w hBw hbk hg
      · exact str_room B b g cap p w hc0 hbk
  · exact str_some B b l w h h0
end Go.Proofs.Ytonkepjfnbcncaa
namespace Go.Proofs.Ytonkepjfnbcncaa
open Go.RowKit Go.Lib
set_option maxRecDepth 100000
set_option maxHeartbeats 8000000
theorem answer_any (B b : Nat) (f : Bool) (l : List UInt8) (w : World) (h : Bd B b l w) (hBw : B ≤ w.heap.size) :
    Calls Try.prog 8 #[.pointer (some ⟨b, 0, none⟩), .bool f] w fun e w' => e = .returned (.tuple #[.string (ba' (if f = true then l else [])), .int .i64 (if f = true then 0 else 57)]) ∧ Below B w w' := by
  have HS := Lib.hid (str_any B b l w h hBw)
  clear h
  go_enter Try.func8, Try.ntmps8
  cases f with
  | false =>
    go_wp2
    go_ret2
    exact ⟨rfl, Below.refl _ _⟩
  | true =>
    go_wp2_with fail
    refine HS.out.mono ?_
    rintro e w1 ⟨rfl, h1⟩
    go_wp2
    go_ret2
    exact ⟨rfl, h1⟩
theorem wr_new (w : World) : Bd w.heap.size w.heap.size [] (w.alloc (.cells #[.pointer none, .slice none 0 0] 41)) :=
  .inl ⟨Nat.le_refl _, _, heap_alloc_new _ _, World.ownsRow_nil _ _ _ _, fun e => by cases e⟩
theorem serial_any (A : Option Addr) (n c : Nat) (us : List Tr) (m : Int) (w : World) (hR : RdP (fun b => b < w.heap.size) w 5 A n (rowT us)) (hn : us.length = n) (hI : InL (fun b => b < w.heap.size) w us) (hb : bulkL (plL us) ≤ 1048576) (hm : w.cell? ⟨0, 0, none⟩ = some (.int .i64 m)) :
    Calls Try.prog 6 #[.slice A n c] w fun e w' => e = .returned (.tuple #[.string (ba' (if (wL (plL us)).1 = true then (wL (plL us)).2 else [])), .int .i64 (if (wL (plL us)).1 = true then 0 else 57)]) ∧ Below w.heap.size w w' := by
  have h0 : 0 < w.heap.size := World.block_lt_of_cell? w ⟨0, 0, none⟩ hm
  obtain ⟨w0, hw0⟩ : ∃ w0, w.alloc (.cells #[.pointer none, .slice none 0 0] 41) = w0 := ⟨_, rfl⟩
  have hB0 : Below w.heap.size w w0 := by rw [← hw0]; exact ba (Below.refl _ _)
  have hD0 : Bd w.heap.size w.heap.size [] w0 := by rw [← hw0]; exact wr_new w
  have HC := Lib.hid (trees_any w.heap.size w.heap.size m h0 us (fun t _ => tree_any _ _ m h0 t) (fun b => b < w.heap.size) A c n w0 [] (hR.keep (fun _ h => h) (fun p hp => hB0.cell hp)) hn (inL_iff.2 fun t ht => (inL_iff.1 hI t ht).keep (fun _ h => h) (fun p hp => hB0.cell hp)) (fun _ h => h) hD0 (by simp; omega) (by omega) ((hB0.cell (p := ⟨0, 0, none⟩) h0).trans hm) hB0.size)
  obtain ⟨R, hRe⟩ : ∃ R, wL (plL us) = R := ⟨_, rfl⟩
  rw [hRe] at HC ⊢
  obtain ⟨f, l⟩ := R
  simp only at HC ⊢
  obtain ⟨X, hX⟩ : ∃ X, (if f = true then l else ([] : List UInt8)) = X := ⟨_, rfl⟩
  obtain ⟨E, hE⟩ : ∃ E, (if f = true then (0 : Int) else 57) = E := ⟨_, rfl⟩
  rw [hX, hE]
  have HXE := Lib.hid (⟨hX, hE⟩ : _ ∧ _)
  have HB0 := Lib.hid hB0
  clear hX hE hR hn hI hb hm hRe hD0 hB0
  go_enter Try.func6, Try.ntmps6
  go_wp2_with fail
  refine HC.out.mono ?_
  rintro e w1 ⟨rfl, h1, h2, _⟩
  have HA := Lib.hid (answer_any w.heap.size w.heap.size f _ w1 h1 (by have := HB0.out.size; have := h2.size; omega))
  rw [List.nil_append, HXE.out.1, HXE.out.2] at HA
  have HB1 := Lib.hid (HB0.out.trans h2)
  clear h1 h2 HC
  go_wp2_with fail
  refine HA.out.mono ?_
  rintro e w2 ⟨rfl, h3⟩
  have HB2 := Lib.hid (HB1.out.trans h3)
  clear h3 HA
  go_wp2
  go_ret2
  exact ⟨rfl, HB2.out⟩
end Go.Proofs.Ytonkepjfnbcncaa
namespace Go.Proofs.Ytonkepjfnbcncaa
open Go.RowKit Go.Lib
set_option maxRecDepth 100000
set_option maxHeartbeats 8000000
theorem addj (g j : Nat) : ((⟨g, 0, none⟩ : Addr).add j) = ⟨g, j, none⟩ := by unfold Addr.add; split <;> simp_all
theorem row_new (w : World) (xs : List Value) (t : TypeId) (g j : Nat) (u : Value) (hg : g = w.heap.size) (h : xs[j]? = some u) : (w.alloc (.cells xs.toArray t)).cell? ⟨g, j, none⟩ = some u := by
  subst hg
  have hh := heap_alloc_new w (.cells xs.toArray t)
  unfold World.cell?
  rw [hh]
  simpa using h
theorem nil_row (P : Nat → Prop) (w : World) (s : Nat) : RdP P w s none 0 [] := ⟨by simp, fun h => absurd h (Nat.lt_irrefl _)⟩
def exK : List Tr := [.mk 4 [] [49, 62, 48] none 0 [] none 0 []]
def exA (H : Nat) : Tr := .mk 2 [97] [] (some ⟨H, 0, none⟩) 1 [([120], [60])] (some ⟨H + 1, 0, none⟩) 1 exK
def exP : PT := .mk 2 [97] [] [([120], [60])] [.mk 4 [] [49, 62, 48] [] []]
def exX : Tr := .mk 3 [120] [] none 0 [] none 0 []
theorem exA_pl (H : Nat) : plL [exA H] = [exP] := rfl
theorem exA_w : wL [exP] = (true, [60, 97, 32, 120, 61, 34, 38, 108, 116, 59, 34, 62, 49, 38, 103, 116, 59, 48, 60, 47, 97, 62]) := by kernel_rfl
theorem exX_w : wL (plL [exX]) = (false, []) := by kernel_rfl
theorem exX_in (P : Nat → Prop) (w : World) : exX.In P w := by
  unfold exX
  rw [Tr.In]; exact ⟨nil_row _ _ _, nil_row _ _ _, by simp [InL]⟩
theorem exA_in (w V : World) (hV : ((w.alloc (.cells #[.string ⟨#[120]⟩, .string ⟨#[60]⟩] 34)).alloc (.cells #[.int .i64 4, .string ⟨#[]⟩, .string ⟨#[49, 62, 48]⟩, .slice none 0 0, .slice none 0 0] 31)).alloc (.cells #[.int .i64 2, .string ⟨#[97]⟩, .string ⟨#[]⟩, .slice (some ⟨w.heap.size, 0, none⟩) 1 1, .slice (some ⟨w.heap.size + 1, 0, none⟩) 1 1] 31) = V) :
    (exA w.heap.size).In (fun b => b < V.heap.size) V ∧ RdP (fun b => b < V.heap.size) V 5 (some ⟨w.heap.size + 2, 0, none⟩) 1 (rowT [exA w.heap.size]) := by
  have hz : V.heap.size = w.heap.size + 3 := by rw [← hV]; simp
  refine ⟨?_, rfl, fun _ => ⟨_, rfl, by simp [hz], fun j u hu => ?_⟩⟩
  · unfold exA
    rw [Tr.In]
    refine ⟨⟨rfl, fun _ => ⟨_, rfl, by simp [hz], fun j u hu => ?_⟩⟩, ⟨rfl, fun _ => ⟨_, rfl, by simp [hz], fun j u hu => ?_⟩⟩, inL_iff.2 fun t ht => ?_⟩
    · rw [← hV, addj, World.cell?_alloc_lt _ _ _ (by simp; omega), World.cell?_alloc_lt _ _ _ (by simp)]
      exact row_new w [.string ⟨#[120]⟩, .string ⟨#[60]⟩] 34 _ j u rfl hu
    · rw [← hV, addj, World.cell?_alloc_lt _ _ _ (by simp)]
      exact row_new _ [.int .i64 4, .string ⟨#[]⟩, .string ⟨#[49, 62, 48]⟩, .slice none 0 0, .slice none 0 0] 31 _ j u (by simp) hu
    · unfold exK at ht
      obtain rfl : t = _ := by simpa using ht
      rw [Tr.In]; exact ⟨nil_row _ _ _, nil_row _ _ _, by simp [InL]⟩
  · rw [← hV, addj]
    exact row_new _ [.int .i64 2, .string ⟨#[97]⟩, .string ⟨#[]⟩, .slice (some ⟨w.heap.size, 0, none⟩) 1 1, .slice (some ⟨w.heap.size + 1, 0, none⟩) 1 1] 31 _ j u (by simp) hu
theorem awake_any (m : Int) (w : World) (hm : w.cell? ⟨0, 0, none⟩ = some (.int .i64 m)) : Calls Try.prog 4 #[] w fun e w' => e = .returned (.bool true) ∧ Below w.heap.size w w' := by
  have h0 : 0 < w.heap.size := World.block_lt_of_cell? w ⟨0, 0, none⟩ hm
  have H1 : Hid (Calls Try.prog 6 #[.slice (some ⟨w.heap.size + 2, 0, none⟩) 1 1] (((w.alloc (.cells #[.string ⟨#[120]⟩, .string ⟨#[60]⟩] 34)).alloc (.cells #[.int .i64 4, .string ⟨#[]⟩, .string ⟨#[49, 62, 48]⟩, .slice none 0 0, .slice none 0 0] 31)).alloc (.cells #[.int .i64 2, .string ⟨#[97]⟩, .string ⟨#[]⟩, .slice (some ⟨w.heap.size, 0, none⟩) 1 1, .slice (some ⟨w.heap.size + 1, 0, none⟩) 1 1] 31)) fun e w' => e = .returned (.tuple #[.string ⟨#[60, 97, 32, 120, 61, 34, 38, 108, 116, 59, 34, 62, 49, 38, 103, 116, 59, 48, 60, 47, 97, 62]⟩, .int .i64 0]) ∧ Below w.heap.size w w') := Lib.hid (by
    obtain ⟨V, hV⟩ : ∃ V, ((w.alloc (.cells #[.string ⟨#[120]⟩, .string ⟨#[60]⟩] 34)).alloc (.cells #[.int .i64 4, .string ⟨#[]⟩, .string ⟨#[49, 62, 48]⟩, .slice none 0 0, .slice none 0 0] 31)).alloc (.cells #[.int .i64 2, .string ⟨#[97]⟩, .string ⟨#[]⟩, .slice (some ⟨w.heap.size, 0, none⟩) 1 1, .slice (some ⟨w.heap.size + 1, 0, none⟩) 1 1] 31) = V := ⟨_, rfl⟩
    have hb : Below w.heap.size w V := by rw [← hV]; exact ba (ba (ba (Below.refl _ _)))
    obtain ⟨h1, h2⟩ := exA_in w V hV
    rw [hV]
    have := serial_any (some ⟨w.heap.size + 2, 0, none⟩) 1 1 [exA w.heap.size] m V h2 rfl (by rw [InL, InL]; exact ⟨h1, trivial⟩) (by rw [exA_pl]; decide) ((hb.cell (p := ⟨0, 0, none⟩) h0).trans hm)
    rw [exA_pl, exA_w] at this
    refine this.mono ?_
    rintro e w' ⟨rfl, h3⟩
    exact ⟨rfl, bt hb h3⟩)
  have H2 : Hid (∀ w1 : World, Below w.heap.size w w1 → Calls Try.prog 6 #[.slice (some ⟨w1.heap.size, 0, none⟩) 1 1] (w1.alloc (.cells #[.int .i64 3, .string ⟨#[120]⟩, .string ⟨#[]⟩, .slice none 0 0, .slice none 0 0] 31)) fun e w' => e = .returned (.tuple #[.string ⟨#[]⟩, .int .i64 57]) ∧ Below w1.heap.size w1 w') := Lib.hid fun w1 hb1 => by
    have hz : (w1.alloc (.cells #[.int .i64 3, .string ⟨#[120]⟩, .string ⟨#[]⟩, .slice none 0 0, .slice none 0 0] 31)).heap.size = w1.heap.size + 1 := by simp
    have := serial_any (some ⟨w1.heap.size, 0, none⟩) 1 1 [exX] m (w1.alloc (.cells #[.int .i64 3, .string ⟨#[120]⟩, .string ⟨#[]⟩, .slice none 0 0, .slice none 0 0] 31)) ⟨rfl, fun _ => ⟨_, rfl, by simp, fun j u hu => by rw [addj]; exact row_new w1 [.int .i64 3, .string ⟨#[120]⟩, .string ⟨#[]⟩, .slice none 0 0, .slice none 0 0] 31 _ j u rfl hu⟩⟩ rfl (by rw [InL, InL]; exact ⟨exX_in _ _, trivial⟩) (by decide) (by
      have e1 := World.cell?_alloc_lt w1 (.cells #[.int .i64 3, .string ⟨#[120]⟩, .string ⟨#[]⟩, .slice none 0 0, .slice none 0 0] 31) ⟨0, 0, none⟩ (show 0 < _ by have := hb1.size; omega)
      exact e1.trans ((hb1.cell (p := ⟨0, 0, none⟩) h0).trans hm))
    rw [exX_w] at this
    refine this.mono ?_
    rintro e w' ⟨rfl, h3⟩
    exact ⟨rfl, bt (ba (Below.refl _ _)) h3⟩
  clear hm h0
  go_enter Try.func4, Try.ntmps4
  go_wp2_with fail
  refine H1.out.mono ?_
  rintro e w1 ⟨rfl, h1⟩
  have HB1 := Lib.hid h1
  clear h1 H1
  go_wp2_with fail
  refine (H2.out w1 HB1.out).mono ?_
  rintro e w2 ⟨rfl, h2⟩
  have HB2 := Lib.hid (bt HB1.out h2)
  clear h2 H2
  go_wp2
  go_ret
  exact ⟨rfl, HB2.out⟩
end Go.Proofs.Ytonkepjfnbcncaa
