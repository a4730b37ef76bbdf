/- The example of the document for axes holds. No condition beyond what the theorems state. -/
import Derived.Test.YtcmlfkoeajpliaaDoorTrees
import Derived.Deep.DeepMust
import Derived.Deep.RegionWith
import Derived.Test.YtcmlfkoeajpliaaDoorLaid
import Derived.Test.YtcmlfkoeajpliaaDoorAxTakes
import Derived.Test.YtcmlfkoeajpliaaDoorAxOrder
import Derived.Test.YtcmlfkoeajpliaaDoorLwWake
namespace Go.Proofs.YtcmlfkoeajpliaaDoor
open Go.RowKit Go.Lib
set_option maxRecDepth 100000
set_option maxHeartbeats 8000000
/-- A row of whole numbers in memory. -/
def IR (w : World) (A : Option Addr) (xs : List Int) : Prop := xs ≠ [] → ∃ ad, A = some ad ∧ ∀ j d, xs[j]? = some d → w.cell? (ad.add j) = some (.int .i64 d)
theorem IR.below {w w' : World} {A : Option Addr} {xs : List Int} (h : IR w A xs) (hb : Below w.heap.size w w') : IR w' A xs := fun hne => by
  obtain ⟨ad, e, hc⟩ := h hne
  exact ⟨ad, e, fun j d hd => (hb.cell (World.block_lt_of_cell? w _ (hc j d hd))).trans (hc j d hd)⟩
theorem ints_same (A B : Option Addr) (xs : List Int) (n ca cb : Nat) (w : World) (hn : xs.length = n) (hn6 : n ≤ 1048576) (hA : IR w A xs) (hB : IR w B xs) :
    Calls Tryd.prog 36 #[.slice A n ca, .slice B n cb] w fun e w' => e = .returned (.bool true) ∧ Below w.heap.size w w' := by
  have HA := Lib.hid hA; have HB := Lib.hid hB; have HN := Lib.hid hn
  clear hA hB hn
  go_enter Tryd.func36, Tryd.ntmps36
  go_wp2
  go_loopw [5] (fun s5 wx => ∃ i : Nat, s5 = .int .i64 i ∧ i ≤ n ∧ Below w.heap.size w wx) (fun s5 _ => n - (intOf s5).toNat)
  case atStart => exact ⟨0, rfl, by omega, (by repeat (with_reducible (first | exact Below.refl _ _ | assumption | apply ba | apply bd | apply bdr | (refine bs ?_ (by first | assumption | (simp; done) | (simp; omega))) | (refine bt ?_ (by assumption)))))⟩
  case round =>
    obtain ⟨i, rfl, hi, hBW⟩ := hrel
    by_cases hlt : i < n
    · have g0 : decide ((i : Int) < (n : Int)) = true := by first | (simp; done) | (simp; omega)
      have g1 : decide (i < n) = true := by simpa using hlt
      have hil : i < xs.length := by rw [HN.out]; exact hlt
      have hne : xs ≠ [] := by intro e; rw [e] at hil; simp at hil
      obtain ⟨ad, rfl, hca⟩ := HA.out.below hBW hne
      obtain ⟨bd, rfl, hcb⟩ := HB.out.below hBW hne
      have d0 := hca i _ (List.getElem?_eq_getElem hil)
      have f0 := hcb i _ (List.getElem?_eq_getElem hil)
      obtain ⟨x, hx⟩ : ∃ x, xs[i] = x := ⟨_, rfl⟩
      rw [hx] at d0 f0
      clear hca hcb hx
      go_wp2
      go_region_with fail
      all_goals go_wp2
      all_goals go_roundw
      all_goals first
        | (case rel => exact ⟨i + 1, by go_num, by omega, (by repeat (with_reducible (first | exact Below.refl _ _ | assumption | apply ba | apply bd | apply bdr | (refine bs ?_ (by first | assumption | (simp; done) | (simp; omega))) | (refine bt ?_ (by assumption)))))⟩)
        | (case measure => simp [intOf]; omega)
    · obtain rfl : i = n := by omega
      have g0 : decide (((i : Nat) : Int) < ((i : Nat) : Int)) = false := by simp
      go_wp2
      go_ret
      exact ⟨rfl, hBW⟩
end Go.Proofs.YtcmlfkoeajpliaaDoor
namespace Go.Proofs.YtcmlfkoeajpliaaDoor
open Go.RowKit Go.Lib
set_option maxRecDepth 100000
set_option maxHeartbeats 8000000
theorem rowI_Z (l : List Nat) : rowI l = rowZ (l.map fun (j : Nat) => (j : Int)) := by unfold rowI rowZ; rw [List.map_map]; rfl
theorem ir_of {P : Nat → Prop} {w : World} {A : Option Addr} {n : Nat} {zs : List Int} (h : RdP P w 1 A n (rowZ zs)) : IR w A zs := fun hne => by
  have hl : zs.length = n := by have := h.1; simpa [rowZ] using this
  have hp : 0 < n := by rw [← hl]; exact List.length_pos_iff.2 hne
  obtain ⟨ad, e, _, hc⟩ := h.2 hp
  exact ⟨ad, e, fun j d hd => hc j _ (by unfold rowZ; rw [List.getElem?_map, hd]; rfl)⟩
theorem ir_own {w : World} {base n c : Nat} {A : Option Addr} {zs : List Int} (h : w.ownsRow base 3 1 (.slice A n c) n (rowZ zs)) : IR w A zs := by
  obtain ⟨A0, c0, e0, _, hrd⟩ := own_rd h
  cases e0
  exact ir_of hrd
theorem ir_new (w : World) (zs : List Int) (t : TypeId) : IR (w.alloc (.cells (rowZ zs).toArray t)) (some ⟨w.heap.size, 0, none⟩) zs := fun _ =>
  ⟨_, rfl, fun j d hd => by rw [addj]; exact row_new w (rowZ zs) t w.heap.size j _ rfl (by unfold rowZ; rw [List.getElem?_map, hd]; rfl)⟩
def exA (H : Nat) : Tr := .mk 2 [97] [] (some ⟨H, 0, none⟩) 1 [([120], [49])] (some ⟨H + 1, 0, none⟩) 2 exK
theorem exA_pl (H : Nat) : plL [exA H] = [exP] := rfl
theorem exA_in (w V : World) (hV : ((w.alloc (.cells #[.string ⟨#[120]⟩, .string ⟨#[49]⟩] 76)).alloc (.cells #[.int .i64 4, .string ⟨#[]⟩, .string ⟨#[116]⟩, .slice none 0 0, .slice none 0 0, .int .i64 2, .string ⟨#[98]⟩, .string ⟨#[]⟩, .slice none 0 0, .slice none 0 0] 33)).alloc (.cells #[.int .i64 2, .string ⟨#[97]⟩, .string ⟨#[]⟩, .slice (some ⟨w.heap.size, 0, none⟩) 1 1, .slice (some ⟨w.heap.size + 1, 0, none⟩) 2 2] 33) = V) :
    (exA w.heap.size).In (fun b => b < V.heap.size) V ∧ RdP (fun b => b < V.heap.size) V 5 (some ⟨w.heap.size + 2, 0, none⟩) 1 (rowT [exA w.heap.size]) := by
  have hz : V.heap.size = w.heap.size + 3 := by rw [← hV]; simp
  refine ⟨?_, rfl, fun _ => ⟨_, rfl, by simp [hz], fun j u hu => ?_⟩⟩
  · unfold exA
    rw [Tr.In]
    refine ⟨⟨rfl, fun _ => ⟨_, rfl, by simp [hz], fun j u hu => ?_⟩⟩, ⟨rfl, fun _ => ⟨_, rfl, by simp [hz], fun j u hu => ?_⟩⟩, inL_iff.2 fun t ht => ?_⟩
    · rw [← hV, addj, World.cell?_alloc_lt _ _ _ (by simp; omega), World.cell?_alloc_lt _ _ _ (by simp)]
      exact row_new w [.string ⟨#[120]⟩, .string ⟨#[49]⟩] 76 _ j u rfl hu
    · rw [← hV, addj, World.cell?_alloc_lt _ _ _ (by simp)]
      exact row_new _ [.int .i64 4, .string ⟨#[]⟩, .string ⟨#[116]⟩, .slice none 0 0, .slice none 0 0, .int .i64 2, .string ⟨#[98]⟩, .string ⟨#[]⟩, .slice none 0 0, .slice none 0 0] 33 _ j u (by simp) hu
    · unfold exK at ht
      rcases List.mem_cons.1 ht with rfl | ht
      · rw [Tr.In]; exact ⟨nil_row _ _ _, nil_row _ _ _, by simp [InL]⟩
      · obtain rfl : t = _ := by simpa using ht
        rw [Tr.In]; exact ⟨nil_row _ _ _, nil_row _ _ _, by simp [InL]⟩
  · rw [← hV, addj]
    exact row_new _ [.int .i64 2, .string ⟨#[97]⟩, .string ⟨#[]⟩, .slice (some ⟨w.heap.size, 0, none⟩) 1 1, .slice (some ⟨w.heap.size + 1, 0, none⟩) 2 2] 33 _ j u (by simp) hu
theorem ex_laid : laidT [exP] 8 = [exP] := by
  have h : goodT exP = true := by unfold goodT; rw [ex_right]; rfl
  unfold laidT
  simp [h]
theorem ex_layL : layL [exP] 0 0 = exL := rfl
theorem ex_ord : Ord exL.length (kdN exL) (prN exL) (enN exL) := by
  have h : ∀ t ∈ [exP], t.right 0 = true := by intro t ht; simp at ht; subst ht; exact ex_right
  have := ord_of (layL_nest [exP] 0 h) (layL_atok [exP] 0 h)
  rwa [ex_layL] at this
theorem ex_kids : axL exL.length (kdN exL) (prN exL) (enN exL) 1 1 = [3, 4] := by decide
theorem ex_step : [3, 4].filter (fun m => takesF (kdN exL m) (nmN exL m) 1 3 []) = [3] := by decide
theorem ex_ordZ : ordZ [3, 1, 3] = [1, 3] := ordZ_is (by simp) (fun x => by simp; omega)
end Go.Proofs.YtcmlfkoeajpliaaDoor
namespace Go.Proofs.YtcmlfkoeajpliaaDoor
open Go.RowKit Go.Lib
set_option maxRecDepth 100000
set_option maxHeartbeats 8000000
theorem rdp_new (w : World) (zs : List Int) (t : TypeId) (n : Nat) (hn : zs.length = n) : RdP (fun b => b = w.heap.size) (w.alloc (.cells (rowZ zs).toArray t)) 1 (some ⟨w.heap.size, 0, none⟩) n (rowZ zs) :=
  ⟨by simp [rowZ, hn], fun _ => ⟨_, rfl, rfl, fun j u hu => by rw [addj]; exact row_new w (rowZ zs) t w.heap.size j u rfl hu⟩⟩
theorem awake6 (w : World) (hT : tabs w) : Calls Tryd.prog 33 #[] w fun e w' => e = .returned (.bool true) ∧ Below w.heap.size w w' := by
  have HLD : Hid (Calls Tryd.prog 34 #[.slice (some ⟨w.heap.size + 2, 0, none⟩) 1 1] (((w.alloc (.cells #[.string ⟨#[120]⟩, .string ⟨#[49]⟩] 76)).alloc (.cells #[.int .i64 4, .string ⟨#[]⟩, .string ⟨#[116]⟩, .slice none 0 0, .slice none 0 0, .int .i64 2, .string ⟨#[98]⟩, .string ⟨#[]⟩, .slice none 0 0, .slice none 0 0] 33)).alloc (.cells #[.int .i64 2, .string ⟨#[97]⟩, .string ⟨#[]⟩, .slice (some ⟨w.heap.size, 0, none⟩) 1 1, .slice (some ⟨w.heap.size + 1, 0, none⟩) 2 2] 33)) fun e w' => ∃ sb A c Al cl, e = .returned (.tuple #[.pointer (some ⟨sb, 0, none⟩), .slice Al 4 cl]) ∧ StoreAt w' sb 1000 A c exL ∧ Below w.heap.size w w') := Lib.hid (by
    obtain ⟨V, hV⟩ : ∃ V, ((w.alloc (.cells #[.string ⟨#[120]⟩, .string ⟨#[49]⟩] 76)).alloc (.cells #[.int .i64 4, .string ⟨#[]⟩, .string ⟨#[116]⟩, .slice none 0 0, .slice none 0 0, .int .i64 2, .string ⟨#[98]⟩, .string ⟨#[]⟩, .slice none 0 0, .slice none 0 0] 33)).alloc (.cells #[.int .i64 2, .string ⟨#[97]⟩, .string ⟨#[]⟩, .slice (some ⟨w.heap.size, 0, none⟩) 1 1, .slice (some ⟨w.heap.size + 1, 0, none⟩) 2 2] 33) = V := ⟨_, rfl⟩
    have hb : Below w.heap.size w V := by rw [← hV]; exact ba (ba (ba (Below.refl _ _)))
    obtain ⟨h1, h2⟩ := exA_in w V hV
    rw [hV]
    refine (laid_any _ 1 1 [exA w.heap.size] V (Utf8Tabs_below hT hb) h2 rfl (fun t ht => by simp at ht; subst ht; exact h1) (fun t ht => by simp at ht; subst ht; exact ex_bulk)).mono ?_
    rintro e w' ⟨sb, A, c, Al, cl, us, rfl, hL, hus⟩
    rw [exA_pl, ex_laid] at hus
    refine ⟨sb, A, c, Al, cl, by rw [hus]; rfl, ?_, bt hb hL.below⟩
    have := hL.store
    rwa [hus, ex_layL] at this)
  clear hT
  go_enter Tryd.func33, Tryd.ntmps33
  go_wp2_with fail
  refine HLD.out.mono ?_
  rintro e w4 ⟨sb, A, c, Al, cl, rfl, hS, B4⟩
  have HW : Hid (∀ w5, Below w4.heap.size w4 w5 → Calls Tryd.prog 37 #[.pointer (some ⟨sb, 0, none⟩), .int .i64 1, .int .i64 1, .int .i64 99] w5 fun e w' => ∃ A c, e = .returned (.slice A 2 c) ∧ IR w' A [3, 4] ∧ Below w5.heap.size w5 w') := Lib.hid fun w5 hb => by
    refine (lawWalk_any (hS.below hb) (by decide) ex_ord 1 1 99 (by decide) [3, 4] ex_kids (by decide)).mono ?_
    rintro e w' ⟨A, c, rfl, hR, hb'⟩
    exact ⟨A, c, rfl, ir_of (n := 2) (zs := [3, 4]) (by rw [rowI_Z] at hR; exact hR), hb'⟩
  have HSt : Hid (∀ w5, Below w4.heap.size w4 w5 → Calls Tryd.prog 40 #[.pointer (some ⟨sb, 0, none⟩), .int .i64 1, .int .i64 1, .agg #[.int .i64 3, .string ⟨#[]⟩]] w5 fun e w' => ∃ A c, e = .returned (.slice A 1 c) ∧ IR w' A [3] ∧ Below w5.heap.size w5 w') := Lib.hid fun w5 hb => by
    refine (step_any (hS.below hb) (by decide) ex_ord 1 1 3 [] [3, 4] ex_kids (by decide) (fun m => takesF (kdN exL m) (nmN exL m) 1 3 []) (fun m => rfl)).mono ?_
    rintro e w' ⟨A, c, rfl, hR, hb'⟩
    rw [ex_step] at hR ⊢
    exact ⟨A, c, rfl, ir_of (n := 1) (zs := [3]) (by rw [rowI_Z] at hR; exact hR), hb'⟩
  have HO : Hid (∀ w5, Calls Tryd.prog 41 #[.slice (some ⟨w5.heap.size, 0, none⟩) 3 3] (w5.alloc (.cells #[.int .i64 3, .int .i64 1, .int .i64 3] 3)) fun e w' => ∃ A c, e = .returned (.slice A 2 c) ∧ IR w' A [1, 3] ∧ Below w5.heap.size w5 w') := Lib.hid fun w5 => by
    refine (order_any _ _ 3 3 [3, 1, 3] _ (rdp_new w5 [3, 1, 3] 3 3 rfl) (by decide)).mono ?_
    rintro e w' ⟨A, c, rfl, hO, hb'⟩
    rw [ex_ordZ] at hO ⊢
    exact ⟨A, c, rfl, ir_own hO, bt (ba (Below.refl _ _)) hb'⟩
  clear hS HLD
  go_wp2_with fail
  refine (HW.out _ (Below.refl _ _)).mono ?_
  rintro e w5 ⟨A5, c5, rfl, hI5, hb5⟩
  have B5 : Below w4.heap.size w4 w5 := hb5
  go_wp2_with fail
  refine (ints_same A5 (some ⟨w5.heap.size, 0, none⟩) [3, 4] 2 c5 2 _ rfl (by decide) (hI5.below (ba (Below.refl _ _))) (ir_new w5 [3, 4] 3)).mono ?_
  rintro e w6 ⟨rfl, hb6⟩
  have B6 : Below w4.heap.size w4 w6 := bt (ba B5) hb6
  clear hI5 hb5 hb6
  go_wp2_with fail
  refine (HSt.out _ B6).mono ?_
  rintro e w7 ⟨A7, c7, rfl, hI7, hb7⟩
  have B7 : Below w4.heap.size w4 w7 := bt B6 hb7
  go_wp2_with fail
  refine (ints_same A7 (some ⟨w7.heap.size, 0, none⟩) [3] 1 c7 1 _ rfl (by decide) (hI7.below (ba (Below.refl _ _))) (ir_new w7 [3] 3)).mono ?_
  rintro e w8 ⟨rfl, hb8⟩
  have B8 : Below w4.heap.size w4 w8 := bt (ba B7) hb8
  clear hI7 hb7 hb8
  go_wp2_with fail
  refine (HO.out _).mono ?_
  rintro e w9 ⟨A9, c9, rfl, hI9, hb9⟩
  have B9 : Below w4.heap.size w4 w9 := bt B8 hb9
  go_wp2_with fail
  refine (ints_same A9 (some ⟨w9.heap.size, 0, none⟩) [1, 3] 2 c9 2 _ rfl (by decide) (hI9.below (ba (Below.refl _ _))) (ir_new w9 [1, 3] 3)).mono ?_
  rintro e w10 ⟨rfl, hb10⟩
  have B10 : Below w4.heap.size w4 w10 := bt (ba B9) hb10
  have BB : Below w.heap.size w w10 := bt B4 B10
  clear hI9 hb9 hb10
  go_wp2
  go_ret
  exact ⟨rfl, BB⟩
end Go.Proofs.YtcmlfkoeajpliaaDoor
namespace Go.Proofs.YtcmlfkoeajpliaaDoor
open Go.RowKit Go.Lib
set_option maxRecDepth 100000
set_option maxHeartbeats 8000000
theorem axL_mem {N : Nat} {kd : Nat → Int} {pr en : Nat → Nat} {n : Nat} {a : Int} {m : Nat} : m ∈ axL N kd pr en n a ↔ (1 ≤ n ∧ n ≤ N) ∧ (1 ≤ m ∧ m ≤ N) ∧ axP kd pr en n a m = true := by
  unfold axL
  by_cases h : n = 0 ∨ N < n
  · rw [if_pos h]
    constructor
    · intro h; exact nomatch h
    · rintro ⟨h1, _⟩; omega
  · rw [if_neg h]
    split
    · rw [bwd_mem]
      constructor
      · rintro ⟨h1, h2, h3⟩; exact ⟨by omega, by omega, h3⟩
      · rintro ⟨_, h2, h3⟩; exact ⟨h2.1, by omega, h3⟩
    · rw [fwd_mem]
      constructor
      · rintro ⟨h1, h2, h3⟩; exact ⟨by omega, by omega, h3⟩
      · rintro ⟨_, h2, h3⟩; exact ⟨by omega, h2.2, h3⟩
theorem bwdL_len (P : Nat → Bool) : ∀ b, (bwdL P b).length ≤ b - 1
  | 0 => by simp [bwdL]
  | b + 1 => by
    have := bwdL_len P b
    rw [bwdL]
    split
    · rename_i h; rw [List.length_cons]; omega
    · omega
theorem axL_len (N : Nat) (kd : Nat → Int) (pr en : Nat → Nat) (n : Nat) (a : Int) : (axL N kd pr en n a).length ≤ N := by
  unfold axL
  split
  · exact Nat.zero_le _
  · split
    · have := bwdL_len (axP kd pr en n a) (N + 1); omega
    · unfold fwdL
      refine Nat.le_trans (List.length_filter_le _ _) ?_
      simp
/-- The ways there, and back. -/
def wayA : Nat → Int
  | 0 => 1 | 1 => 3 | 2 => 2 | 3 => 5 | 4 => 6 | _ => 4
def wayB : Nat → Int
  | 0 => 7 | 1 => 7 | 2 => 8 | 3 => 10 | 4 => 9 | _ => 4
theorem way_back {N : Nat} {kd : Nat → Int} {pr en : Nat → Nat} {n m i : Nat} (hi : i < 6) (h : m ∈ axL N kd pr en n (wayA i)) : n ∈ axL N kd pr en m (wayB i) := by
  rw [axL_mem] at h ⊢
  obtain ⟨h1, h2, h3⟩ := h
  refine ⟨h2, h1, ?_⟩
  have : i = 0 ∨ i = 1 ∨ i = 2 ∨ i = 3 ∨ i = 4 ∨ i = 5 := by omega
  rcases this with rfl | rfl | rfl | rfl | rfl | rfl
  · simp [wayA, wayB, axP] at h3 ⊢; exact h3.1
  · simp [wayA, wayB, axP] at h3 ⊢; exact h3.1
  · simp [wayA, wayB, axP] at h3 ⊢; exact ⟨h3.1, h3.2.1⟩
  · simp [wayA, wayB, axP] at h3 ⊢; omega
  · simp [wayA, wayB, axP] at h3 ⊢; omega
  · simp [wayA, wayB, axP] at h3 ⊢; exact h3.symm
/-- What is laid, for the statements: the store of right trees, whose numbers are few. -/
theorem laid_ord (A0 : Option Addr) (cap0 nt : Nat) (ts : List Tr) (w : World) (hT : tabs w) (hR : RdP (fun b => b < w.heap.size) w 5 A0 nt (rowT ts)) (hlen : ts.length = nt) (hin : ∀ t ∈ ts, t.In (fun b => b < w.heap.size) w) (hbk : ∀ t ∈ ts, t.pl.bulk ≤ 1048576) :
    Calls Tryd.prog 34 #[.slice A0 nt cap0] w fun e w' => ∃ sb A c Al cl us, e = .returned (.tuple #[.pointer (some ⟨sb, 0, none⟩), .slice Al (layL (plL us) 0 0).length cl]) ∧ LaidS w w' sb A c Al cl us ∧ (layL (plL us) 0 0).length ≤ 480 ∧
      Ord (layL (plL us) 0 0).length (kdN (layL (plL us) 0 0)) (prN (layL (plL us) 0 0)) (enN (layL (plL us) 0 0)) := by
  refine (laid_any A0 cap0 nt ts w hT hR hlen hin hbk).mono ?_
  rintro e w' ⟨sb, A, c, Al, cl, us, rfl, hL, hus⟩
  have hr : ∀ t ∈ plL us, t.right 0 = true := by
    intro t ht
    rw [plL_map, List.mem_map] at ht
    obtain ⟨u, hu, rfl⟩ := ht
    exact (hL.fine u hu).1
  have h8 : us.length ≤ 8 := by
    have h1 : (plL us).length = us.length := by rw [plL_map, List.length_map]
    have h2 : (laidT (plL ts) 8).length ≤ 8 := by
      unfold laidT
      refine Nat.le_trans (List.length_filter_le _ _) ?_
      rw [List.length_take]; omega
    rw [← h1, hus]; exact h2
  have hz := hL.size
  refine ⟨sb, A, c, Al, cl, us, by rw [layL_len], hL, by rw [layL_len]; omega, ?_⟩
  exact ord_of (layL_nest _ 0 hr) (layL_atok _ 0 hr)
end Go.Proofs.YtcmlfkoeajpliaaDoor
