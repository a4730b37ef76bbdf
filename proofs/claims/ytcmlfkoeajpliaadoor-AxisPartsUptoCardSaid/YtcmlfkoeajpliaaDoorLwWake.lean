/- The example of the document for trees holds. No condition beyond what the theorems state. -/
import Derived.Test.YtcmlfkoeajpliaaDoorBuild
import Derived.Test.YtcmlfkoeajpliaaDoorStrings
namespace Go.Proofs.YtcmlfkoeajpliaaDoor
open Go.RowKit Go.Lib
set_option maxRecDepth 100000
set_option maxHeartbeats 8000000
theorem addj (g j : Nat) : ((⟨g, 0, none⟩ : Addr).add j) = ⟨g, j, none⟩ := by unfold Addr.add; split <;> simp_all
theorem row_new (w : World) (xs : List Value) (t : TypeId) (g j : Nat) (u : Value) (hg : g = w.heap.size) (h : xs[j]? = some u) : (w.alloc (.cells xs.toArray t)).cell? ⟨g, j, none⟩ = some u := by
  subst hg
  have hh := heap_alloc_new w (.cells xs.toArray t)
  unfold World.cell?
  rw [hh]
  simpa using h
def exK : List Tr := [.mk 4 [] [116] none 0 [] none 0 [], .mk 2 [98] [] none 0 [] none 0 []]
def exT (H : Nat) : Tr := .mk 2 [97] [] (some ⟨H + 1, 0, none⟩) 1 [([120], [49])] (some ⟨H + 2, 0, none⟩) 2 exK
def exP : PT := .mk 2 [97] [] [([120], [49])] [.mk 4 [] [116] [] [], .mk 2 [98] [] [] []]
theorem ex_pl (H : Nat) : (exT H).pl = exP := rfl
def exL : List En := [⟨2, [97], [], 0, 4⟩, ⟨3, [120], [49], 1, 2⟩, ⟨4, [], [116], 1, 3⟩, ⟨2, [98], [], 1, 4⟩]
theorem ex_lay : [] ++ exP.lay 0 0 = exL := rfl
theorem ex_right : exP.right 0 = true := by decide +kernel
theorem ex_bulk : exP.bulk ≤ 1048576 := by decide +kernel
theorem ex_size : exP.size = 4 := rfl
theorem nil_row (P : Nat → Prop) (w : World) (s : Nat) : RdP P w s none 0 [] := ⟨by simp, fun h => absurd h (Nat.lt_irrefl _)⟩
theorem ex_in (H : Nat) (w1 : World) (hH : w1.heap.size = H + 1) : (exT H).In (fun b => b = H + 1 ∨ b = H + 2) ((w1.alloc (.cells #[.string ⟨#[120]⟩, .string ⟨#[49]⟩] 76)).alloc (.cells #[.int .i64 4, .string ⟨#[]⟩, .string ⟨#[116]⟩, .slice none 0 0, .slice none 0 0, .int .i64 2, .string ⟨#[98]⟩, .string ⟨#[]⟩, .slice none 0 0, .slice none 0 0] 33)) := by
  unfold exT
  rw [Tr.In]
  refine ⟨⟨rfl, fun _ => ⟨_, rfl, .inl rfl, fun j u hu => ?_⟩⟩, ⟨rfl, fun _ => ⟨_, rfl, .inr rfl, fun j u hu => ?_⟩⟩, inL_iff.2 fun t ht => ?_⟩
  · rw [addj, World.cell?_alloc_lt _ _ _ (by simp; omega)]
    exact row_new w1 [.string ⟨#[120]⟩, .string ⟨#[49]⟩] 76 (H + 1) j u hH.symm hu
  · rw [addj]
    exact row_new _ [.int .i64 4, .string ⟨#[]⟩, .string ⟨#[116]⟩, .slice none 0 0, .slice none 0 0, .int .i64 2, .string ⟨#[98]⟩, .string ⟨#[]⟩, .slice none 0 0, .slice none 0 0] 33 (H + 2) j u (by simp; omega) hu
  · unfold exK at ht
    rcases List.mem_cons.1 ht with rfl | ht
    · rw [Tr.In]; exact ⟨nil_row _ _ _, nil_row _ _ _, by simp [InL]⟩
    · obtain rfl : t = _ := by simpa using ht
      rw [Tr.In]; exact ⟨nil_row _ _ _, nil_row _ _ _, by simp [InL]⟩
def Tells (w4 : World) (f : Nat) (args : Array Value) (v : Value) : Prop := ∀ w5 : World, Below w4.heap.size w4 w5 → Calls Tryd.prog f args w5 fun e w' => e = .returned v ∧ Below w5.heap.size w5 w'
theorem ex_tells (sb : Nat) (A : Option Addr) (c : Nat) (w4 : World) (hS : StoreAt w4 sb 10 A c exL) :
    Hid (Tells w4 22 #[.pointer (some ⟨sb, 0, none⟩)] (.int .i64 4)) ∧ Hid (Tells w4 30 #[.pointer (some ⟨sb, 0, none⟩), .int .i64 1] (.int .i64 4)) ∧ Hid (Tells w4 28 #[.pointer (some ⟨sb, 0, none⟩), .int .i64 1] (.string ⟨#[116]⟩)) ∧
    Hid (Tells w4 31 #[.pointer (some ⟨sb, 0, none⟩), .int .i64 2] (.int .i64 1)) ∧ Hid (Tells w4 32 #[.pointer (some ⟨sb, 0, none⟩), .int .i64 4] (.int .i64 2)) :=
  ⟨Lib.hid fun w5 h => len_any sb 10 A c exL w5 (hS.below h), Lib.hid fun w5 h => end_in sb 10 A c exL 0 2 [97] [] 0 4 w5 (hS.below h) rfl (by decide),
   Lib.hid fun w5 h => string2 sb 10 A c exL 0 [97] [] 0 4 w5 (hS.below h) rfl (by decide) (by decide) (by decide) (by decide),
   Lib.hid fun w5 h => parent_in sb 10 A c exL 1 3 [120] [49] 1 2 w5 (hS.below h) rfl (by decide), Lib.hid fun w5 h => kind_in sb 10 A c exL 3 2 [98] [] 1 4 w5 (hS.below h) rfl (by decide)⟩
theorem awake5 (w : World) (hT : tabs w) : Calls Tryd.prog 12 #[] w fun e w' => e = .returned (.bool true) ∧ Below w.heap.size w w' := by
  obtain ⟨W, hW⟩ : ∃ W, w.alloc (.cells #[.int .i64 ((10 : Nat) : Int), .slice none 0 0] 79) = W := ⟨_, rfl⟩
  have hWs : W.heap.size = w.heap.size + 1 := by rw [← hW]; simp
  have hWb : Below w.heap.size w W := by rw [← hW]; exact ba (Below.refl _ _)
  have hst : StoreAt W w.heap.size 10 none 0 [] := by rw [← hW]; exact new_store 10 w
  obtain ⟨V, hV⟩ : ∃ V, (W.alloc (.cells #[.string ⟨#[120]⟩, .string ⟨#[49]⟩] 76)).alloc (.cells #[.int .i64 4, .string ⟨#[]⟩, .string ⟨#[116]⟩, .slice none 0 0, .slice none 0 0, .int .i64 2, .string ⟨#[98]⟩, .string ⟨#[]⟩, .slice none 0 0, .slice none 0 0] 33) = V := ⟨_, rfl⟩
  have hVb : Below W.heap.size W V := by rw [← hV]; exact ba (ba (Below.refl _ _))
  have hVs : V.heap.size = w.heap.size + 3 := by rw [← hV]; simp [hWs]
  have hin : (exT w.heap.size).In (fun b => b = w.heap.size + 1 ∨ b = w.heap.size + 2) V := by rw [← hV]; exact ex_in w.heap.size W hWs
  have HBLD : Hid (Calls Tryd.prog 18 #[.pointer (some ⟨w.heap.size, 0, none⟩), .agg #[.int .i64 2, .string ⟨#[97]⟩, .string ⟨#[]⟩, .slice (some ⟨w.heap.size + 1, 0, none⟩) 1 1, .slice (some ⟨w.heap.size + 2, 0, none⟩) 2 2]] V fun e w' => e = .returned (.tuple #[.int .i64 1, .int .i64 0]) ∧ ∃ A' c', StoreAt w' w.heap.size 10 A' c' exL ∧ Beside w.heap.size none V A' w') :=
    Lib.hid (build_ok (exT w.heap.size) _ V w.heap.size 10 none 0 [] (Utf8Tabs_below (Utf8Tabs_below hT hWb) hVb) (hst.below hVb) hin (fun b hb => ⟨by rcases hb with rfl | rfl <;> omega, by rcases hb with rfl | rfl <;> omega, by simp [blkOf]⟩) (fit_of_bulk ex_bulk) (by decide) (by decide) ex_right (by rw [ex_pl]; decide))
  have HNEW : Hid (Calls Tryd.prog 13 #[.int .i64 10] w fun e w' => e = .returned (.tuple #[.pointer (some ⟨w.heap.size, 0, none⟩), .int .i64 0]) ∧ w' = W) := Lib.hid (by rw [← hW]; exact new_any 10 w (by decide) (by decide))
  have HV := Lib.hid hV; have HWB := Lib.hid hWb; have HVB := Lib.hid hVb
  clear hW hWb hst hVb hin hT
  go_enter Tryd.func12, Tryd.ntmps12
  go_wp2_with fail
  refine HNEW.out.mono ?_
  rintro e w1 ⟨rfl, rfl⟩
  go_wp2_with (first
    | (go_at_call 18
       go_must (refine HBLD.out.mono ?_)
       rintro e w4 ⟨rfl, A4, c4, hS4, hB4⟩
       have B4 : Below w.heap.size w w4 := (HWB.out.trans (HVB.out.mono (by omega))).trans (hB4.below (Nat.le_refl _) (by simp [blkOf]) (by omega))
       obtain ⟨H22, H30, H28, H31, H32⟩ := ex_tells _ _ _ _ hS4
       clear hS4 hB4)
    | (go_at_call 22; go_must (refine (H22.out _ (by repeat (with_reducible (first | exact Below.refl _ _ | assumption | apply ba | apply bd | apply bdr | (refine bs ?_ (by first | assumption | (simp; done) | (simp; omega))) | (refine bt ?_ (by assumption)))))).mono ?_); rintro e w5 ⟨rfl, hb5⟩; have B5 : Below w4.heap.size w4 w5 := by repeat (with_reducible (first | exact Below.refl _ _ | assumption | apply ba | apply bd | apply bdr | (refine bs ?_ (by first | assumption | (simp; done) | (simp; omega))) | (refine bt ?_ (by assumption)))))
    | (go_at_call 30; go_must (refine (H30.out _ (by repeat (with_reducible (first | exact Below.refl _ _ | assumption | apply ba | apply bd | apply bdr | (refine bs ?_ (by first | assumption | (simp; done) | (simp; omega))) | (refine bt ?_ (by assumption)))))).mono ?_); rintro e w6 ⟨rfl, hb6⟩; have B6 : Below w4.heap.size w4 w6 := by repeat (with_reducible (first | exact Below.refl _ _ | assumption | apply ba | apply bd | apply bdr | (refine bs ?_ (by first | assumption | (simp; done) | (simp; omega))) | (refine bt ?_ (by assumption)))))
    | (go_at_call 28; go_must (refine (H28.out _ (by repeat (with_reducible (first | exact Below.refl _ _ | assumption | apply ba | apply bd | apply bdr | (refine bs ?_ (by first | assumption | (simp; done) | (simp; omega))) | (refine bt ?_ (by assumption)))))).mono ?_); rintro e w7 ⟨rfl, hb7⟩; have B7 : Below w4.heap.size w4 w7 := by repeat (with_reducible (first | exact Below.refl _ _ | assumption | apply ba | apply bd | apply bdr | (refine bs ?_ (by first | assumption | (simp; done) | (simp; omega))) | (refine bt ?_ (by assumption)))))
    | (go_at_call 31; go_must (refine (H31.out _ (by repeat (with_reducible (first | exact Below.refl _ _ | assumption | apply ba | apply bd | apply bdr | (refine bs ?_ (by first | assumption | (simp; done) | (simp; omega))) | (refine bt ?_ (by assumption)))))).mono ?_); rintro e w8 ⟨rfl, hb8⟩; have B8 : Below w4.heap.size w4 w8 := by repeat (with_reducible (first | exact Below.refl _ _ | assumption | apply ba | apply bd | apply bdr | (refine bs ?_ (by first | assumption | (simp; done) | (simp; omega))) | (refine bt ?_ (by assumption)))))
    | (go_at_call 32; go_must (refine (H32.out _ (by repeat (with_reducible (first | exact Below.refl _ _ | assumption | apply ba | apply bd | apply bdr | (refine bs ?_ (by first | assumption | (simp; done) | (simp; omega))) | (refine bt ?_ (by assumption)))))).mono ?_); rintro e w9 ⟨rfl, hb9⟩; have B9 : Below w4.heap.size w4 w9 := by repeat (with_reducible (first | exact Below.refl _ _ | assumption | apply ba | apply bd | apply bdr | (refine bs ?_ (by first | assumption | (simp; done) | (simp; omega))) | (refine bt ?_ (by assumption))))))
  go_ret
  exact ⟨rfl, B4.trans (B9.mono B4.size)⟩
end Go.Proofs.YtcmlfkoeajpliaaDoor
