/- The loop over the characters of a text, for literals that only answer. No condition beyond what the theorems state. -/
import Derived.Test.YtklkodifbdpihaaDoorAll
import Derived.Test.YtklkodifbdpihaaDoorShelf
namespace Go.Proofs.YtklkodifbdpihaaDoor
open Go.RowKit Go.Lib
set_option maxRecDepth 100000
def allQ (q : Nat → Nat → Bool) : Nat → List Nat → Bool
  | _, [] => true
  | k, r :: t => q k r && allQ q (k + 1) t
theorem drop_ne (l : List UInt8) (pos : Nat) (h : pos < l.length) : l.drop pos ≠ [] := by
  intro e
  have := congrArg List.length e
  simp at this
  omega
theorem runes_drop (l : List UInt8) (pos : Nat) (h : pos < l.length) : runes (l.drop pos) = (decodeL (l.drop pos)).1 :: runes (l.drop (pos + (decodeL (l.drop pos)).2)) := by
  rw [runes_step _ (drop_ne l pos h), List.drop_drop]
theorem below_iter (w : World) (s : ByteArray) : Below w.heap.size w (w.iter s 0) := (Below.refl _ _).alloc (Nat.le_refl _) _
theorem all_pure (g : Nat) (eg : ∀ args w, (callFunc g args).run Tryd.prog w = .ok (.enter g args) w) (q : Nat → Nat → Bool)
    (hq : ∀ (k a r : Nat), r ≤ 1114111 → ∀ W : World, Calls Tryd.prog g #[.int .i64 k, .int .i64 a, .int .i32 r] W fun e w' => e = .returned (.bool (q k r)) ∧ W = w')
    (s : ByteArray) (w : World) (hs : s.size ≤ maxLen) :
    Calls Tryd.prog 28 #[.string s, .func (.func g) #[] #[]] w fun e w' => e = .returned (.bool (allQ q 0 (runes s.data.toList))) ∧ Below w.heap.size w w' := by
  have hz : s.data.toList.length = s.size := by simp
  refine (all_inv g #[] eg s w hs (fun k pos W => Below w.heap.size w W ∧ allQ q 0 (runes s.data.toList) = allQ q k (runes (s.data.toList.drop pos))) (fun W => Below w.heap.size w W ∧ allQ q 0 (runes s.data.toList) = false) ?_ ?_).mono ?_
  · exact ⟨below_iter w s, rfl⟩
  · rintro k pos W hk hp ⟨hb, he⟩ hit
    rw [runes_drop _ _ (by rw [hz]; exact hp), decodeL_drop] at he
    refine (hq k pos (Utf8.decode s pos).1 (rune_le s pos) _).mono ?_
    rintro e w' ⟨rfl, rfl⟩
    have hb' := Lib.below_iterAt hb (Nat.le_refl _) s (pos + (Utf8.decode s pos).2)
    cases hv : q k (Utf8.decode s pos).1
    · exact .inr ⟨rfl, hb', by rw [he, allQ, hv]; rfl⟩
    · exact .inl ⟨rfl, Lib.iterAt_heap W _ s pos _ hit, hb', by rw [he, allQ, hv]; rfl⟩
  · rintro e w' (⟨rfl, k, hk, hb, he⟩ | ⟨rfl, hb, he⟩)
    · rw [List.drop_eq_nil_of_le (by rw [hz]; exact Nat.le_refl _)] at he
      exact ⟨by rw [he]; rfl, hb⟩
    · exact ⟨by rw [he], hb⟩
theorem allQ_const (p : Nat → Bool) : ∀ (k : Nat) (l : List Nat), allQ (fun _ r => p r) k l = l.all p
  | _, [] => rfl
  | k, r :: t => by rw [allQ, List.all_cons, allQ_const p (k + 1) t]
theorem allQ_name : ∀ (t : List Nat) (k : Nat), allQ okB k t = (List.range t.length).all fun j => decide (okP (k + j) (t.getD j 0))
  | [], _ => rfl
  | r :: t, k => by
    rw [allQ, allQ_name t (k + 1), List.length_cons, List.range_succ_eq_map, List.all_cons, List.all_map]
    congr 1
    apply congrArg (fun f => (List.range t.length).all f)
    funext j
    simp only [Function.comp, List.getD_cons_succ]
    rw [show k + 1 + j = k + (j + 1) from by omega]
theorem allQ_nameB (xs : List Nat) (hne : xs ≠ []) : allQ okB 0 xs = nameB xs := by
  rw [allQ_name]; unfold nameB; simp [hne]
def tabs (w : World) : Prop := Lib.Utf8Tabs 0 1 w
theorem e29 : ∀ args w, (callFunc 29 args).run Tryd.prog w = .ok (.enter 29 args) w := enters_of Tryd.func29 (by kernel_rfl) rfl
theorem e31 : ∀ args w, (callFunc 31 args).run Tryd.prog w = .ok (.enter 31 args) w := enters_of Tryd.func31 (by kernel_rfl) rfl
theorem allValid (s : ByteArray) (w : World) (hs : s.size ≤ maxLen) :
    Calls Tryd.prog 28 #[.string s, .func (.func 29) #[] #[]] w fun e w' => e = .returned (.bool ((runes s.data.toList).all xmlN)) ∧ Below w.heap.size w w' := by
  have := all_pure 29 e29 (fun _ r => xmlN r) (fun k a r hr W => validOne_any k a r hr W) s w hs
  rwa [allQ_const] at this
theorem allName (s : ByteArray) (w : World) (hs : s.size ≤ maxLen) :
    Calls Tryd.prog 28 #[.string s, .func (.func 31) #[] #[]] w fun e w' => e = .returned (.bool (allQ okB 0 (runes s.data.toList))) ∧ Below w.heap.size w w' :=
  all_pure 31 e31 okB (fun k a r hr W => nameOne_any k a r hr W) s w hs
end Go.Proofs.YtklkodifbdpihaaDoor
