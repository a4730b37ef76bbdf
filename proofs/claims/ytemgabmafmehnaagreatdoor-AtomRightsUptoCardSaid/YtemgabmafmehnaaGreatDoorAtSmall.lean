/- Atomic values and the small functions on them; which values are right. No condition beyond what the theorems state. -/
import Derived.Test.YtemgabmafmehnaaGreatDoorDeTexts
import Derived.Test.YtemgabmafmehnaaGreatDoorChTexts
import Derived.Deep.RegionHeld3
import Derived.BigQuiet
namespace Go.Proofs.YtemgabmafmehnaaGreatDoor
open Go.Shelf Go.RowKit Go.Proofs.Wide
/-- The five forms of a value that is right. -/
inductive AV where
  | int (n : Int)
  | dec (n : Int) (c : Nat)
  | str (l : List UInt8)
  | boo (b : Bool)
  | raw (l : List UInt8)
def AV.v : AV → Value
  | .int n => .agg #[.int .i64 1, .int .i64 n, .int .i64 0, .string ⟨#[]⟩, .bool false]
  | .dec n c => .agg #[.int .i64 2, .int .i64 n, .int .i64 (c : Int), .string ⟨#[]⟩, .bool false]
  | .str l => .agg #[.int .i64 3, .int .i64 0, .int .i64 0, .string (ba' l), .bool false]
  | .boo b => .agg #[.int .i64 4, .int .i64 0, .int .i64 0, .string ⟨#[]⟩, .bool b]
  | .raw l => .agg #[.int .i64 5, .int .i64 0, .int .i64 0, .string (ba' l), .bool false]
def AV.ok : AV → Prop
  | .int n => RightZ n 0
  | .dec n c => RightZ n c
  | .str l => validX l = true ∧ l.length ≤ 1048576
  | .boo _ => True
  | .raw l => validX l = true ∧ l.length ≤ 1048576
/-- The two tables of the library that texts and numbers are read and written by. -/
def TT (w : World) : Prop := tabs w ∧ Lib.TabIs Tryz.prog w "internal/strconv.uint64pow10" .u64 Lib.pow10Tab
theorem tabIs_below {P : Program} {w w' : World} {name : String} {k : IntKind} {zs : List Int} (h : Lib.TabIs P w name k zs) (hb : Below w.heap.size w w') : Lib.TabIs P w' name k zs := by
  unfold Lib.TabIs World.var? at *
  cases hg : P.globalNamed name with
  | none => simp [hg] at h
  | some g =>
    simp only [hg, Option.bind_some] at h ⊢
    have hlt : g < w.heap.size := by
      rcases Nat.lt_or_ge g w.heap.size with h' | h'
      · exact h'
      · rw [Array.getElem?_eq_none h'] at h; simp at h
    rw [hb.block g hlt]
    exact h
theorem TT.below {w w' : World} (h : TT w) (hb : Below w.heap.size w w') : TT w' := ⟨Utf8Tabs_below h.1 hb, tabIs_below h.2 hb⟩
/-- What a call answers in every world that holds the two tables. -/
def GT (f : Nat) (args : Array Value) (v : Value) : Prop := ∀ w : World, TT w → Calls Tryz.prog f args w fun e w' => e = .returned v ∧ Below w.heap.size w w'
theorem GT.call {f : Nat} {args : Array Value} {v : Value} (h : GT f args v) {w w0 : World} (ht : TT w0) (hb : Below w0.heap.size w0 w) : Calls Tryz.prog f args w fun e w' => e = .returned v ∧ Below w.heap.size w w' := h w (ht.below hb)
theorem gt_of {f : Nat} {args : Array Value} {v : Value} (h : ∀ w : World, TT w → Calls Tryz.prog f args w fun e w' => e = .returned v ∧ Below w.heap.size w w') : Hid (GT f args v) := Lib.hid h
theorem gt_gives {f : Nat} {args : Array Value} {v : Value} (h : Hid (Gives f args v)) : Hid (GT f args v) := Lib.hid fun w _ => h.out.call w
theorem same_gives {f : Nat} {args : Array Value} {v : Value} (h : ∀ w : World, Calls Tryz.prog f args w fun e w' => e = .returned v ∧ w = w') : Hid (Gives f args v) := gives_unfold fun w => (h w).mono fun _ _ ⟨a, b⟩ => ⟨a, b ▸ Below.refl _ _⟩
theorem same_gives' {f : Nat} {args : Array Value} {v : Value} (h : ∀ w : World, Calls Tryz.prog f args w fun e w' => e = .returned v ∧ w' = w) : Hid (Gives f args v) := gives_unfold fun w => (h w).mono fun _ _ ⟨a, b⟩ => ⟨a, b ▸ Below.refl _ _⟩
set_option maxRecDepth 100000
set_option maxHeartbeats 2000000
theorem atOf_any (n : Int) (w : World) : Calls Tryz.prog 15 #[.int .i64 n] w fun e w' => e = .returned (.agg #[.int .i64 1, .int .i64 n, .int .i64 0, .string ⟨#[]⟩, .bool false]) ∧ Below w.heap.size w w' := by
  go_enter Tryz.func15, Tryz.ntmps15
  go_wp2
  exact bodyPost_ret (v := .agg #[.int .i64 1, .int .i64 n, .int .i64 0, .string ⟨#[]⟩, .bool false]) (by simp [results, Tryz.results15, go_sem]) rfl ⟨rfl, by repeat (first | exact Below.refl _ _ | assumption | apply ba | apply bd | apply bdr | (refine bs ?_ (by first | (simp; done) | (simp; omega))) | (refine bt ?_ (by assumption)))⟩
theorem atText_any (l : List UInt8) (w : World) : Calls Tryz.prog 17 #[.string (ba' l)] w fun e w' => e = .returned (.agg #[.int .i64 3, .int .i64 0, .int .i64 0, .string (ba' l), .bool false]) ∧ Below w.heap.size w w' := by
  go_enter Tryz.func17, Tryz.ntmps17
  go_wp2
  exact bodyPost_ret (v := .agg #[.int .i64 3, .int .i64 0, .int .i64 0, .string (ba' l), .bool false]) (by simp [results, Tryz.results17, go_sem]) rfl ⟨rfl, by repeat (first | exact Below.refl _ _ | assumption | apply ba | apply bd | apply bdr | (refine bs ?_ (by first | (simp; done) | (simp; omega))) | (refine bt ?_ (by assumption)))⟩
theorem atRaw_any (l : List UInt8) (w : World) : Calls Tryz.prog 18 #[.string (ba' l)] w fun e w' => e = .returned (.agg #[.int .i64 5, .int .i64 0, .int .i64 0, .string (ba' l), .bool false]) ∧ Below w.heap.size w w' := by
  go_enter Tryz.func18, Tryz.ntmps18
  go_wp2
  exact bodyPost_ret (v := .agg #[.int .i64 5, .int .i64 0, .int .i64 0, .string (ba' l), .bool false]) (by simp [results, Tryz.results18, go_sem]) rfl ⟨rfl, by repeat (first | exact Below.refl _ _ | assumption | apply ba | apply bd | apply bdr | (refine bs ?_ (by first | (simp; done) | (simp; omega))) | (refine bt ?_ (by assumption)))⟩
theorem atTruth_any (b : Bool) (w : World) : Calls Tryz.prog 19 #[.bool b] w fun e w' => e = .returned (.agg #[.int .i64 4, .int .i64 0, .int .i64 0, .string ⟨#[]⟩, .bool b]) ∧ Below w.heap.size w w' := by
  go_enter Tryz.func19, Tryz.ntmps19
  go_wp2
  exact bodyPost_ret (v := .agg #[.int .i64 4, .int .i64 0, .int .i64 0, .string ⟨#[]⟩, .bool b]) (by simp [results, Tryz.results19, go_sem]) rfl ⟨rfl, by repeat (first | exact Below.refl _ _ | assumption | apply ba | apply bd | apply bdr | (refine bs ?_ (by first | (simp; done) | (simp; omega))) | (refine bt ?_ (by assumption)))⟩
theorem atNumber_any (n c : Int) (w : World) : Calls Tryz.prog 20 #[.agg #[.int .i64 n, .int .i64 c]] w fun e w' => e = .returned (.agg #[.int .i64 2, .int .i64 n, .int .i64 c, .string ⟨#[]⟩, .bool false]) ∧ Below w.heap.size w w' := by
  go_enter Tryz.func20, Tryz.ntmps20
  go_wp2
  exact bodyPost_ret (v := .agg #[.int .i64 2, .int .i64 n, .int .i64 c, .string ⟨#[]⟩, .bool false]) (by simp [results, Tryz.results20, go_sem]) rfl ⟨rfl, by repeat (first | exact Below.refl _ _ | assumption | apply ba | apply bd | apply bdr | (refine bs ?_ (by first | (simp; done) | (simp; omega))) | (refine bt ?_ (by assumption)))⟩
theorem atNum_int (n c : Int) (l : List UInt8) (b : Bool) (w : World) : Calls Tryz.prog 23 #[.agg #[.int .i64 1, .int .i64 n, .int .i64 c, .string (ba' l), .bool b]] w fun e w' => e = .returned (.agg #[.int .i64 n, .int .i64 0]) ∧ Below w.heap.size w w' := by
  go_enter Tryz.func23, Tryz.ntmps23
  go_wp2
  exact bodyPost_ret (v := .agg #[.int .i64 n, .int .i64 0]) (by simp [results, Tryz.results23, go_sem]) rfl ⟨rfl, by repeat (first | exact Below.refl _ _ | assumption | apply ba | apply bd | apply bdr | (refine bs ?_ (by first | (simp; done) | (simp; omega))) | (refine bt ?_ (by assumption)))⟩
theorem atNum_int' (n c : Int) (s : ByteArray) (b : Bool) (w : World) : Calls Tryz.prog 23 #[.agg #[.int .i64 1, .int .i64 n, .int .i64 c, .string s, .bool b]] w fun e w' => e = .returned (.agg #[.int .i64 n, .int .i64 0]) ∧ Below w.heap.size w w' := by
  go_enter Tryz.func23, Tryz.ntmps23
  go_wp2
  exact bodyPost_ret (v := .agg #[.int .i64 n, .int .i64 0]) (by simp [results, Tryz.results23, go_sem]) rfl ⟨rfl, by repeat (first | exact Below.refl _ _ | assumption | apply ba | apply bd | apply bdr | (refine bs ?_ (by first | (simp; done) | (simp; omega))) | (refine bt ?_ (by assumption)))⟩
theorem atNum_dec (n c : Int) (l : List UInt8) (b : Bool) (w : World) : Calls Tryz.prog 23 #[.agg #[.int .i64 2, .int .i64 n, .int .i64 c, .string (ba' l), .bool b]] w fun e w' => e = .returned (.agg #[.int .i64 n, .int .i64 c]) ∧ Below w.heap.size w w' := by
  go_enter Tryz.func23, Tryz.ntmps23
  go_wp2
  exact bodyPost_ret (v := .agg #[.int .i64 n, .int .i64 c]) (by simp [results, Tryz.results23, go_sem]) rfl ⟨rfl, by repeat (first | exact Below.refl _ _ | assumption | apply ba | apply bd | apply bdr | (refine bs ?_ (by first | (simp; done) | (simp; omega))) | (refine bt ?_ (by assumption)))⟩
theorem atNum_dec' (n c : Int) (s : ByteArray) (b : Bool) (w : World) : Calls Tryz.prog 23 #[.agg #[.int .i64 2, .int .i64 n, .int .i64 c, .string s, .bool b]] w fun e w' => e = .returned (.agg #[.int .i64 n, .int .i64 c]) ∧ Below w.heap.size w w' := by
  go_enter Tryz.func23, Tryz.ntmps23
  go_wp2
  exact bodyPost_ret (v := .agg #[.int .i64 n, .int .i64 c]) (by simp [results, Tryz.results23, go_sem]) rfl ⟨rfl, by repeat (first | exact Below.refl _ _ | assumption | apply ba | apply bd | apply bdr | (refine bs ?_ (by first | (simp; done) | (simp; omega))) | (refine bt ?_ (by assumption)))⟩
theorem atNum_no (k : Int) (n c : Int) (l : List UInt8) (b : Bool) (w : World) (h : k ≠ 1 ∧ k ≠ 2) : Calls Tryz.prog 23 #[.agg #[.int .i64 k, .int .i64 n, .int .i64 c, .string (ba' l), .bool b]] w fun e w' => e = .returned (.agg #[.int .i64 0, .int .i64 0]) ∧ Below w.heap.size w w' := by
  have h1 : (k == 1) = false := by simpa using h.1
  have h2 : (k == 2) = false := by simpa using h.2
  go_enter Tryz.func23, Tryz.ntmps23
  go_wp2
  exact bodyPost_ret (v := .agg #[.int .i64 0, .int .i64 0]) (by simp [results, Tryz.results23, go_sem]) rfl ⟨rfl, by repeat (first | exact Below.refl _ _ | assumption | apply ba | apply bd | apply bdr | (refine bs ?_ (by first | (simp; done) | (simp; omega))) | (refine bt ?_ (by assumption)))⟩
theorem atNumeric_1 (n c : Int) (l : List UInt8) (b : Bool) (w : World) : Calls Tryz.prog 16 #[.agg #[.int .i64 1, .int .i64 n, .int .i64 c, .string (ba' l), .bool b]] w fun e w' => e = .returned (.bool true) ∧ Below w.heap.size w w' := by
  go_enter Tryz.func16, Tryz.ntmps16
  go_wp2
  go_ret
  exact ⟨rfl, by repeat (first | exact Below.refl _ _ | assumption | apply ba | apply bd | apply bdr | (refine bs ?_ (by first | (simp; done) | (simp; omega))) | (refine bt ?_ (by assumption)))⟩
theorem atNumeric_2 (n c : Int) (l : List UInt8) (b : Bool) (w : World) : Calls Tryz.prog 16 #[.agg #[.int .i64 2, .int .i64 n, .int .i64 c, .string (ba' l), .bool b]] w fun e w' => e = .returned (.bool true) ∧ Below w.heap.size w w' := by
  go_enter Tryz.func16, Tryz.ntmps16
  go_wp2
  go_ret
  exact ⟨rfl, by repeat (first | exact Below.refl _ _ | assumption | apply ba | apply bd | apply bdr | (refine bs ?_ (by first | (simp; done) | (simp; omega))) | (refine bt ?_ (by assumption)))⟩
theorem atNumeric_no (k : Int) (n c : Int) (l : List UInt8) (b : Bool) (w : World) (h : k ≠ 1 ∧ k ≠ 2) : Calls Tryz.prog 16 #[.agg #[.int .i64 k, .int .i64 n, .int .i64 c, .string (ba' l), .bool b]] w fun e w' => e = .returned (.bool false) ∧ Below w.heap.size w w' := by
  have h1 : (k == 1) = false := by simpa using h.1
  have h2 : (k == 2) = false := by simpa using h.2
  go_enter Tryz.func16, Tryz.ntmps16
  go_wp2
  go_ret
  exact ⟨rfl, by repeat (first | exact Below.refl _ _ | assumption | apply ba | apply bd | apply bdr | (refine bs ?_ (by first | (simp; done) | (simp; omega))) | (refine bt ?_ (by assumption)))⟩
theorem atTextual_1 (n c : Int) (l : List UInt8) (b : Bool) (w : World) : Calls Tryz.prog 106 #[.agg #[.int .i64 1, .int .i64 n, .int .i64 c, .string (ba' l), .bool b]] w fun e w' => e = .returned (.bool false) ∧ Below w.heap.size w w' := by
  go_enter Tryz.func106, Tryz.ntmps106
  go_wp2
  go_ret
  exact ⟨rfl, by repeat (first | exact Below.refl _ _ | assumption | apply ba | apply bd | apply bdr | (refine bs ?_ (by first | (simp; done) | (simp; omega))) | (refine bt ?_ (by assumption)))⟩
theorem atTextual_2 (n c : Int) (l : List UInt8) (b : Bool) (w : World) : Calls Tryz.prog 106 #[.agg #[.int .i64 2, .int .i64 n, .int .i64 c, .string (ba' l), .bool b]] w fun e w' => e = .returned (.bool false) ∧ Below w.heap.size w w' := by
  go_enter Tryz.func106, Tryz.ntmps106
  go_wp2
  go_ret
  exact ⟨rfl, by repeat (first | exact Below.refl _ _ | assumption | apply ba | apply bd | apply bdr | (refine bs ?_ (by first | (simp; done) | (simp; omega))) | (refine bt ?_ (by assumption)))⟩
theorem atTextual_3 (n c : Int) (l : List UInt8) (b : Bool) (w : World) : Calls Tryz.prog 106 #[.agg #[.int .i64 3, .int .i64 n, .int .i64 c, .string (ba' l), .bool b]] w fun e w' => e = .returned (.bool true) ∧ Below w.heap.size w w' := by
  go_enter Tryz.func106, Tryz.ntmps106
  go_wp2
  go_ret
  exact ⟨rfl, by repeat (first | exact Below.refl _ _ | assumption | apply ba | apply bd | apply bdr | (refine bs ?_ (by first | (simp; done) | (simp; omega))) | (refine bt ?_ (by assumption)))⟩
theorem atTextual_4 (n c : Int) (l : List UInt8) (b : Bool) (w : World) : Calls Tryz.prog 106 #[.agg #[.int .i64 4, .int .i64 n, .int .i64 c, .string (ba' l), .bool b]] w fun e w' => e = .returned (.bool false) ∧ Below w.heap.size w w' := by
  go_enter Tryz.func106, Tryz.ntmps106
  go_wp2
  go_ret
  exact ⟨rfl, by repeat (first | exact Below.refl _ _ | assumption | apply ba | apply bd | apply bdr | (refine bs ?_ (by first | (simp; done) | (simp; omega))) | (refine bt ?_ (by assumption)))⟩
theorem atTextual_5 (n c : Int) (l : List UInt8) (b : Bool) (w : World) : Calls Tryz.prog 106 #[.agg #[.int .i64 5, .int .i64 n, .int .i64 c, .string (ba' l), .bool b]] w fun e w' => e = .returned (.bool true) ∧ Below w.heap.size w w' := by
  go_enter Tryz.func106, Tryz.ntmps106
  go_wp2
  go_ret
  exact ⟨rfl, by repeat (first | exact Below.refl _ _ | assumption | apply ba | apply bd | apply bdr | (refine bs ?_ (by first | (simp; done) | (simp; omega))) | (refine bt ?_ (by assumption)))⟩
theorem cmTextual_1 (n c : Int) (l : List UInt8) (b : Bool) (w : World) : Calls Tryz.prog 59 #[.agg #[.int .i64 1, .int .i64 n, .int .i64 c, .string (ba' l), .bool b]] w fun e w' => e = .returned (.bool false) ∧ Below w.heap.size w w' := by
  go_enter Tryz.func59, Tryz.ntmps59
  go_wp2
  go_ret
  exact ⟨rfl, by repeat (first | exact Below.refl _ _ | assumption | apply ba | apply bd | apply bdr | (refine bs ?_ (by first | (simp; done) | (simp; omega))) | (refine bt ?_ (by assumption)))⟩
theorem cmTextual_2 (n c : Int) (l : List UInt8) (b : Bool) (w : World) : Calls Tryz.prog 59 #[.agg #[.int .i64 2, .int .i64 n, .int .i64 c, .string (ba' l), .bool b]] w fun e w' => e = .returned (.bool false) ∧ Below w.heap.size w w' := by
  go_enter Tryz.func59, Tryz.ntmps59
  go_wp2
  go_ret
  exact ⟨rfl, by repeat (first | exact Below.refl _ _ | assumption | apply ba | apply bd | apply bdr | (refine bs ?_ (by first | (simp; done) | (simp; omega))) | (refine bt ?_ (by assumption)))⟩
theorem cmTextual_3 (n c : Int) (l : List UInt8) (b : Bool) (w : World) : Calls Tryz.prog 59 #[.agg #[.int .i64 3, .int .i64 n, .int .i64 c, .string (ba' l), .bool b]] w fun e w' => e = .returned (.bool true) ∧ Below w.heap.size w w' := by
  go_enter Tryz.func59, Tryz.ntmps59
  go_wp2
  go_ret
  exact ⟨rfl, by repeat (first | exact Below.refl _ _ | assumption | apply ba | apply bd | apply bdr | (refine bs ?_ (by first | (simp; done) | (simp; omega))) | (refine bt ?_ (by assumption)))⟩
theorem cmTextual_4 (n c : Int) (l : List UInt8) (b : Bool) (w : World) : Calls Tryz.prog 59 #[.agg #[.int .i64 4, .int .i64 n, .int .i64 c, .string (ba' l), .bool b]] w fun e w' => e = .returned (.bool false) ∧ Below w.heap.size w w' := by
  go_enter Tryz.func59, Tryz.ntmps59
  go_wp2
  go_ret
  exact ⟨rfl, by repeat (first | exact Below.refl _ _ | assumption | apply ba | apply bd | apply bdr | (refine bs ?_ (by first | (simp; done) | (simp; omega))) | (refine bt ?_ (by assumption)))⟩
theorem cmTextual_5 (n c : Int) (l : List UInt8) (b : Bool) (w : World) : Calls Tryz.prog 59 #[.agg #[.int .i64 5, .int .i64 n, .int .i64 c, .string (ba' l), .bool b]] w fun e w' => e = .returned (.bool true) ∧ Below w.heap.size w w' := by
  go_enter Tryz.func59, Tryz.ntmps59
  go_wp2
  go_ret
  exact ⟨rfl, by repeat (first | exact Below.refl _ _ | assumption | apply ba | apply bd | apply bdr | (refine bs ?_ (by first | (simp; done) | (simp; omega))) | (refine bt ?_ (by assumption)))⟩
end Go.Proofs.YtemgabmafmehnaaGreatDoor
namespace Go.Proofs.YtemgabmafmehnaaGreatDoor
open Go.Shelf Go.RowKit Go.Proofs.Wide
set_option maxRecDepth 100000
set_option maxHeartbeats 4000000
theorem rightOne_any (n : Int) (k : Int) (hn : InI n) (hk : InI k) (b : Bool) (hb : rightB (n, k) = b) (g cap : Nat) (w : World) (h0 : w.cell? ⟨g, 0, none⟩ = some (.int .i64 n)) (h1 : w.cell? ⟨g, 1, none⟩ = some (.int .i64 k)) (hg : g < w.heap.size) :
    Calls Tryz.prog 52 #[.slice (some ⟨g, 0, none⟩) 1 cap] w fun e w' => e = .returned (.bool b) ∧ Below w.heap.size w w' := by
  have := right_any g cap [(n, k)] w (by intro p hp; simp at hp; subst hp; exact ⟨hn, hk⟩) (by simp) (by
    intro i p hp
    cases i with
    | zero => simp at hp; subst hp; exact ⟨h0, h1⟩
    | succ i => simp at hp) hg
  simpa [hb] using this
theorem validOne_of (l : List UInt8) (hl : l.length ≤ 1048576) (b : Bool) (hb : validX l = b) (g cap : Nat) (w : World) (hT : TT w) (h0 : w.cell? ⟨g, 0, none⟩ = some (.string (ba' l))) (hg : g < w.heap.size) :
    Calls Tryz.prog 70 #[.slice (some ⟨g, 0, none⟩) 1 cap] w fun e w' => e = .returned (.bool b) ∧ Below w.heap.size w w' := by
  have := valid_any (some ⟨g, 0, none⟩) 1 cap [ba' l] w rfl (by decide) hT.1 (by
    intro k hk
    have : k = 0 := by simp at hk; exact hk
    subst this
    refine ⟨g, rfl, hg, h0, ?_⟩
    show (ba' l).size ≤ maxLen
    rw [size_ba]; unfold maxLen; omega)
  have e : [ba' l].all vS = b := by simp only [List.all_cons, List.all_nil, Bool.and_true]; exact hb
  rw [e] at this
  exact this
theorem inI0 : InI 0 := ⟨by decide, by decide⟩
theorem empty_no {l : List UInt8} (h : l ≠ []) : ((ba' l).toList == (⟨#[]⟩ : ByteArray).toList) = false := by
  rw [toList_ba]
  have : (⟨#[]⟩ : ByteArray).toList = [] := toList_ba []
  rw [this]
  cases l with
  | nil => exact absurd rfl h
  | cons a l => rfl
theorem right_int (n : Int) (w : World) (hn : InI n) : Calls Tryz.prog 42 #[.agg #[.int .i64 1, .int .i64 n, .int .i64 0, .string ⟨#[]⟩, .bool false]] w fun e w' => e = .returned (.bool (rightB (n, 0))) ∧ Below w.heap.size w w' := by
  obtain ⟨b, hb⟩ : ∃ b, (rightB (n, 0)) = b := ⟨_, rfl⟩
  rw [hb]
  have HB := Lib.hid hb
  clear hb
  have hk := inI0
  go_enter Tryz.func42, Tryz.ntmps42
  go_wp2
  go_region_held3 (fun w' => w'.cell? ⟨w.heap.size, 0, none⟩ = some (.int .i64 1) ∧ w'.cell? ⟨w.heap.size, 1, none⟩ = some (.int .i64 n) ∧ w'.cell? ⟨w.heap.size, 2, none⟩ = some (.int .i64 0) ∧ w'.cell? ⟨w.heap.size, 3, none⟩ = some (.string ⟨#[]⟩) ∧ w'.cell? ⟨w.heap.size, 4, none⟩ = some (.bool false) ∧ w.heap.size < w'.heap.size ∧ Below w.heap.size w w')
    (first
      | (go_keep; done)
      | ((repeat' apply And.intro) <;> first | assumption | (go_keep; done) | (refine Nat.lt_of_lt_of_le (by assumption) ?_; simp; done) | exact zz (by assumption) (by simp) | exact zz (by assumption) (by assumption) | (repeat (first | exact Below.refl _ _ | assumption | apply ba | apply bd | apply bdr | (refine bt ?_ (by assumption))))))
    (first
      | (go_at_call 15; refine (atOf_any n _).mono ?_; rintro e w1 ⟨rfl, hb1⟩; have hc1 := fun o => (bcell hb1).1 w.heap.size o (by first | (simp; done) | assumption | (simp; omega)); have z1 : w.heap.size < w1.heap.size := zz hb1 (by first | (simp; done) | assumption | (simp; omega)))
      | (go_at_call 23; refine (atNum_int' n 0 ⟨#[]⟩ false _).mono ?_; rintro e w2 ⟨rfl, hb2⟩; have hc2 := fun o => (bcell hb2).1 w.heap.size o (by first | (simp; done) | assumption | (simp; omega)); have z2 : w.heap.size < w2.heap.size := zz hb2 (by first | (simp; done) | assumption | (simp; omega)))
      | (go_at_call 52; refine (rightOne_any n 0 hn hk b HB.out _ _ _ (by first | rfl | (simp; done) | (simp [*]; done)) (by first | rfl | (simp; done) | (simp [*]; done)) (by first | (simp; done) | omega)).mono ?_; rintro e w3 ⟨rfl, hb3⟩; have hc3 := fun o => (bcell hb3).1 w.heap.size o (by first | (simp; done) | assumption | (simp; omega)); have z3 : w.heap.size < w3.heap.size := zz hb3 (by first | (simp; done) | assumption | (simp; omega))))
  all_goals go_wp2
  all_goals go_ret
  all_goals exact ⟨rfl, by repeat (first | exact Below.refl _ _ | assumption | apply ba | apply bd | apply bdr | (refine bs ?_ (by first | (simp; done) | (simp; omega))) | (refine bt ?_ (by assumption)))⟩
theorem right_dec (n c : Int) (w : World) (hn : InI n) (hk : InI c) : Calls Tryz.prog 42 #[.agg #[.int .i64 2, .int .i64 n, .int .i64 c, .string ⟨#[]⟩, .bool false]] w fun e w' => e = .returned (.bool (rightB (n, c))) ∧ Below w.heap.size w w' := by
  obtain ⟨b, hb⟩ : ∃ b, (rightB (n, c)) = b := ⟨_, rfl⟩
  rw [hb]
  have HB := Lib.hid hb
  clear hb
  go_enter Tryz.func42, Tryz.ntmps42
  go_wp2
  go_region_held3 (fun w' => w'.cell? ⟨w.heap.size, 0, none⟩ = some (.int .i64 2) ∧ w'.cell? ⟨w.heap.size, 1, none⟩ = some (.int .i64 n) ∧ w'.cell? ⟨w.heap.size, 2, none⟩ = some (.int .i64 c) ∧ w'.cell? ⟨w.heap.size, 3, none⟩ = some (.string ⟨#[]⟩) ∧ w'.cell? ⟨w.heap.size, 4, none⟩ = some (.bool false) ∧ w.heap.size < w'.heap.size ∧ Below w.heap.size w w')
    (first
      | (go_keep; done)
      | ((repeat' apply And.intro) <;> first | assumption | (go_keep; done) | (refine Nat.lt_of_lt_of_le (by assumption) ?_; simp; done) | exact zz (by assumption) (by simp) | exact zz (by assumption) (by assumption) | (repeat (first | exact Below.refl _ _ | assumption | apply ba | apply bd | apply bdr | (refine bt ?_ (by assumption))))))
    (first
      | (go_at_call 23; refine (atNum_dec' n c ⟨#[]⟩ false _).mono ?_; rintro e w1 ⟨rfl, hb1⟩; have hc1 := fun o => (bcell hb1).1 w.heap.size o (by first | (simp; done) | assumption | (simp; omega)); have z1 : w.heap.size < w1.heap.size := zz hb1 (by first | (simp; done) | assumption | (simp; omega)))
      | (go_at_call 20; refine (atNumber_any n c _).mono ?_; rintro e w2 ⟨rfl, hb2⟩; have hc2 := fun o => (bcell hb2).1 w.heap.size o (by first | (simp; done) | assumption | (simp; omega)); have z2 : w.heap.size < w2.heap.size := zz hb2 (by first | (simp; done) | assumption | (simp; omega)))
      | (go_at_call 52; refine (rightOne_any n c hn hk b HB.out _ _ _ (by first | rfl | (simp; done) | (simp [*]; done)) (by first | rfl | (simp; done) | (simp [*]; done)) (by first | (simp; done) | omega)).mono ?_; rintro e w3 ⟨rfl, hb3⟩; have hc3 := fun o => (bcell hb3).1 w.heap.size o (by first | (simp; done) | assumption | (simp; omega)); have z3 : w.heap.size < w3.heap.size := zz hb3 (by first | (simp; done) | assumption | (simp; omega))))
  all_goals go_wp2
  all_goals go_ret
  all_goals exact ⟨rfl, by repeat (first | exact Below.refl _ _ | assumption | apply ba | apply bd | apply bdr | (refine bs ?_ (by first | (simp; done) | (simp; omega))) | (refine bt ?_ (by assumption)))⟩
theorem right_str (l : List UInt8) (w : World) (hl : l.length ≤ 1048576) (hT : TT w) : Calls Tryz.prog 42 #[.agg #[.int .i64 3, .int .i64 0, .int .i64 0, .string (ba' l), .bool false]] w fun e w' => e = .returned (.bool (validX l)) ∧ Below w.heap.size w w' := by
  obtain ⟨b, hb⟩ : ∃ b, (validX l) = b := ⟨_, rfl⟩
  rw [hb]
  have HB := Lib.hid hb
  clear hb
  have HT := Lib.hid hT
  clear hT
  go_enter Tryz.func42, Tryz.ntmps42
  go_wp2
  go_region_held3 (fun w' => w'.cell? ⟨w.heap.size, 0, none⟩ = some (.int .i64 3) ∧ w'.cell? ⟨w.heap.size, 1, none⟩ = some (.int .i64 0) ∧ w'.cell? ⟨w.heap.size, 2, none⟩ = some (.int .i64 0) ∧ w'.cell? ⟨w.heap.size, 3, none⟩ = some (.string (ba' l)) ∧ w'.cell? ⟨w.heap.size, 4, none⟩ = some (.bool false) ∧ w.heap.size < w'.heap.size ∧ Below w.heap.size w w')
    (first
      | (go_keep; done)
      | ((repeat' apply And.intro) <;> first | assumption | (go_keep; done) | (refine Nat.lt_of_lt_of_le (by assumption) ?_; simp; done) | exact zz (by assumption) (by simp) | exact zz (by assumption) (by assumption) | (repeat (first | exact Below.refl _ _ | assumption | apply ba | apply bd | apply bdr | (refine bt ?_ (by assumption))))))
    (first
      | (go_at_call 17; refine (atText_any l _).mono ?_; rintro e w1 ⟨rfl, hb1⟩; have hc1 := fun o => (bcell hb1).1 w.heap.size o (by first | (simp; done) | assumption | (simp; omega)); have z1 : w.heap.size < w1.heap.size := zz hb1 (by first | (simp; done) | assumption | (simp; omega)))
      | (go_at_call 70; refine (validOne_of l hl b HB.out _ _ _ (HT.out.below (by repeat (first | exact Below.refl _ _ | assumption | apply ba | apply bd | apply bdr | (refine bs ?_ (by first | (simp; done) | (simp; omega))) | (refine bt ?_ (by assumption))))) (by first | rfl | (simp; done) | (simp [*]; done)) (by first | (simp; done) | omega)).mono ?_; rintro e w3 ⟨rfl, hb3⟩; have hc3 := fun o => (bcell hb3).1 w.heap.size o (by first | (simp; done) | assumption | (simp; omega)); have z3 : w.heap.size < w3.heap.size := zz hb3 (by first | (simp; done) | assumption | (simp; omega))))
  all_goals go_wp2
  all_goals go_ret
  all_goals exact ⟨rfl, by repeat (first | exact Below.refl _ _ | assumption | apply ba | apply bd | apply bdr | (refine bs ?_ (by first | (simp; done) | (simp; omega))) | (refine bt ?_ (by assumption)))⟩
theorem right_raw (l : List UInt8) (w : World) (hl : l.length ≤ 1048576) (hT : TT w) : Calls Tryz.prog 42 #[.agg #[.int .i64 5, .int .i64 0, .int .i64 0, .string (ba' l), .bool false]] w fun e w' => e = .returned (.bool (validX l)) ∧ Below w.heap.size w w' := by
  obtain ⟨b, hb⟩ : ∃ b, (validX l) = b := ⟨_, rfl⟩
  rw [hb]
  have HB := Lib.hid hb
  clear hb
  have HT := Lib.hid hT
  clear hT
  go_enter Tryz.func42, Tryz.ntmps42
  go_wp2
  go_region_held3 (fun w' => w'.cell? ⟨w.heap.size, 0, none⟩ = some (.int .i64 5) ∧ w'.cell? ⟨w.heap.size, 1, none⟩ = some (.int .i64 0) ∧ w'.cell? ⟨w.heap.size, 2, none⟩ = some (.int .i64 0) ∧ w'.cell? ⟨w.heap.size, 3, none⟩ = some (.string (ba' l)) ∧ w'.cell? ⟨w.heap.size, 4, none⟩ = some (.bool false) ∧ w.heap.size < w'.heap.size ∧ Below w.heap.size w w')
    (first
      | (go_keep; done)
      | ((repeat' apply And.intro) <;> first | assumption | (go_keep; done) | (refine Nat.lt_of_lt_of_le (by assumption) ?_; simp; done) | exact zz (by assumption) (by simp) | exact zz (by assumption) (by assumption) | (repeat (first | exact Below.refl _ _ | assumption | apply ba | apply bd | apply bdr | (refine bt ?_ (by assumption))))))
    (first
      | (go_at_call 18; refine (atRaw_any l _).mono ?_; rintro e w1 ⟨rfl, hb1⟩; have hc1 := fun o => (bcell hb1).1 w.heap.size o (by first | (simp; done) | assumption | (simp; omega)); have z1 : w.heap.size < w1.heap.size := zz hb1 (by first | (simp; done) | assumption | (simp; omega)))
      | (go_at_call 70; refine (validOne_of l hl b HB.out _ _ _ (HT.out.below (by repeat (first | exact Below.refl _ _ | assumption | apply ba | apply bd | apply bdr | (refine bs ?_ (by first | (simp; done) | (simp; omega))) | (refine bt ?_ (by assumption))))) (by first | rfl | (simp; done) | (simp [*]; done)) (by first | (simp; done) | omega)).mono ?_; rintro e w3 ⟨rfl, hb3⟩; have hc3 := fun o => (bcell hb3).1 w.heap.size o (by first | (simp; done) | assumption | (simp; omega)); have z3 : w.heap.size < w3.heap.size := zz hb3 (by first | (simp; done) | assumption | (simp; omega))))
  all_goals go_wp2
  all_goals go_ret
  all_goals exact ⟨rfl, by repeat (first | exact Below.refl _ _ | assumption | apply ba | apply bd | apply bdr | (refine bs ?_ (by first | (simp; done) | (simp; omega))) | (refine bt ?_ (by assumption)))⟩
theorem right_boo (b : Bool) (w : World) : Calls Tryz.prog 42 #[.agg #[.int .i64 4, .int .i64 0, .int .i64 0, .string ⟨#[]⟩, .bool b]] w fun e w' => e = .returned (.bool true) ∧ Below w.heap.size w w' := by
  go_enter Tryz.func42, Tryz.ntmps42
  go_wp2
  go_region_held3 (fun w' => w'.cell? ⟨w.heap.size, 0, none⟩ = some (.int .i64 4) ∧ w'.cell? ⟨w.heap.size, 1, none⟩ = some (.int .i64 0) ∧ w'.cell? ⟨w.heap.size, 2, none⟩ = some (.int .i64 0) ∧ w'.cell? ⟨w.heap.size, 3, none⟩ = some (.string ⟨#[]⟩) ∧ w'.cell? ⟨w.heap.size, 4, none⟩ = some (.bool b) ∧ w.heap.size < w'.heap.size ∧ Below w.heap.size w w')
    (first
      | (go_keep; done)
      | ((repeat' apply And.intro) <;> first | assumption | (go_keep; done) | (refine Nat.lt_of_lt_of_le (by assumption) ?_; simp; done) | exact zz (by assumption) (by simp) | exact zz (by assumption) (by assumption) | (repeat (first | exact Below.refl _ _ | assumption | apply ba | apply bd | apply bdr | (refine bt ?_ (by assumption))))))
    (first
      | (go_at_call 19; refine (atTruth_any b _).mono ?_; rintro e w1 ⟨rfl, hb1⟩; have hc1 := fun o => (bcell hb1).1 w.heap.size o (by first | (simp; done) | assumption | (simp; omega)); have z1 : w.heap.size < w1.heap.size := zz hb1 (by first | (simp; done) | assumption | (simp; omega))))
  all_goals go_wp2
  all_goals go_ret
  all_goals exact ⟨rfl, by repeat (first | exact Below.refl _ _ | assumption | apply ba | apply bd | apply bdr | (refine bs ?_ (by first | (simp; done) | (simp; omega))) | (refine bt ?_ (by assumption)))⟩
end Go.Proofs.YtemgabmafmehnaaGreatDoor
