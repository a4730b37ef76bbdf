/- Package char trims and normalises. No condition beyond what the theorems state. -/
import Derived.Test.YtklkodifbdpihaaDoorMathN
import Derived.Test.YtklkodifbdpihaaDoorName
namespace Go.Proofs.YtklkodifbdpihaaDoor
open Go.RowKit Go.Lib
set_option maxRecDepth 100000
theorem e35 : ∀ args w, (callFunc 35 args).run Tryd.prog w = .ok (.enter 35 args) w := enters_of Tryd.func35 (by kernel_rfl) rfl
theorem pred_space (w : World) : PredAt Tryd.prog 35 #[] encR spR w := fun W x _ => (space_any (x : Int) W).mono fun _ _ ⟨he, hw⟩ => ⟨he, 0, by rw [← hw]; rfl⟩
def strPost (B : Nat) (w : World) (l : List UInt8) (e : Ending) (w' : World) : Prop := ∃ o : ByteArray, e = .returned (.string o) ∧ o.data.toList = l ∧ Below B w w'
set_option maxHeartbeats 1000000 in
theorem trim_any (s : ByteArray) (w : World) (hs : s.size ≤ maxLen) (hT : tabs w) : Calls Tryd.prog 13 #[.string s] w (strPost w.heap.size w (trimB s.data.toList)) := by
  have cT := Tryd.strings_TrimFunc 35 #[] e35 spR s w (by unfold maxLen at hs; omega) hT (pred_space w)
  have E := Lib.hid (trimF_list s)
  obtain ⟨o, ho⟩ : ∃ o, Lib.trimF spR s = o := ⟨_, rfl⟩
  rw [ho] at cT E
  clear ho
  have C := Lib.hid cT
  clear cT
  go_enter Tryd.func13, Tryd.ntmps13
  go_wp2_with (go_at_call 34; refine C.out.mono ?_; rintro e w' ⟨rfl, hb⟩)
  go_ret
  exact ⟨o, rfl, E.out, hb⟩
theorem normB_le (l : List UInt8) : (normB l).length ≤ l.length := by
  have col : ∀ (t : List UInt8) (p : Bool), (colGo p t).length ≤ t.length := by
    intro t
    induction t with
    | nil => intro p; simp [colGo]
    | cons b t ih =>
      intro p
      rw [colGo]
      split
      · split
        · have := ih true; simp; omega
        · have := ih true; simp; omega
      · have := ih false; simp; omega
  unfold normB
  have := col (trimB l) true
  obtain ⟨p, q, e, _, _⟩ := trim_parts l
  have h2 := congrArg List.length e
  simp at h2
  omega
theorem arr_eq (l : List UInt8) : (⟨l.toArray⟩ : ByteArray).data.toList = l := rfl
theorem spans_length (s : ByteArray) : ∀ (f pos : Nat) (st : Option Nat) (acc : List (Nat × Nat)), (spansFromP spR s f pos st acc).1.length ≤ acc.length + f
  | 0, pos, st, acc => by simp [spansFromP]
  | f + 1, pos, st, acc => by
    unfold spansFromP
    split
    · split
      · cases st with
        | none => have := spans_length s f (pos + (Utf8.decode s pos).2) none acc; simp only; omega
        | some a => have := spans_length s f (pos + (Utf8.decode s pos).2) none (acc ++ [(a, pos)]); simp only; rw [List.length_append, List.length_singleton] at this; omega
      · cases st with
        | none => have := spans_length s f (pos + (Utf8.decode s pos).2) (some pos) acc; simp only; omega
        | some a => have := spans_length s f (pos + (Utf8.decode s pos).2) (some a) acc; simp only; omega
    · simp only; omega
theorem fields_length (s : ByteArray) : (Lib.goFieldsP spR s).length ≤ s.size + 1 := by
  have h := spans_length s s.size 0 none []
  unfold Lib.goFieldsP Lib.spansOfP closeSpans
  rw [List.length_map]
  simp only [List.length_nil] at h
  split
  · rw [List.length_append, List.length_singleton]; omega
  · omega
set_option maxHeartbeats 1000000 in
theorem normal_any (s : ByteArray) (w : World) (hs : s.size ≤ 4294967296) : Calls Tryd.prog 15 #[.string s] w (strPost w.heap.size w (normB s.data.toList)) := by
  have cF := Tryd.strings_FieldsFunc 35 #[] e35 spR s w hs (pred_space w)
  have hj := fields_norm s
  have hl := normB_le s.data.toList
  have hfl := fields_length s
  obtain ⟨xs, hx⟩ : ∃ xs, Lib.goFieldsP spR s = xs := ⟨_, rfl⟩
  rw [hx] at cF hj hfl
  clear hx
  have hz : s.data.toList.length = s.size := by simp
  have C := Lib.hid cF
  have J := Lib.hid hj
  clear cF
  go_enter Tryd.func15, Tryd.ntmps15
  go_wp2_with fail
  refine C.out.mono ?_
  clear C
  rintro e w1 ⟨A, rfl, hA, hown, hb⟩
  have hcells : ∀ (j : Nat) x, xs[j]? = some x → w1.cell? ⟨A, 0 + j, none⟩ = some (.string x) := by
    intro j x hjx
    have hc := hown.cells (g := A) rfl j (.string x) (by rw [List.getElem?_map, hjx]; rfl)
    by_cases j0 : j = 0
    · subst j0; simpa [Addr.add] using hc
    · simpa [Addr.add, j0] using hc
  have hAlt : A < w1.heap.size := (hown.lt A rfl).2
  have hlenj : (Lib.join (xs.map (·.data.toList)) (⟨#[32]⟩ : ByteArray).data.toList).length ≤ 140737488355328 := by
    rw [show (⟨#[32]⟩ : ByteArray).data.toList = [32] from rfl]; first | (rw [J.out]; omega) | omega
  have hN : xs.length ≤ 140737488355328 := by omega
  have cJ := Tryd.strings_Join A 0 xs.length xs ⟨#[32]⟩ w1 hcells hAlt hN (Nat.le_refl _) hlenj
  have CJ := Lib.hid cJ
  clear cJ hcells hown
  go_wp2_with (go_at_call 37; refine CJ.out.mono ?_; rintro e w2 ⟨rfl, hb2⟩)
  go_ret
  exact ⟨_, rfl, by rw [arr_eq], hb.trans (hb2.mono hb.size)⟩
end Go.Proofs.YtklkodifbdpihaaDoor
