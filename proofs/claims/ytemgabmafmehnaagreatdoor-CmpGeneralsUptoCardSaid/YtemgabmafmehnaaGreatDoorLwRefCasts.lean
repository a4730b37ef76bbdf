/- What the reference casts a value to. No condition beyond what the theorems state. -/
import Derived.Test.YtemgabmafmehnaaGreatDoorLwTexts
import Derived.Test.YtemgabmafmehnaaGreatDoorAtRefCasts
namespace Go.Proofs.YtemgabmafmehnaaGreatDoor
open Go.Shelf Go.RowKit Go.Proofs.Wide Go.Proofs.Dig
set_option maxRecDepth 100000
set_option maxHeartbeats 4000000
theorem dot_trim (l : List UInt8) : (46 ∈ trimB l) ↔ 46 ∈ l := by
  have key : ∀ l : List UInt8, (46 ∈ l.dropWhile spN) ↔ 46 ∈ l := by
    intro l
    induction l with
    | nil => simp
    | cons a l ih =>
      rw [List.dropWhile_cons]
      by_cases h : spN a = true
      · rw [if_pos h, ih]
        have ha : a ≠ 46 := by intro e; subst e; revert h; decide
        exact ⟨fun h => List.mem_cons_of_mem _ h, fun h => (List.mem_cons.1 h).elim (fun e => absurd e.symm ha) id⟩
      · rw [if_neg h]
  unfold trimB
  rw [List.mem_reverse, key, List.mem_reverse, key]
theorem refParse_gt (t : List UInt8) (ht : t.length ≤ 1048576) : Hid (Gives 51 #[.string (ba' t)] (.tuple #[.int .i64 (parseZ t).1, .int .i64 (parseZ t).2.1, .int .i64 (parseZ t).2.2])) := gives_unfold fun w => refParse_any t (by omega) w
theorem refToBool_av (a : AV) (h : a.ok) (hb : a.kind ≠ 4) : Hid (Gives 49 #[a.v] (outC (toBoolZ a))) := gives_unfold fun w => by
  cases a with
  | int n =>
    by_cases hn : n = 0
    · subst hn; exact refToBool_int_no w
    · have e : toBoolZ (.int n) = .ok (.boo true) := by simp only [toBoolZ, decide_eq_true hn]
      rw [e]; exact refToBool_int_yes n w hn
  | dec n c =>
    by_cases hn : n = 0
    · subst hn; exact refToBool_dec_no c w
    · have e : toBoolZ (.dec n c) = .ok (.boo true) := by simp only [toBoolZ, decide_eq_true hn]
      rw [e]; exact refToBool_dec_yes n c w hn
  | boo b => exact absurd rfl hb
  | str l =>
    have ht := trimRef_gt l h.2
    show Calls _ _ _ _ (fun e w' => e = .returned (outC (truthL (trimB l))) ∧ _)
    rcases truthL_cases (trimB l) with ⟨e, r⟩ | ⟨e, r⟩ | ⟨e, r⟩ | ⟨e, r⟩ | ⟨h1, h2, h3, h4, r⟩
    · rw [r]; rw [e] at ht; exact refToBool_txt3_true l w ht
    · rw [r]; rw [e] at ht; exact refToBool_txt3_one l w ht
    · rw [r]; rw [e] at ht; exact refToBool_txt3_false l w ht
    · rw [r]; rw [e] at ht; exact refToBool_txt3_nought l w ht
    · rw [r]; exact refToBool_txt3_no l _ w ht h1 h2 h3 h4
  | raw l =>
    have ht := trimRef_gt l h.2
    show Calls _ _ _ _ (fun e w' => e = .returned (outC (truthL (trimB l))) ∧ _)
    rcases truthL_cases (trimB l) with ⟨e, r⟩ | ⟨e, r⟩ | ⟨e, r⟩ | ⟨e, r⟩ | ⟨h1, h2, h3, h4, r⟩
    · rw [r]; rw [e] at ht; exact refToBool_txt5_true l w ht
    · rw [r]; rw [e] at ht; exact refToBool_txt5_one l w ht
    · rw [r]; rw [e] at ht; exact refToBool_txt5_false l w ht
    · rw [r]; rw [e] at ht; exact refToBool_txt5_nought l w ht
    · rw [r]; exact refToBool_txt5_no l _ w ht h1 h2 h3 h4
/-- What the reference's loop over a text has found. -/
def evZ (u : List UInt8) (pe : Int) (i : Nat) : Int := if 46 ∈ u.take i then 12 else pe
theorem evZ_step (u : List UInt8) (pe : Int) (i : Nat) (h : i < u.length) : evZ u pe (i + 1) = if u[i] = 46 then 12 else evZ u pe i := by
  unfold evZ
  by_cases h1 : u[i] = 46
  · rw [if_pos h1, if_pos ((mem_take_succ u i h).2 (.inr h1))]
  · rw [if_neg h1]
    by_cases h2 : 46 ∈ u.take i
    · rw [if_pos h2, if_pos ((mem_take_succ u i h).2 (.inl h2))]
    · rw [if_neg h2, if_neg fun h3 => ((mem_take_succ u i h).1 h3).elim h2 h1]
theorem evZ_end (u : List UInt8) (pe : Int) : evZ u pe u.length = if 46 ∈ u then 12 else pe := by unfold evZ; rw [List.take_length]
theorem evZ_0 (u : List UInt8) (pe : Int) : evZ u pe 0 = pe := by unfold evZ; simp
theorem refInt_str (l : List UInt8) (hl : l.length ≤ 1048576) (w : World) : Calls Tryz.prog 25 #[(AV.str l).v, .int .i64 1] w fun e w' => e = .returned (outC (toIntZ (.str l))) ∧ Below w.heap.size w w' := by
  have ht := trimRef_gt l hl
  have hu := Nat.le_trans (trimB_len l) hl
  have hp := refParse_gt (trimB l) hu
  by_cases hd : 46 ∈ l
  · have e : toIntZ (.str l) = .error 50 := by simp only [toIntZ, if_pos hd]
    rw [e]
    exact refCast_txt3to1_bad l (trimB l) _ _ _ 12 w ht hp (evZ (trimB l) _) hu (evZ_0 _ _) (fun i h => evZ_step _ _ i h) (by rw [evZ_end, if_pos ((dot_trim l).2 hd)]) rfl
  · have hde : ∀ pe, evZ (trimB l) pe (trimB l).length = pe := fun pe => by rw [evZ_end, if_neg (fun h => hd ((dot_trim l).1 h))]
    cases hr : readZ (trimB l) with
    | ok p =>
      obtain ⟨hz, e'⟩ := read_ok hr
      have e : toIntZ (.str l) = .ok (.int (p.1.tdiv (10 ^ p.2))) := by simp only [toIntZ, if_neg hd, hr]
      rw [e]; rw [e'] at hp
      exact refCast_txt3to1_ok l (trimB l) _ _ _ _ w ht hp (evZ (trimB l) _) hu (evZ_0 _ _) (fun i h => evZ_step _ _ i h) (hde _) rfl p.2 rfl p.1 rfl hz.1 hz.2.1 hz.2.2.1 _ rfl
    | error x =>
      have e : toIntZ (.str l) = .error x := by simp only [toIntZ, if_neg hd, hr]
      rw [e]
      rcases read_err hr with ⟨rfl, e'⟩ | ⟨rfl, e'⟩
      · rw [e'] at hp
        exact refCast_txt3to1_bad l (trimB l) _ _ _ _ w ht hp (evZ (trimB l) _) hu (evZ_0 _ _) (fun i h => evZ_step _ _ i h) (hde _) rfl
      · rw [e'] at hp
        exact refCast_txt3to1_err l (trimB l) _ _ _ _ w ht hp (evZ (trimB l) _) hu (evZ_0 _ _) (fun i h => evZ_step _ _ i h) (hde _) (by decide) (by decide)
theorem refDec_str (l : List UInt8) (hl : l.length ≤ 1048576) (w : World) : Calls Tryz.prog 25 #[(AV.str l).v, .int .i64 2] w fun e w' => e = .returned (outC (toDecZ (.str l))) ∧ Below w.heap.size w w' := by
  have ht := trimRef_gt l hl
  have hu := Nat.le_trans (trimB_len l) hl
  have hp := refParse_gt (trimB l) hu
  cases hr : readZ (trimB l) with
  | ok p =>
    obtain ⟨hz, e'⟩ := read_ok hr
    have e : toDecZ (.str l) = .ok (.dec p.1 p.2) := by simp only [toDecZ, hr]
    rw [e]; rw [e'] at hp
    exact refCast_txt3to2_ok l (trimB l) _ _ _ _ w ht hp (fun _ => 0) hu rfl (fun i h => by simp) rfl rfl
  | error x =>
    have e : toDecZ (.str l) = .error x := by simp only [toDecZ, hr]
    rw [e]
    rcases read_err hr with ⟨rfl, e'⟩ | ⟨rfl, e'⟩
    · rw [e'] at hp
      exact refCast_txt3to2_bad l (trimB l) _ _ _ _ w ht hp (fun _ => 12) hu rfl (fun i h => by simp) rfl rfl
    · rw [e'] at hp
      exact refCast_txt3to2_err l (trimB l) _ _ _ _ w ht hp (fun _ => 53) hu rfl (fun i h => by simp) rfl (by decide) (by decide)
theorem refInt_raw (l : List UInt8) (hl : l.length ≤ 1048576) (w : World) : Calls Tryz.prog 25 #[(AV.raw l).v, .int .i64 1] w fun e w' => e = .returned (outC (toIntZ (.raw l))) ∧ Below w.heap.size w w' := by
  have ht := trimRef_gt l hl
  have hu := Nat.le_trans (trimB_len l) hl
  have hp := refParse_gt (trimB l) hu
  by_cases hd : 46 ∈ l
  · have e : toIntZ (.raw l) = .error 50 := by simp only [toIntZ, if_pos hd]
    rw [e]
    exact refCast_txt5to1_bad l (trimB l) _ _ _ 12 w ht hp (evZ (trimB l) _) hu (evZ_0 _ _) (fun i h => evZ_step _ _ i h) (by rw [evZ_end, if_pos ((dot_trim l).2 hd)]) rfl
  · have hde : ∀ pe, evZ (trimB l) pe (trimB l).length = pe := fun pe => by rw [evZ_end, if_neg (fun h => hd ((dot_trim l).1 h))]
    cases hr : readZ (trimB l) with
    | ok p =>
      obtain ⟨hz, e'⟩ := read_ok hr
      have e : toIntZ (.raw l) = .ok (.int (p.1.tdiv (10 ^ p.2))) := by simp only [toIntZ, if_neg hd, hr]
      rw [e]; rw [e'] at hp
      exact refCast_txt5to1_ok l (trimB l) _ _ _ _ w ht hp (evZ (trimB l) _) hu (evZ_0 _ _) (fun i h => evZ_step _ _ i h) (hde _) rfl p.2 rfl p.1 rfl hz.1 hz.2.1 hz.2.2.1 _ rfl
    | error x =>
      have e : toIntZ (.raw l) = .error x := by simp only [toIntZ, if_neg hd, hr]
      rw [e]
      rcases read_err hr with ⟨rfl, e'⟩ | ⟨rfl, e'⟩
      · rw [e'] at hp
        exact refCast_txt5to1_bad l (trimB l) _ _ _ _ w ht hp (evZ (trimB l) _) hu (evZ_0 _ _) (fun i h => evZ_step _ _ i h) (hde _) rfl
      · rw [e'] at hp
        exact refCast_txt5to1_err l (trimB l) _ _ _ _ w ht hp (evZ (trimB l) _) hu (evZ_0 _ _) (fun i h => evZ_step _ _ i h) (hde _) (by decide) (by decide)
theorem refDec_raw (l : List UInt8) (hl : l.length ≤ 1048576) (w : World) : Calls Tryz.prog 25 #[(AV.raw l).v, .int .i64 2] w fun e w' => e = .returned (outC (toDecZ (.raw l))) ∧ Below w.heap.size w w' := by
  have ht := trimRef_gt l hl
  have hu := Nat.le_trans (trimB_len l) hl
  have hp := refParse_gt (trimB l) hu
  cases hr : readZ (trimB l) with
  | ok p =>
    obtain ⟨hz, e'⟩ := read_ok hr
    have e : toDecZ (.raw l) = .ok (.dec p.1 p.2) := by simp only [toDecZ, hr]
    rw [e]; rw [e'] at hp
    exact refCast_txt5to2_ok l (trimB l) _ _ _ _ w ht hp (fun _ => 0) hu rfl (fun i h => by simp) rfl rfl
  | error x =>
    have e : toDecZ (.raw l) = .error x := by simp only [toDecZ, hr]
    rw [e]
    rcases read_err hr with ⟨rfl, e'⟩ | ⟨rfl, e'⟩
    · rw [e'] at hp
      exact refCast_txt5to2_bad l (trimB l) _ _ _ _ w ht hp (fun _ => 12) hu rfl (fun i h => by simp) rfl rfl
    · rw [e'] at hp
      exact refCast_txt5to2_err l (trimB l) _ _ _ _ w ht hp (fun _ => 53) hu rfl (fun i h => by simp) rfl (by decide) (by decide)
theorem refCast_av (a : AV) (h : a.ok) (tk : Int) : Hid (Gives 25 #[a.v, .int .i64 tk] (outC (castZ a tk))) := gives_unfold fun w => by
  have h3 := refText_av a h
  by_cases e1 : tk = 1
  · subst e1
    show Calls _ _ _ _ (fun e w' => e = .returned (outC (toIntZ a)) ∧ _)
    cases a with
    | int n => exact refCast_same1 _ _ _ _ w
    | dec n c => exact refCast_2to1 n _ c w h.1 h.2.1 h.2.2.1 rfl
    | str l => exact refInt_str l h.2 w
    | boo b => cases b
               · exact refCast_4to1_false w
               · exact refCast_4to1_true w
    | raw l => exact refInt_raw l h.2 w
  by_cases e2 : tk = 2
  · subst e2
    show Calls _ _ _ _ (fun e w' => e = .returned (outC (toDecZ a)) ∧ _)
    cases a with
    | int n => exact refCast_1to2 n w
    | dec n c => exact refCast_same2 _ _ _ _ w
    | str l => exact refDec_str l h.2 w
    | boo b => cases b
               · exact refCast_4to2_false w
               · exact refCast_4to2_true w
    | raw l => exact refDec_raw l h.2 w
  by_cases e3 : tk = 3
  · subst e3
    cases a with
    | int n => exact refCast_1to3 n _ _ _ _ w h3
    | dec n c => exact refCast_2to3 n _ _ _ _ w h3
    | str l => exact refCast_same3 _ _ _ _ w
    | boo b => exact refCast_4to3 _ _ _ _ _ w h3
    | raw l => exact refCast_5to3 _ _ _ _ _ w h3
  by_cases e4 : tk = 4
  · subst e4
    show Calls _ _ _ _ (fun e w' => e = .returned (outC (toBoolZ a)) ∧ _)
    by_cases hk : a.kind = 4
    · cases a with
      | boo b => exact refCast_same4 _ _ _ _ w
      | int n => exact absurd hk (by show ¬ (1 : Int) = 4; decide)
      | dec n c => exact absurd hk (by show ¬ (2 : Int) = 4; decide)
      | str l => exact absurd hk (by show ¬ (3 : Int) = 4; decide)
      | raw l => exact absurd hk (by show ¬ (5 : Int) = 4; decide)
    · have h4 := refToBool_av a h hk
      obtain ⟨k1, n1, c1, s1, b1, x1, o⟩ := out_fields (toBoolZ a)
      rw [o] at h4 ⊢
      cases a with
      | int n => exact refCast_1to4 _ _ _ _ _ _ _ _ _ _ w h4
      | dec n c => exact refCast_2to4 _ _ _ _ _ _ _ _ _ _ w h4
      | str l => exact refCast_3to4 _ _ _ _ _ _ _ _ _ _ w h4
      | boo b => exact absurd rfl hk
      | raw l => exact refCast_5to4 _ _ _ _ _ _ _ _ _ _ w h4
  by_cases e5 : tk = 5
  · subst e5
    cases a with
    | int n => exact refCast_1to5 n _ _ _ _ w h3
    | dec n c => exact refCast_2to5 n _ _ _ _ w h3
    | str l => exact refCast_3to5 _ _ _ _ _ w h3
    | boo b => exact refCast_4to5 _ _ _ _ _ w h3
    | raw l => exact refCast_same5 _ _ _ _ w
  · have o : castZ a tk = .error 2 := by unfold castZ; rw [if_neg e1, if_neg e2, if_neg e3, if_neg e4, if_neg e5]
    rw [o]
    obtain ⟨k, n, c, s, b, e⟩ := v_fields a
    rw [e]
    by_cases hl : tk < 1
    · exact refCast_low k n c s b tk w hl
    · exact refCast_high k n c s b tk w (by omega)
end Go.Proofs.YtemgabmafmehnaaGreatDoor
