/- The forms of trees, in plain words; a builder that lies in a writer. No condition beyond what the theorems state. -/
import Derived.Test.YtonkepjfnbcncaaTrees
import Derived.Lib.IndexMore
import Derived.Test.YtonkepjfnbcncaaShelf
import Derived.Lib.Builder
import Derived.Lib.AppendStr
import Derived.Lib.UnsafeStr
namespace Go.Proofs.Ytonkepjfnbcncaa
open Go.RowKit Go.Lib
def refT (c : UInt8) : List UInt8 := if c = 38 then [38, 97, 109, 112, 59] else if c = 60 then [38, 108, 116, 59] else if c = 62 then [38, 103, 116, 59] else if c = 13 then [38, 35, 49, 51, 59] else []
def refV (c : UInt8) : List UInt8 := if c = 38 then [38, 97, 109, 112, 59] else if c = 60 then [38, 108, 116, 59] else if c = 34 then [38, 113, 117, 111, 116, 59] else if c = 9 then [38, 35, 57, 59] else if c = 10 then [38, 35, 49, 48, 59] else if c = 13 then [38, 35, 49, 51, 59] else []
theorem refT_len (c : UInt8) : (refT c).length ≤ 6 := by
  unfold refT
  repeat (split; · simp)
  simp
theorem refV_len (c : UInt8) : (refV c).length ≤ 6 := by
  unfold refV
  repeat (split; · simp)
  simp
def esc1 (r : UInt8 → List UInt8) (c : UInt8) : List UInt8 := if r c = [] then [c] else r c
def esc (r : UInt8 → List UInt8) (l : List UInt8) : List UInt8 := l.flatMap (esc1 r)
theorem esc_snoc (r : UInt8 → List UInt8) (l : List UInt8) (c : UInt8) : esc r (l ++ [c]) = esc r l ++ esc1 r c := by
  unfold esc; rw [List.flatMap_append]; simp
theorem esc_len (r : UInt8 → List UInt8) (hr : ∀ c, (r c).length ≤ 6) : ∀ l : List UInt8, (esc r l).length ≤ 6 * l.length
  | [] => by simp [esc]
  | c :: l => by
    have h1 := esc_len r hr l
    have e : esc r (c :: l) = esc1 r c ++ esc r l := rfl
    have h2 : (esc1 r c).length ≤ 6 := by
      unfold esc1
      split
      · simp
      · exact hr c
    rw [e, List.length_append, List.length_cons]
    omega
def wA (p : List UInt8 × List UInt8) : List UInt8 := [32] ++ p.1 ++ [61, 34] ++ esc refV p.2 ++ [34]
def wP (ps : List (List UInt8 × List UInt8)) : List UInt8 := ps.flatMap wA
def comOk (v : List UInt8) : Bool := !(Lib.contains v [45, 45] || Lib.hasSuffix v [45])
mutual
def wT : PT → Bool × List UInt8
  | .mk k n v ps ks =>
    if k = 1 then wL ks
    else if k = 2 then (if ks.length = 0 then (true, [60] ++ n ++ wP ps ++ [47, 62]) else ((wL ks).1, [60] ++ n ++ wP ps ++ [62] ++ (wL ks).2 ++ ([60, 47] ++ n ++ [62])))
    else if k = 4 then (true, esc refT v)
    else if k = 5 then (if comOk v = true then (true, [60, 33, 45, 45] ++ v ++ [45, 45, 62]) else (false, []))
    else (false, [])
def wL : List PT → Bool × List UInt8
  | [] => (true, [])
  | t :: ts => if (wT t).1 = true then ((wL ts).1, (wT t).2 ++ (wL ts).2) else (false, (wT t).2)
end
theorem wP_len : ∀ ps : List (List UInt8 × List UInt8), (wP ps).length ≤ 8 * bulkP ps
  | [] => by simp [wP, bulkP]
  | p :: ps => by
    have h1 := wP_len ps
    have h2 := esc_len refV refV_len p.2
    have e : wP (p :: ps) = wA p ++ wP ps := rfl
    rw [e, List.length_append, bulkP]
    unfold wA
    simp only [List.length_append, List.length_cons, List.length_nil]
    omega
theorem wL_len_of {L : List PT} (h : ∀ t ∈ L, (wT t).2.length ≤ 8 * t.bulk) : (wL L).2.length ≤ 8 * bulkL L := by
  induction L with
  | nil => simp [wL, bulkL]
  | cons t L ih =>
    have h1 := h t (.head _)
    have h2 := ih fun u hu => h u (.tail _ hu)
    rw [wL, bulkL]
    split
    · show ((wT t).2 ++ (wL L).2).length ≤ _
      rw [List.length_append]; omega
    · show (wT t).2.length ≤ _
      omega
theorem wT_len : ∀ t : PT, (wT t).2.length ≤ 8 * t.bulk := by
  intro t
  induction t using PT.ind with
  | h k n v ps ks ih =>
    have hk := wL_len_of ih
    have hp := wP_len ps
    have he := esc_len refT refT_len v
    rw [wT, PT.bulk]
    split
    · omega
    · split
      · split
        · show ([60] ++ n ++ wP ps ++ [47, 62]).length ≤ _
          simp only [List.length_append, List.length_cons, List.length_nil]
          omega
        · show ([60] ++ n ++ wP ps ++ [62] ++ (wL ks).2 ++ ([60, 47] ++ n ++ [62])).length ≤ _
          simp only [List.length_append, List.length_cons, List.length_nil]
          omega
      · split
        · show (esc refT v).length ≤ _
          omega
        · split
          · split
            · show ([60, 33, 45, 45] ++ v ++ [45, 45, 62]).length ≤ _
              simp only [List.length_append, List.length_cons, List.length_nil]
              omega
            · simp
          · simp
theorem wL_len (L : List PT) : (wL L).2.length ≤ 8 * bulkL L := wL_len_of fun t _ => wT_len t
theorem wL_all : ∀ L : List PT, (wL L).1 = L.all fun t => (wT t).1
  | [] => rfl
  | t :: L => by
    rw [wL, List.all_cons, ← wL_all L]
    cases h : (wT t).1 <;> simp
theorem wL_flat : ∀ L : List PT, (∀ t ∈ L, (wT t).1 = true) → (wL L).2 = L.flatMap fun t => (wT t).2
  | [], _ => rfl
  | t :: L, h => by
    rw [wL, if_pos (h t (.head _)), List.flatMap_cons, ← wL_flat L fun u hu => h u (.tail _ hu)]
theorem wL_one (t : PT) : (wL [t]).1 = (wT t).1 ∧ (wL [t]).2 = (wT t).2 := by
  rw [wL]
  cases h : (wT t).1 <;> simp [wL]
end Go.Proofs.Ytonkepjfnbcncaa
namespace Go.Proofs.Ytonkepjfnbcncaa
open Go.RowKit Go.Lib
set_option maxRecDepth 100000
set_option maxHeartbeats 4000000
theorem bld_info : (Try.prog.info? 39).map (·.size) = some 2 := by kernel_rfl
theorem byte_info : (Try.prog.info? 5).map (fun i => (i.zero, i.size, i.bytes)) = some (some (.int .u8 0), 1, 1) := by kernel_rfl
theorem bld_lies : liesAt Try.prog Try.prog.depth 41 (2 / Try.prog.cellsOf 41) 0 39 1 = true := by kernel_rfl
theorem cc_fresh (b : Nat) (w : World) (h0 : w.cell? ⟨b, 0, none⟩ = some (.pointer none)) (hsh : w.shape? b = some (41, 2)) (hfz : w.frozen? ⟨b, 0, none⟩ = false) :
    Calls Try.prog 23 #[.pointer (some ⟨b, 0, none⟩)] w fun e w' => e = .returned (.tuple #[]) ∧ w' = w.setCell ⟨b, 0, none⟩ (.pointer (some ⟨b, 0, none⟩)) := by
  obtain ⟨j, hj, hjs⟩ := Option.map_eq_some_iff.1 bld_info
  go_enter Try.func23, Try.ntmps23
  go_wp2
  rw [Lib.run_to_unsafe w ⟨b, 0, none⟩ Try.underlying36 Try.underlying59 hj (by rw [hjs]; decide) hsh (Nat.zero_lt_succ 1)]
  simp only [Result.andThen]
  rw [Oper.upon_value]
  go_wp2
  rw [run_callFunc_extern Try.func25 (by kernel_rfl) (by kernel_rfl) (by kernel_rfl) (e := Extern.AbiNoEscape.same) (by kernel_rfl)]
  rw [Lib.run_noEscape]
  simp only [Result.andThen]
  rw [Oper.upon_value]
  go_wp2
  rw [Lib.run_from_unsafe w ⟨b, 0, none⟩ Try.underlying59 Try.underlying36 hj hsh bld_lies]
  simp only [Result.andThen]
  rw [Oper.upon_value]
  go_wp2
  go_end0
  exact ⟨rfl, rfl⟩
theorem cc_used (b : Nat) (w : World) (h0 : w.cell? ⟨b, 0, none⟩ = some (.pointer (some ⟨b, 0, none⟩))) :
    Calls Try.prog 23 #[.pointer (some ⟨b, 0, none⟩)] w fun e w' => e = .returned (.tuple #[]) ∧ w' = w := by
  obtain ⟨j, hj, hjs⟩ := Option.map_eq_some_iff.1 bld_info
  go_enter Try.func23, Try.ntmps23
  go_wp2
  rw [Lib.run_neq_ptr_same w ⟨b, 0, none⟩ Try.underlying36 hj]
  simp only [Result.andThen]
  rw [Oper.upon_value]
  go_wp2
  go_end0
  exact ⟨rfl, rfl⟩
/-- What is no row of bytes and not the writer's own block stays. -/
def KeptO (b : Nat) (w w' : World) : Prop := ∀ k o, k ≠ b → w.heap[k]? = some o → (∀ cs fz, o ≠ .cells cs 5 fz) → w'.heap[k]? = some o
theorem KeptO.refl (b : Nat) (w : World) : KeptO b w w := fun _ _ _ h _ => h
theorem KeptO.trans {b : Nat} {w w1 w2 : World} (h : KeptO b w w1) (k : KeptO b w1 w2) : KeptO b w w2 := fun i o hi ho hn => k i o hi (h i o hi ho hn) hn
theorem KeptO.below {b : Nat} {w w1 w2 : World} (h : KeptO b w w1) (hb : Below w1.heap.size w1 w2) : KeptO b w w2 := fun i o hi ho hn => by
  have h1 := h i o hi ho hn
  exact (hb.block i (Array.getElem?_eq_some_iff.1 h1).1).trans h1
/-- A writer that holds these bytes. -/
def Bd (B b : Nat) (l : List UInt8) (w : World) : Prop := Lib.IsBuilder 41 5 B b (Lib.byteCells l) w
theorem Bd.lt {B b : Nat} {l : List UInt8} {w : World} (h : Bd B b l w) : B ≤ b ∧ b < w.heap.size := by
  rcases h with h | h
  · exact ⟨h.1, h.lt⟩
  · exact ⟨h.1, h.lt⟩
theorem cc_any (B b : Nat) (l : List UInt8) (w : World) (h : Bd B b l w) :
    Calls Try.prog 23 #[.pointer (some ⟨b, 0, none⟩)] w fun e w' => e = .returned (.tuple #[]) ∧ Lib.BuilderAt 41 5 B b (.pointer (some ⟨b, 0, none⟩)) (Lib.byteCells l) w' ∧ Below B w w' ∧ KeptO b w w' := by
  rcases h with h | h
  · refine (cc_fresh b w h.cell0 h.shape h.frozen0).mono ?_
    rintro e w' ⟨rfl, rfl⟩
    refine ⟨rfl, h.used _, (Below.refl B w).setCell (p := ⟨b, 0, none⟩) h.1 _, fun k o hk ho _ => ?_⟩
    exact (Below.heap_setCell _ _ _ _ (fun e => hk e)).trans ho
  · refine (cc_used b w h.cell0).mono ?_
    rintro e w' ⟨rfl, rfl⟩
    exact ⟨rfl, h, Below.refl B _, KeptO.refl _ _⟩
theorem byteCells_app (l k : List UInt8) : Lib.byteCells (l ++ k) = Lib.byteCells l ++ Lib.byteCells k := by unfold Lib.byteCells; rw [List.map_append]
theorem strCells_ba (k : List UInt8) : Lib.strCells (ba' k) = Lib.byteCells k := by
  unfold Lib.strCells Lib.byteCells ba'
  simp
theorem ws_any (B b : Nat) (l k : List UInt8) (w : World) (h : Bd B b l w) (hlen : l.length + k.length ≤ 140737488355328) (hBw : B ≤ w.heap.size) :
    Calls Try.prog 20 #[.pointer (some ⟨b, 0, none⟩), .string (ba' k)] w fun e w' => e = .returned (.tuple #[.int .i64 (k.length : Int), .nilIface]) ∧ Bd B b (l ++ k) w' ∧ Below B w w' ∧ KeptO b w w' := by
  obtain ⟨i0, hi, hz0, hz1, hz2⟩ := info_parts byte_info
  have HC := Lib.hid (cc_any B b l w h)
  have hll : (Lib.byteCells l).length = l.length := Lib.byteCells_length l
  have hks : (ba' k).size = k.length := size_ba k
  go_enter Try.func20, Try.ntmps20
  go_wp2_with fail
  refine HC.out.mono ?_
  rintro e w1 ⟨rfl, h1, hb1, hk1⟩
  obtain ⟨hB, v, hbk, hown, hne⟩ := h1
  have c0 : w1.cell? ⟨b, 0, none⟩ = some (.pointer (some ⟨b, 0, none⟩)) := by rw [Lib.cell_of_heap hbk]; rfl
  have c1 : w1.cell? ⟨b, 1, none⟩ = some v := by rw [Lib.cell_of_heap hbk]; rfl
  have hz := hb1.size
  have hlt : b < w1.heap.size := (Array.getElem?_eq_some_iff.1 hbk).1
  have HX := Lib.hid (⟨hb1, hk1, hown, hne, hbk⟩ : _ ∧ _ ∧ _ ∧ _ ∧ _)
  clear hb1 hk1 hbk HC
  go_wp2_with (at_builtin; go_must (refine Lib.wpList_append_own_string _ rfl _ _ 37 9 rfl B 5 i0 Try.underlying37 Try.underlying9 hi hz0 hz1 hz2 _ _ _ rfl hown (ba' k) rfl ?c3 ?c4 ?c5 ?_))
  case c3 => unfold maxLen; omega
  case c4 => omega
  case c5 => omega
  intro v' w2 hown' hgrow hat
  obtain ⟨hb1, hk1, _, _, hbk⟩ := HX.out
  have hb2 : w2.heap[b]? = some (.cells #[.pointer (some ⟨b, 0, none⟩), v] 41 (0, 0)) := by
    rw [hgrow.block b hlt (fun e => hne e.symm)]
    exact hbk
  have d0 : w2.cell? ⟨b, 0, none⟩ = some (.pointer (some ⟨b, 0, none⟩)) := by rw [Lib.cell_of_heap hb2]; rfl
  have d1 : w2.cell? ⟨b, 1, none⟩ = some v := by rw [Lib.cell_of_heap hb2]; rfl
  have f1 : w2.frozen? ⟨b, 1, none⟩ = false := Lib.frozen_of_heap hb2 1
  obtain ⟨ao, n', cap, rfl⟩ : ∃ ao n' cap, v' = .slice ao n' cap := by
    rcases hown'.2 with ⟨hv, _⟩ | ⟨g, cap, cur, hv, _⟩
    · exact ⟨_, _, _, hv⟩
    · exact ⟨_, _, _, hv⟩
  have HY := Lib.hid (⟨hb1, hk1, hown, hgrow, hown', hb2⟩ : _ ∧ _ ∧ _ ∧ _ ∧ _ ∧ _)
  clear hb1 hk1 hown hgrow hown' hb2 hbk HX hat
  go_wp2
  go_ret2
  obtain ⟨hb1, hk1, hown, hgrow, hown', hb2⟩ := HY.out
  refine ⟨rfl, ?_, ?_, ?_⟩
  · refine .inr ?_
    refine Lib.BuilderAt.put (T := 41) (e := 5) hB hb2 (bs' := Lib.byteCells (l ++ k)) ?_ (by decide)
    rw [byteCells_app, List.length_append, hll, Lib.byteCells_length, ← strCells_ba k]
    exact hown'
  · exact (hb1.grown hgrow (by omega) (fun k hk => (hown.lt k hk).1)).setCell (p := ⟨b, 1, none⟩) hB _
  · refine hk1.trans fun i o hi ho hn => ?_
    have hib : i < w1.heap.size := (Array.getElem?_eq_some_iff.1 ho).1
    have e1 : w2.heap[i]? = some o := (hgrow.block i hib (fun e => by
      rcases hown.2 with ⟨rfl, _⟩ | ⟨g, cap, cur, rfl, _, hg, _⟩
      · cases e
      · cases e
        rw [hg] at ho
        cases ho
        exact hn _ _ rfl)).trans ho
    exact (Below.heap_setCell _ _ _ _ (fun e => hi e)).trans e1
/-- A row of words among the blocks. -/
def WordsAt (g : Nat) (ws : List (List UInt8)) (w : World) : Prop := w.heap[g]? = some (.cells (ws.map fun s => Value.string (ba' s)).toArray 9 (0, 0))
theorem WordsAt.cell {g : Nat} {ws : List (List UInt8)} {w : World} (h : WordsAt g ws w) {i : Nat} (hi : i < ws.length) : w.cell? ⟨g, i, none⟩ = some (.string (ba' (ws[i]'hi))) := by
  rw [Lib.cell_of_heap h]
  simp [hi]
theorem WordsAt.kept {g b : Nat} {ws : List (List UInt8)} {w w' : World} (h : WordsAt g ws w) (hk : KeptO b w w') (hg : g ≠ b) : WordsAt g ws w' := hk g _ hg h (fun cs fz e => by cases e)
theorem put_any (B b g cap n : Nat) (l : List UInt8) (ws : List (List UInt8)) (w : World) (h : Bd B b l w) (hw : WordsAt g ws w) (hgb : g ≠ b) (hn : ws.length = n) (hn4 : n ≤ 4) (hlen : l.length + ws.flatten.length ≤ 140737488355328) (hBw : B ≤ w.heap.size) :
    Calls Try.prog 16 #[.pointer (some ⟨b, 0, none⟩), .slice (some ⟨g, 0, none⟩) n cap] w fun e w' => e = .returned (.tuple #[]) ∧ Bd B b (l ++ ws.flatten) w' ∧ Below B w w' ∧ KeptO b w w' := by
  have H0 := Lib.hid h; have HW := Lib.hid hw; have HN := Lib.hid hn; have HL := Lib.hid hlen
  clear h hw hn hlen
  go_enter Try.func16, Try.ntmps16
  go_wp2
  go_loopw [8] (fun s8 wx => ∃ i : Nat, s8 = .int .i64 (i : Int) ∧ i ≤ n ∧ Hid (Bd B b (l ++ (ws.take i).flatten) wx) ∧ Hid (Below B w wx ∧ KeptO b w wx)) (fun s8 _ => n - (RowKit.intOf s8).toNat)
  case atStart => exact ⟨0, rfl, by omega, Lib.hid (by simpa using H0.out), Lib.hid ⟨Below.refl _ _, KeptO.refl _ _⟩⟩
  case round =>
    obtain ⟨i, rfl, hi, hB, hK⟩ := hrel
    by_cases hlt : i < n
    · have g0 : decide ((i : Int) < (n : Int)) = true := by simp; omega
      have g0' : decide (i < n) = true := by simpa using hlt
      have hil : i < ws.length := by rw [HN.out]; exact hlt
      have c0 := (HW.out.kept hK.out.2 hgb).cell hil
      have hts : (ws.take (i + 1)).flatten = (ws.take i).flatten ++ (ws[i]'hil) := by
        rw [List.take_add_one, List.getElem?_eq_getElem hil, List.flatten_append]; simp
      have hle : (l ++ (ws.take i).flatten).length + (ws[i]'hil).length ≤ 140737488355328 := by
        have h1 := HL.out
        have h2 : (ws.take (i + 1)).flatten.length ≤ ws.flatten.length := by
          have := List.take_append_drop (i + 1) ws
          have h3 : ws.flatten.length = (ws.take (i + 1)).flatten.length + (ws.drop (i + 1)).flatten.length := by
            rw [← List.length_append, ← List.flatten_append, this]
          omega
        rw [hts, List.length_append] at h2
        rw [List.length_append]; omega
      obtain ⟨k, hk⟩ : ∃ k, ws[i]'hil = k := ⟨_, rfl⟩
      rw [hk] at c0 hts hle
      have HS := Lib.hid (ws_any B b _ k wr hB.out hle (by have := hK.out.1.size; omega))
      have HT := Lib.hid hts
      clear hts hk hle hil
      go_wp2_with fail
      refine HS.out.mono ?_
      rintro e w1 ⟨rfl, h1, h2, h3⟩
      have HX := Lib.hid (⟨h1, h2, h3⟩ : _ ∧ _ ∧ _)
      clear h1 h2 h3
      go_wp2
      go_roundw
      case rel => exact ⟨i + 1, by go_num, by omega, Lib.hid (by rw [HT.out, ← List.append_assoc]; exact HX.out.1), Lib.hid ⟨hK.out.1.trans HX.out.2.1, hK.out.2.trans HX.out.2.2⟩⟩
      case measure => simp [RowKit.intOf]; omega
    · obtain rfl : i = n := by omega
      have g0 : decide ((i : Int) < (i : Int)) = false := by simp
      have hta : ws.take i = ws := List.take_of_length_le (by rw [HN.out]; omega)
      have HF := Lib.hid hB.out
      rw [hta] at HF
      go_wp2
      go_end0
      exact ⟨rfl, HF.out, hK.out.1, hK.out.2⟩
end Go.Proofs.Ytonkepjfnbcncaa
