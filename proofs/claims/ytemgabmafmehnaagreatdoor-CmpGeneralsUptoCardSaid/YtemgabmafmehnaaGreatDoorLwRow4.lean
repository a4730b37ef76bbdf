/- Rows of values that came in; which are right. No condition beyond what the theorems state. -/
import Derived.Test.YtemgabmafmehnaaGreatDoorLwRights0
import Derived.Test.YtemgabmafmehnaaGreatDoorDeMath
import Derived.Test.YtemgabmafmehnaaGreatDoorCmGeneral
namespace Go.Proofs.YtemgabmafmehnaaGreatDoor
open Go.Shelf Go.RowKit Go.Proofs.Wide Go.Proofs.Dig
set_option maxRecDepth 100000
set_option maxHeartbeats 4000000
/-- A value that came in: its five fields, whatever they are. -/
structure R5 where
  k : Int
  n : Int
  c : Int
  l : List UInt8
  b : Bool
def R5.v (r : R5) : Value := .agg #[.int .i64 r.k, .int .i64 r.n, .int .i64 r.c, .string (ba' r.l), .bool r.b]
def R5.cells (r : R5) : List Value := [.int .i64 r.k, .int .i64 r.n, .int .i64 r.c, .string (ba' r.l), .bool r.b]
def rowR (L : List R5) : List Value := L.flatMap R5.cells
theorem rowR_len (L : List R5) : (rowR L).length = L.length * 5 := by
  induction L with
  | nil => rfl
  | cons a L ih =>
    have e : rowR (a :: L) = a.cells ++ rowR L := rfl
    rw [e, List.length_append, ih]
    show 5 + L.length * 5 = (L.length + 1) * 5
    omega
theorem rowR_at : ∀ (L : List R5) (i : Nat) (r : R5) (o : Nat) (u : Value), L[i]? = some r → r.cells[o]? = some u → o < 5 → (rowR L)[i * 5 + o]? = some u
  | [], i, r, o, u, h, _, _ => by simp at h
  | a :: L, 0, r, o, u, h, hu, ho => by
    have e : rowR (a :: L) = a.cells ++ rowR L := rfl
    simp at h; subst h
    rw [e, Nat.zero_mul, Nat.zero_add, List.getElem?_append_left (by exact ho)]
    exact hu
  | a :: L, i + 1, r, o, u, h, hu, ho => by
    have h' : L[i]? = some r := by simpa using h
    have e : rowR (a :: L) = a.cells ++ rowR L := rfl
    have hl : a.cells.length = 5 := rfl
    rw [e, List.getElem?_append_right (by rw [hl]; omega), hl, show (i + 1) * 5 + o - 5 = i * 5 + o by omega]
    exact rowR_at L i r o u h' hu ho
theorem rowR_one (L : List R5) : ∀ u ∈ rowR L, u.oneCell' = true := by
  intro u hu
  unfold rowR at hu
  rw [List.mem_flatMap] at hu
  obtain ⟨p, _, hp⟩ := hu
  unfold R5.cells at hp
  simp at hp
  rcases hp with rfl | rfl | rfl | rfl | rfl <;> rfl
theorem atom_info : (Tryz.prog.info? 24).map (fun i => (i.zero, i.size, i.bytes)) = some (some (.agg #[.int .i64 0, .int .i64 0, .int .i64 0, .string ⟨#[]⟩, .bool false]), 5, 48) := by kernel_rfl
theorem run_build_empty5 (w : World) : (Instr.buildSlice 55 0 #[]).run Tryz.prog w = .ok (.slice (some ⟨w.heap.size, 0, none⟩) 0 0) (w.alloc (.cells #[] 24)) := by
  obtain ⟨i0, hi0, hz0, hz1, hz2⟩ := info_parts atom_info
  simp [Instr.buildSlice, run_underlying Tryz.underlying55, sizeOf, typeInfo, hi0, Instr.fill, newRow, show Array.range 0 = #[] from by decide]
theorem wpList_build_empty5 {ops : Array Oper} {rest : List Oper} {o : Oper} {a : Act} {w : World} {Q : Exit → Act → World → Prop} (hg : o.guard = none) (ho : o.op = .buildSlice 55 0 #[])
    (h : wpList Tryz.prog ops Q rest (a.put o.dst (.slice (some ⟨w.heap.size, 0, none⟩) 0 0)) (w.alloc (.cells #[] 24))) : wpList Tryz.prog ops Q (o :: rest) a w :=
  wpList_plain hg fun _ hK => by
    unfold Oper.wp execOp
    simp only [ho, Sem.run_bind, List.map_toArray, List.map_nil, run_build_empty5, Result.andThen_ok]
    exact hK _ _ h
/-- The cells of a row of the call's own. -/
def RowG (w : World) (g : Nat) (L : List R5) : Prop := ∀ (i : Nat) (r : R5), L[i]? = some r →
  w.cell? ⟨g, i * 5, none⟩ = some (.int .i64 r.k) ∧ w.cell? ⟨g, i * 5 + 1, none⟩ = some (.int .i64 r.n) ∧ w.cell? ⟨g, i * 5 + 2, none⟩ = some (.int .i64 r.c) ∧ w.cell? ⟨g, i * 5 + 3, none⟩ = some (.string (ba' r.l)) ∧ w.cell? ⟨g, i * 5 + 4, none⟩ = some (.bool r.b)
theorem row_owned {w : World} {base n : Nat} {v : Value} {L : List R5} (h : w.ownsRow base 24 5 v n (rowR L)) (hv : v.ownBlock ≠ none) :
    ∃ g cap, v = .slice (some ⟨g, 0, none⟩) n cap ∧ base ≤ g ∧ g < w.heap.size ∧ RowG w g L := by
  rcases h.2 with ⟨rfl, _⟩ | ⟨g, cap, cur, rfl, hb, hh, hc, _, hs, ht⟩
  · exact absurd rfl hv
  · have hg : g < w.heap.size := (Array.getElem?_eq_some_iff.1 hh).1
    have cell : ∀ j u, (rowR L)[j]? = some u → w.cell? ⟨g, j, none⟩ = some u := by
      intro j u hu
      rw [← ht, List.getElem?_take] at hu
      split at hu
      · simp [World.cell?, hh]
        simpa using hu
      · cases hu
    refine ⟨g, cap, rfl, hb, hg, fun i r hr => ⟨?_, ?_, ?_, ?_, ?_⟩⟩
    · exact cell _ _ (rowR_at L i r 0 _ hr rfl (by decide))
    · exact cell _ _ (rowR_at L i r 1 _ hr rfl (by decide))
    · exact cell _ _ (rowR_at L i r 2 _ hr rfl (by decide))
    · exact cell _ _ (rowR_at L i r 3 _ hr rfl (by decide))
    · exact cell _ _ (rowR_at L i r 4 _ hr rfl (by decide))
theorem refR_av (a : AV) (h : a.ok) : Hid (Gives 13 #[a.v] (.bool true)) := gives_unfold fun w => by
  cases a with
  | int n => exact refR_int n true w (numRef_gt n 0 (rz_inI h).1 ⟨by decide, by decide⟩ _ (rightB_true0 h))
  | dec n c => exact refR_dec n c true w (numRef_gt n c (rz_inI h).1 (rz_inI h).2 _ (rightB_true h))
  | str l => exact refR_str l true w (validRef_gt l h.2 _ h.1)
  | boo b => exact refR_boo b w
  | raw l => exact refR_raw l true w (validRef_gt l h.2 _ h.1)
/-- A value that came in is right. -/
def R5.good (r : R5) : Prop := ∃ a : AV, a.ok ∧ r.v = a.v
noncomputable def R5.ok (r : R5) : Bool := @decide r.good (Classical.propDecidable _)
theorem R5.ok_yes {r : R5} (h : r.good) : r.ok = true := @decide_eq_true _ (Classical.propDecidable _) h
theorem R5.ok_no {r : R5} (h : ¬ r.good) : r.ok = false := @decide_eq_false _ (Classical.propDecidable _) h
theorem R5.good_of {r : R5} (h : r.ok = true) : r.good := @of_decide_eq_true _ (Classical.propDecidable _) h
theorem r5_gives (r : R5) (hn : InI r.n) (hc : InI r.c) (hl : r.l.length ≤ 1048576) : Hid (Gives 13 #[r.v] (.bool r.ok)) := by
  by_cases h : r.good
  · rw [R5.ok_yes h]
    obtain ⟨a, ha, e⟩ := h
    rw [e]
    exact refR_av a ha
  · rw [R5.ok_no h]
    rcases refR_cases r.k r.n r.c r.l r.b hn hc hl with ⟨a, ha, e, _⟩ | hR
    · exact absurd ⟨a, ha, e⟩ h
    · exact hR
theorem av_fields {r : R5} {a : AV} (h : r.v = a.v) : r.k = a.kind ∧ r.n = a.fn ∧ r.c = a.fc ∧ ba' r.l = a.fs ∧ r.b = a.fb := by
  rw [v_eq] at h
  unfold R5.v at h
  simp at h
  exact ⟨h.1, h.2.1, h.2.2.1, h.2.2.2.1, h.2.2.2.2⟩
end Go.Proofs.YtemgabmafmehnaaGreatDoor
namespace Go.Proofs.YtemgabmafmehnaaGreatDoor
open Go.Shelf Go.RowKit Go.Proofs.Wide Go.Proofs.Dig
set_option maxRecDepth 100000
set_option maxHeartbeats 8000000
theorem add_off (ad : Addr) (n o : Nat) (ho : 0 < o) : ({block := (ad.add n).block, off := (ad.add n).off + o} : Addr) = ad.add (n + o) := by
  have h0 : ¬ o = 0 := by omega
  unfold Addr.add
  by_cases h : n = 0
  · subst h; simp [h0]
  · simp [h, h0]; omega
theorem all_take (L : List R5) (i : Nat) (r : R5) (h : L[i]? = some r) : (L.take (i + 1)).all R5.ok = ((L.take i).all R5.ok && r.ok) := by
  rw [List.take_add_one, h]; simp
theorem rights_any (L : List R5) (A : Option Addr) (n cap : Nat) (w : World) (hn : L.length = n) (hR : Reads w w.heap.size 5 A n (rowR L)) (hb : ∀ r ∈ L, InI r.n ∧ InI r.c ∧ r.l.length ≤ 1048576) (hl : n ≤ 1048576) :
    Calls Tryz.prog 35 #[.slice A n cap] w fun e w' => e = .returned (.bool (L.all R5.ok)) ∧ Below w.heap.size w w' := by
  obtain ⟨res, hres⟩ : ∃ res, L.all R5.ok = res := ⟨_, rfl⟩
  rw [hres]
  have HN := Lib.hid hn; have HR := Lib.hid hR; have HB := Lib.hid hb; have HS := Lib.hid hres
  clear hn hR hb hres
  go_enter Tryz.func35, Tryz.ntmps35
  go_wp2
  go_loopw [3] (fun s3 wx => ∃ i : Nat, s3 = .int .i64 i ∧ i ≤ n ∧ Hid ((L.take i).all R5.ok = true) ∧ Below w.heap.size w wx) (fun s3 _ => n - (intOf s3).toNat)
  case atStart => exact ⟨0, rfl, Nat.zero_le _, Lib.hid (by simp), Below.refl _ _⟩
  case round =>
    obtain ⟨i, rfl, hi, hall, hBW⟩ := hrel
    by_cases hlt : i < n
    · have hil : i < L.length := by rw [HN.out]; exact hlt
      obtain ⟨r, hr⟩ : ∃ r, L[i]? = some r := ⟨_, List.getElem?_eq_getElem hil⟩
      have hrm := List.mem_of_getElem? hr
      obtain ⟨ad, rfl, hblk, hcell⟩ := HR.out.2 (by omega)
      have c0 : w.cell? (ad.add (i * 5 + 0)) = some (.int .i64 r.k) := hcell _ _ (rowR_at L i r 0 _ hr rfl (by decide))
      have c1 : w.cell? (ad.add (i * 5 + 1)) = some (.int .i64 r.n) := hcell _ _ (rowR_at L i r 1 _ hr rfl (by decide))
      have c2 : w.cell? (ad.add (i * 5 + 2)) = some (.int .i64 r.c) := hcell _ _ (rowR_at L i r 2 _ hr rfl (by decide))
      have c3 : w.cell? (ad.add (i * 5 + 3)) = some (.string (ba' r.l)) := hcell _ _ (rowR_at L i r 3 _ hr rfl (by decide))
      have c4 : w.cell? (ad.add (i * 5 + 4)) = some (.bool r.b) := hcell _ _ (rowR_at L i r 4 _ hr rfl (by decide))
      have d0 : wr.cell? (ad.add (i * 5)) = some (.int .i64 r.k) := (hBW.cell (by rw [block_of_add]; exact hblk)).trans c0
      have d1 : wr.cell? {block := (ad.add (i * 5)).block, off := (ad.add (i * 5)).off + 1} = some (.int .i64 r.n) := by rw [add_off _ _ _ (by decide)]; exact (hBW.cell (by rw [block_of_add]; exact hblk)).trans c1
      have d2 : wr.cell? {block := (ad.add (i * 5)).block, off := (ad.add (i * 5)).off + 2} = some (.int .i64 r.c) := by rw [add_off _ _ _ (by decide)]; exact (hBW.cell (by rw [block_of_add]; exact hblk)).trans c2
      have d3 : wr.cell? {block := (ad.add (i * 5)).block, off := (ad.add (i * 5)).off + 3} = some (.string (ba' r.l)) := by rw [add_off _ _ _ (by decide)]; exact (hBW.cell (by rw [block_of_add]; exact hblk)).trans c3
      have d4 : wr.cell? {block := (ad.add (i * 5)).block, off := (ad.add (i * 5)).off + 4} = some (.bool r.b) := by rw [add_off _ _ _ (by decide)]; exact (hBW.cell (by rw [block_of_add]; exact hblk)).trans c4
      clear c0 c1 c2 c3 c4
      have HG : Hid (Gives 13 #[.agg #[.int .i64 r.k, .int .i64 r.n, .int .i64 r.c, .string (ba' r.l), .bool r.b]] (.bool r.ok)) := r5_gives r (HB.out r hrm).1 (HB.out r hrm).2.1 (HB.out r hrm).2.2
      have hts := Lib.hid (all_take L i r hr)
      have hl1 : decide ((i : Int) < (n : Int)) = true := by first | (simp; done) | (simp; omega)
      have hb0 : (ad.add (i * 5)).block < wr.heap.size := by rw [block_of_add]; exact Nat.lt_of_lt_of_le hblk hBW.size
      obtain ⟨b, hbe⟩ : ∃ b, r.ok = b := ⟨_, rfl⟩
      rw [hbe] at HG
      have HBE := Lib.hid hbe
      have hfalse : Hid (b = false → res = false) := Lib.hid fun e => by
        rw [← HS.out]
        rw [List.all_eq_false]
        exact ⟨r, hrm, by rw [HBE.out, e]; simp⟩
      have hnext : Hid (b = true → (L.take (i + 1)).all R5.ok = true) := Lib.hid fun e => by rw [hts.out, hall.out, HBE.out, e]; rfl
      clear hcell hr hrm hil hbe hts
      cases b with
      | true =>
        go_wp2_with (go_at_call 13; go_must (refine (HG.out.call _).mono ?_); rintro e w1 ⟨rfl, hb1⟩)
        go_roundw
        case rel => exact ⟨i + 1, by go_num, by omega, Lib.hid (hnext.out (by simp)), by repeat (with_reducible (first | exact Below.refl _ _ | assumption | apply ba | apply bd | apply bdr | (refine bs ?_ (by first | assumption | (simp; done) | (simp; omega))) | (refine bt ?_ (by assumption))))⟩
        case measure => simp [intOf]; omega
      | false =>
        have hres := hfalse.out (by simp)
        subst hres
        go_wp2_with (go_at_call 13; go_must (refine (HG.out.call _).mono ?_); rintro e w1 ⟨rfl, hb1⟩)
        go_ret
        exact ⟨rfl, by repeat (with_reducible (first | exact Below.refl _ _ | assumption | apply ba | apply bd | apply bdr | (refine bs ?_ (by first | assumption | (simp; done) | (simp; omega))) | (refine bt ?_ (by assumption))))⟩
    · obtain rfl : i = n := by omega
      have hl1 : decide (((i : Nat) : Int) < ((i : Nat) : Int)) = false := by simp
      have hres : res = true := by
        rw [← HS.out, ← hall.out, List.take_of_length_le (by rw [HN.out]; exact Nat.le_refl _)]
      subst hres
      go_wp2
      go_ret
      exact ⟨rfl, by repeat (with_reducible (first | exact Below.refl _ _ | assumption | apply ba | apply bd | apply bdr | (refine bs ?_ (by first | assumption | (simp; done) | (simp; omega))) | (refine bt ?_ (by assumption))))⟩
end Go.Proofs.YtemgabmafmehnaaGreatDoor
