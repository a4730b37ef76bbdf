/- Package dec adds a row of numbers. No condition beyond what the theorems state. -/
import Derived.Test.YtmggffhecopgiaaDoorLawOrders
namespace Go.Proofs
open Go.Shelf Go.RowKit Go.Proofs.Wide
def stepZ (s : Option (Int × Nat)) (a : Int × Nat) : Option (Int × Nat) := match s with | some p => addZ p.1 p.2 a.1 a.2 | none => none
/-- A row of numbers added, one after the other. -/
def sumZ (L : List (Int × Nat)) : Option (Int × Nat) := L.foldl stepZ (some (0, 0))
theorem step_none (L : List (Int × Nat)) : L.foldl stepZ none = none := by
  induction L with
  | nil => rfl
  | cons a L ih => exact ih
def castL (L : List (Int × Nat)) : List (Int × Int) := L.map fun p => (p.1, (p.2 : Int))
set_option maxHeartbeats 4000000 in
theorem sum_any (g cap : Nat) (L : List (Int × Nat)) (w0 : World) (hL : ∀ p ∈ L, RightZ p.1 p.2) (hlen : L.length ≤ 1000000) (hN : Nums w0 g (castL L)) (hg : g < w0.heap.size) :
    Calls Tryd.prog 30 #[.slice (some ⟨g, 0, none⟩) L.length cap] w0 fun e w' => e = .returned (outV (sumZ L)) ∧ Below w0.heap.size w0 w' := by
  obtain ⟨r, hr⟩ : ∃ r, sumZ L = r := ⟨_, rfl⟩
  rw [hr]
  obtain ⟨rn, hrn⟩ : ∃ x, outN r = x := ⟨_, rfl⟩
  obtain ⟨rk, hrk⟩ : ∃ x, outK r = x := ⟨_, rfl⟩
  obtain ⟨re, hre⟩ : ∃ x, outE r = x := ⟨_, rfl⟩
  unfold outV
  rw [hrn, hrk, hre]
  have HR := Lib.hid hr; have HRN := Lib.hid hrn; have HRK := Lib.hid hrk; have HRE := Lib.hid hre
  clear hr hrn hrk hre
  go_enter Tryd.func30, Tryd.ntmps30
  go_wp2
  go_loopw [10] (fun s7 wx => ∃ (k : Nat) (n : Int) (s : Nat), s7 = .int .i64 k ∧ k ≤ L.length ∧ (L.take k).foldl stepZ (some (0, 0)) = some (n, s) ∧ RightZ n s ∧ (∃ u v, Own wx w0.heap.size u v) ∧ Own wx (w0.heap.size + 1) (.int .i64 n) (.int .i64 s) ∧ Below w0.heap.size w0 wx) (fun s7 _ => L.length - (intOf s7).toNat)
  case atStart => exact ⟨0, 0, 0, rfl, Nat.zero_le _, rfl, right_zero, ⟨_, _, (Own.new_at (by simp)).alloc _⟩, Own.new_at (by simp), ba (ba (Below.refl _ _))⟩
  case round =>
    obtain ⟨k, n, s, rfl, hk, hs, zr, ⟨x1, x2, O0⟩, O1, HB⟩ := hrel
    by_cases hlt : k < L.length
    · obtain ⟨p, hp⟩ : ∃ p, L[k]? = some p := ⟨_, List.getElem?_eq_getElem hlt⟩
      have zp := hL p (List.mem_of_getElem? hp)
      obtain ⟨m, l⟩ := p
      obtain ⟨c1, c2⟩ := hN k (m, (l : Int)) (by unfold castL; rw [List.getElem?_map, hp]; rfl)
      have d1 := (HB.cell (p := ⟨g, 2 * k, none⟩) hg).trans c1
      have d2 := (HB.cell (p := ⟨g, 2 * k + 1, none⟩) hg).trans c2
      have hts : (L.take (k + 1)).foldl stepZ (some (0, 0)) = addZ n s m l := by
        rw [List.take_add_one, hp, List.foldl_append, hs]; rfl
      have hrest : L.foldl stepZ (some (0, 0)) = (L.drop (k + 1)).foldl stepZ (addZ n s m l) := by
        conv => lhs; rw [← List.take_append_drop (k + 1) L]
        rw [List.foldl_append, hts]
      have GA := ga zr zp
      have HTS := Lib.hid hts; have HREST := Lib.hid hrest; have HZP := Lib.hid zp; have HZR := Lib.hid zr
      simp only at d1 d2
      have e2k : k * 2 = 2 * k := by omega
      clear hts hrest zp zr hp hN hL c1 c2 hs
      have O0' := Lib.hid O0; have O1' := Lib.hid O1
      obtain ⟨_, _, _, _⟩ := O0
      obtain ⟨_, _, _, _⟩ := O1
      have L1 := O1'.out.lt
      cases e : addZ n s m l with
      | none =>
        rw [e] at GA
        have hq : sumZ L = none := by unfold sumZ; rw [HREST.out, e]; exact step_none _
        have hr := HR.out
        rw [hq] at hr
        subst hr
        obtain rfl := HRN.out
        obtain rfl := HRK.out
        obtain rfl := HRE.out
        clear hq e
        unfold outV outN outK outE at *
        go_wp2_with (go_at_call 18; refine (GA.out.call _).mono ?_; rintro e w' ⟨rfl, hb⟩; obtain ⟨_, _, _, _⟩ := (O0'.out.alloc _).call hb; obtain ⟨_, _, _, _⟩ := (O1'.out.alloc _).call hb)
        exact bodyPost_ret (v := .tuple #[.agg #[.int .i64 0, .int .i64 0], .int .i64 53]) (by simp [results, Tryd.results30, go_sem, *]) rfl ⟨rfl, by repeat (first | exact Below.refl _ _ | assumption | apply ba | (refine bs ?_ (by first | (simp; done) | (simp; omega))) | (refine bt ?_ (by assumption)))⟩
      | some q =>
        obtain ⟨a, b⟩ := q
        rw [e] at GA
        have za := ((add_some HZR.out.2.2.1 HZP.out.2.2.1).1 e).1
        have hts : (L.take (k + 1)).foldl stepZ (some (0, 0)) = some (a, b) := by rw [HTS.out, e]
        have HT := Lib.hid hts
        have HZA := Lib.hid za
        clear hts e za
        unfold outV outN outK outE at GA
        go_wp2_with (go_at_call 18; refine (GA.out.call _).mono ?_; rintro e w' ⟨rfl, hb⟩; have Q0 := (O0'.out.alloc _).call hb; have Q1 := (O1'.out.alloc _).call hb; (have Q := Q1; obtain ⟨_, _, _, _⟩ := Q))
        go_roundw
        case rel => exact ⟨k + 1, a, b, by go_num, by omega, HT.out, HZA.out, ⟨_, _, (Q0.set_ (by simp)).set_ (by simp)⟩, Q1.store _ _, by repeat (first | exact Below.refl _ _ | assumption | apply ba | (refine bs ?_ (by first | (simp; done) | (simp; omega))) | (refine bt ?_ (by assumption)))⟩
        case measure => simp [intOf]; omega
    · obtain rfl : k = L.length := by omega
      rw [List.take_length] at hs
      have hr := HR.out
      unfold sumZ at hr
      rw [hs] at hr
      subst hr
      obtain rfl := HRN.out
      obtain rfl := HRK.out
      obtain rfl := HRE.out
      clear hs hN hL
      unfold outN outK outE at *
      obtain ⟨_, _, _, _⟩ := O0
      obtain ⟨_, _, _, _⟩ := O1
      go_wp2
      exact bodyPost_ret (v := .tuple #[.agg #[.int .i64 n, .int .i64 s], .int .i64 0]) (by simp [results, Tryd.results30, go_sem, *]) rfl ⟨rfl, bs (bs HB (by simp)) (by simp)⟩
end Go.Proofs
