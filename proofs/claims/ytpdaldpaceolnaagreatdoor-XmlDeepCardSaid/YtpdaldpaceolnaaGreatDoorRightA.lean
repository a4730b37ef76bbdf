/- Right trees, in the reference and in the program. No condition beyond what the theorems state. -/
import Derived.Test.YtpdaldpaceolnaaGreatDoorTrees
import Derived.Deep.DeepMust
import Derived.Test.YtpdaldpaceolnaaGreatDoorValid
import Derived.Maps.Own
import Derived.Maps.OwnOps
import Derived.Maps.Views
namespace Go.Proofs.YtpdaldpaceolnaaGreatDoor
open Go.RowKit Go.Lib
set_option maxRecDepth 100000
set_option maxHeartbeats 4000000
/-- What a call answers, making memory alone. -/
theorem isE {l : List UInt8} (h : l = []) : (ba' l).toList.isEmpty = true := by rw [toList_ba, h]; rfl
theorem isN {l : List UInt8} (h : l ≠ []) : (ba' l).toList.isEmpty = false := by
  rw [toList_ba]
  cases l with
  | nil => exact absurd rfl h
  | cons a l => rfl
theorem eq_yes (l : List UInt8) : ((ba' l).toList == (ba' l).toList) = true := by simp
theorem eq_no {l m : List UInt8} (h : l ≠ m) : ((ba' l).toList == (ba' m).toList) = false := by
  rw [toList_ba, toList_ba]
  simpa using h
/-- The kind of the kid ahead. -/
def lastK (ks : List Tr) : Nat → Int
  | 0 => 0
  | j + 1 => ((ks[j]?).map fun t => t.pl.k).getD 0
theorem pairs_step {ps : List (List UInt8 × List UInt8)} {i : Nat} {p : List UInt8 × List UInt8} (hp : ps[i]? = some p) (h : pairsR (ps.take i) = true) (h1 : nameX p.1 = true) (h2 : validX p.2 = true)
    (hd : ∀ q, q < i → ∀ x, ps[q]? = some x → x.1 ≠ p.1) : pairsR (ps.take (i + 1)) = true := by
  unfold pairsR at *
  simp only [Bool.and_eq_true, decide_eq_true_eq] at h ⊢
  rw [List.take_add_one, hp]
  refine ⟨?_, ?_⟩
  · rw [List.all_append, h.1]; simp [h1, h2]
  · rw [List.map_append, List.nodup_append]
    refine ⟨h.2, by simp, ?_⟩
    intro a ha b hb hab
    subst hab
    simp only [Option.toList_some, List.map_cons, List.map_nil, List.mem_singleton] at hb
    obtain ⟨x, hx, hxa⟩ := List.mem_map.1 ha
    obtain ⟨q, hq, hqx⟩ := List.getElem_of_mem hx
    rw [List.length_take] at hq
    refine hd q (by omega) x ?_ (hxa.trans hb)
    rw [← hqx, List.getElem_take]
    exact List.getElem?_eq_getElem (by omega)
theorem pairs_bad {ps : List (List UInt8 × List UInt8)} {i : Nat} {p : List UInt8 × List UInt8} (hp : ps[i]? = some p) (h : nameX p.1 = false ∨ validX p.2 = false) : pairsR ps = false := by
  unfold pairsR
  rw [Bool.and_eq_false_iff]
  left
  rw [List.all_eq_false]
  exact ⟨p, List.mem_of_getElem? hp, by rcases h with h | h <;> simp [h]⟩
theorem pairs_twice {ps : List (List UInt8 × List UInt8)} {i j : Nat} {p q : List UInt8 × List UInt8} (hp : ps[i]? = some p) (hq : ps[j]? = some q) (hj : j < i) (h : q.1 = p.1) : pairsR ps = false := by
  unfold pairsR
  rw [Bool.and_eq_false_iff]
  right
  rw [decide_eq_false_iff_not]
  intro hn
  have hi := (List.getElem?_eq_some_iff.1 hp)
  have hjj := (List.getElem?_eq_some_iff.1 hq)
  obtain ⟨hi1, hi2⟩ := hi
  obtain ⟨hj1, hj2⟩ := hjj
  have := (List.pairwise_iff_getElem.1 hn) j i (by simpa using hj1) (by simpa using hi1) hj
  apply this
  simp [hi2, hj2, h]
end Go.Proofs.YtpdaldpaceolnaaGreatDoor
namespace Go.Proofs.YtpdaldpaceolnaaGreatDoor
open Go.RowKit Go.Lib Go.WideMaps Go.Maps
set_option maxRecDepth 100000
set_option maxHeartbeats 8000000
/-- What a call answers in every world that holds the two tables. -/
def GTb (f : Nat) (args : Array Value) (v : Value) : Prop := ∀ w : World, tabs w → Calls Tryz.prog f args w fun e w' => e = .returned v ∧ Below w.heap.size w w'
theorem GTb.call {f : Nat} {args : Array Value} {v : Value} (h : GTb f args v) {w w0 : World} (ht : tabs w0) (hb : Below w0.heap.size w0 w) : Calls Tryz.prog f args w fun e w' => e = .returned v ∧ Below w.heap.size w w' := h w (Utf8Tabs_below ht hb)
theorem nameP_g (l : List UInt8) (hl : l.length ≤ maxLen) (b : Bool) (hb : nameX l = b) : Hid (GTb 40 #[.string (ba' l)] (.bool b)) := Lib.hid fun w hT => by
  have := name_any (ba' l) w (by rw [size_ba]; exact hl) hT
  rw [← hb]
  exact this
theorem validP_any (l : List UInt8) (hl : l.length ≤ maxLen) (b : Bool) (hb : validX l = b) (g cap : Nat) (w : World) (hT : tabs w) (h0 : w.cell? ⟨g, 0, none⟩ = some (.string (ba' l))) (hg : g < w.heap.size) :
    Calls Tryz.prog 15 #[.slice (some ⟨g, 0, none⟩) 1 cap] w fun e w' => e = .returned (.bool b) ∧ Below w.heap.size w w' := by
  have := valid_any (some ⟨g, 0, none⟩) 1 cap [ba' l] w rfl (by decide) hT (by
    intro k hk
    have : k = 0 := by simp at hk; exact hk
    subst this
    refine ⟨g, rfl, hg, h0, ?_⟩
    show (ba' l).size ≤ maxLen
    rw [size_ba]; exact hl)
  have e : [ba' l].all vS = b := by simp only [List.all_cons, List.all_nil, Bool.and_true]; exact hb
  rw [e] at this
  exact this
theorem lawKN : Keyed Tryz.prog 9 := string_keyed Tryz.underlying9
theorem zeroV3N (w : World) : (zeroValue 3).run Tryz.prog w = .ok (.int .i64 0) w := by kernel_rfl
theorem map_carry {w w' : World} {R : Value → Option (DataW Unit × List MemPlace)} {b n : Nat} {D : DataW Unit} (h : w.ownsMap Tryz.prog 9 R b n D) (hb : Below w.heap.size w w') : w'.ownsMap Tryz.prog 9 R b n D :=
  h.kept (row := none) ⟨hb.os, hb.tape, hb.output, hb.size, fun k hk _ => hb.block k hk⟩ (by simp)
/-- A map that holds each of some names once. -/
def OnesN (D : DataW Unit) (L : List (List UInt8)) : Prop := IsMap D ∧ (∀ s ∈ L, D.atKey (.string s) (.lit (.int .i64 0)) = .lit (.int .i64 1)) ∧ ∀ s, s ∉ L → D.atKey (.string s) (.lit (.int .i64 0)) = .lit (.int .i64 0)
theorem ones_nilN : OnesN (.map []) [] := ⟨isMap_empty, fun s h => absurd h (by simp), fun s _ => WideAt.atKey_none _ (by simp)⟩
theorem key_litN (s : List UInt8) : WideAt.IsKeyLit (.string s) := by first | exact trivial | (unfold WideAt.IsKeyLit; simp) | exact .string s
theorem ones_putN {D : DataW Unit} {L : List (List UInt8)} (h : OnesN D L) (s : List UInt8) (hs : s ∉ L) : OnesN (D.put (.string s) (.lit (.int .i64 1))) (L ++ [s]) := by
  refine ⟨h.1.put _ _, fun x hx => ?_, fun x hx => ?_⟩
  · rcases List.mem_append.1 hx with hx | hx
    · have hne : x ≠ s := fun e => hs (e ▸ hx)
      rw [atKey_put_other (by intro e; cases e; exact hne rfl)]
      exact h.2.1 x hx
    · obtain rfl : x = s := by simpa using hx
      exact atKey_put_same h.1 (key_litN _) _ _
  · have h1 : x ∉ L := fun e => hx (List.mem_append_left _ e)
    have hne : x ≠ s := fun e => hx (by rw [e]; simp)
    rw [atKey_put_other (by intro e; cases e; exact hne rfl)]
    exact h.2.2 x h1
theorem run_makeMap_hint (n : Int) (w : World) : (Instr.makeMap 94 (some (.int .i64 n))).run Tryz.prog w = .ok (.map (some w.heap.size)) (w.alloc (.map #[] 0)) := by
  simp [Instr.makeMap, run_underlying Tryz.underlying94, asInt, newObj]
  rfl
theorem lit_injN {a b : Int} (h : (DataW.lit (.int .i64 a) : DataW Unit) = .lit (.int .i64 b)) : b = a := by cases h; rfl
theorem pairs_any (ps : List (List UInt8 × List UInt8)) (A : Option Addr) (np ac : Nat) (P : Nat → Prop) (w : World) (hT : tabs w) (hA : RdP P w 2 A np (rowP ps)) (hP : ∀ b, P b → b < w.heap.size) (hnp : ps.length = np) (hbd : np ≤ 1048576) (hpl : ∀ p ∈ ps, p.1.length ≤ maxLen ∧ p.2.length ≤ maxLen) :
    Calls Tryz.prog 41 #[.slice A np ac] w fun e w' => e = .returned (.bool (pairsR ps)) ∧ Below w.heap.size w w' := by
  obtain ⟨res, hres⟩ : ∃ res, pairsR ps = res := ⟨_, rfl⟩
  rw [hres]
  have HS := Lib.hid hres; have HT := Lib.hid hT; have HA := Lib.hid hA; have HP := Lib.hid hP; have HNP := Lib.hid hnp; have HPL := Lib.hid hpl
  clear hres hT hA hP hnp hpl
  have hmm := run_makeMap_hint
  go_enter Tryz.func41, Tryz.ntmps41
  go_wp2
  go_loopw [11] (fun s11 wx => ∃ (i : Nat) (D : DataW Unit), s11 = .int .i64 i ∧ i ≤ np ∧ Hid (OnesN D ((ps.take i).map Prod.fst)) ∧ Hid (pairsR (ps.take i) = true) ∧ Hid (wx.ownsMap Tryz.prog 9 (plainElem Tryz.prog 3) w.heap.size i D) ∧ w.heap.size < wx.heap.size ∧ Below w.heap.size w wx) (fun s11 _ => np - (intOf s11).toNat)
  case atStart => exact ⟨0, _, rfl, Nat.zero_le _, Lib.hid ones_nilN, Lib.hid rfl, Lib.hid (World.ownsMap_made _ _ _ _), by simp, by repeat (with_reducible (first | exact Below.refl _ _ | assumption | apply ba | apply bd | apply bdr | (refine bs ?_ (by first | assumption | (simp; done) | (simp; omega))) | (refine bt ?_ (by assumption))))⟩
  case round =>
    obtain ⟨i, D, rfl, hi, hD, hall, hown, hsz, hBW⟩ := hrel
    by_cases hlt : i < np
    · have g0 : decide ((i : Int) < (np : Int)) = true := by first | (simp; done) | (simp; omega)
      have hil : i < ps.length := by rw [HNP.out]; exact hlt
      obtain ⟨p, hp⟩ : ∃ p, ps[i]? = some p := ⟨_, List.getElem?_eq_getElem hil⟩
      have HPI := Lib.hid hp
      have hq := HPL.out p (List.mem_of_getElem? hp)
      obtain ⟨p1, p2⟩ := p
      have hq1 : p1.length ≤ maxLen := hq.1
      obtain ⟨ad, rfl, hPad, d0, d1⟩ := pair_at (HA.out.below HP.out hBW) hp hlt
      have hb0 : (ad.add (i * 2)).block < wr.heap.size := by rw [block_of_add]; exact Nat.lt_of_lt_of_le (HP.out _ hPad) hBW.size
      have HKEY : Hid (keyOf Tryz.prog 9 (.string (ba' p1)) = some (.string p1)) := Lib.hid (keyOf_string_mk Tryz.underlying9 (by rw [size_ba]; exact hq1))
      obtain ⟨r1, h1⟩ : ∃ r, nameX p1 = r := ⟨_, rfl⟩
      obtain ⟨r2, h2⟩ : ∃ r, validX p2 = r := ⟨_, rfl⟩
      have HN1 := nameP_g p1 hq.1 r1 h1
      have HV1 := Lib.hid (validP_any p2 hq.2 r2 h2)
      have H1 := Lib.hid h1
      have H2 := Lib.hid h2
      have HTK : Hid (((ps.take (i + 1)).map Prod.fst) = ((ps.take i).map Prod.fst) ++ [p1]) := Lib.hid (by rw [List.take_add_one, hp]; simp)
      clear hp hq h1 h2 hil
      by_cases hin : p1 ∈ (ps.take i).map Prod.fst
      · have hr : res = false := by
          obtain ⟨x, hx, hxe⟩ := List.mem_map.1 hin
          obtain ⟨q, hq, hqx⟩ := List.getElem_of_mem hx
          rw [List.length_take] at hq
          rw [← HS.out]
          refine pairs_twice HPI.out (q := x) (j := q) ?_ (by omega) hxe
          rw [← hqx, List.getElem_take]
          exact List.getElem?_eq_getElem (by omega)
        subst hr
        have HIN := Lib.hid hin
        clear hin
        go_wp2_with (first
          | (at_lookup; (refine wpList_lookup_own_int _ rfl (.tmp 15) (.tmp 17) 94 rfl 9 3 .i64 lawKN Tryz.underlying94 Tryz.underlying3 (zeroV3N _) w.heap.size _ _ rfl (map_carry hown.out (by first | exact ((ba (Below.refl _ _)).setCell (by simp) _).setCell (by simp) _ | (repeat (with_reducible (first | exact Below.refl _ _ | assumption | apply ba | apply bd | apply bdr | (refine bs ?_ (by first | assumption | (simp; done) | (simp; omega))) | (refine bt ?_ (by assumption)))))) ) _ (.string p1) rfl HKEY.out ?_); intro c hat hwc; obtain rfl := lit_injN (hat.symm.trans (hD.out.2.1 p1 HIN.out)); clear hat hwc)
          | (at_lookup; go_must (refine wpList_lookup_own_int _ rfl (.tmp 20) (.tmp 22) 94 rfl 9 3 .i64 lawKN Tryz.underlying94 Tryz.underlying3 (zeroV3N _) w.heap.size _ _ rfl hown1 _ (.string p1) rfl HKEY.out ?_); intro c hat hwc; obtain rfl := lit_injN (hat.symm.trans (atKey_put_same hD.out.1 (key_litN _) _ _)); clear hat hwc)
          | (at_mapUpdate; go_must (refine wpList_mapUpdate_own _ rfl (.tmp 15) (.tmp 17) (.tmp 19) 94 rfl 9 3 lawKN Tryz.underlying94 _ w.heap.size i _ rfl (map_carry hown.out (by first | exact ((ba (Below.refl _ _)).setCell (by simp) _).setCell (by simp) _ | (repeat (with_reducible (first | exact Below.refl _ _ | assumption | apply ba | apply bd | apply bdr | (refine bs ?_ (by first | assumption | (simp; done) | (simp; omega))) | (refine bt ?_ (by assumption))))))) (by unfold maxLen; omega) _ _ (.string p1) rfl rfl HKEY.out _ [] (plainElem_int Tryz.underlying3 (by first | decide | rfl)) ?_); intro w1 hown1 hgrow1; have hk1 := fun o => World.cell?_of_block (a := ⟨wr.heap.size, o, none⟩) (hgrow1.block wr.heap.size (by simp) (by simp; omega)); have B1 : Below w.heap.size w w1 := Below.grown (by repeat (with_reducible (first | exact Below.refl _ _ | assumption | apply ba | apply bd | apply bdr | (refine bs ?_ (by first | assumption | (simp; done) | (simp; omega))) | (refine bt ?_ (by assumption))))) hgrow1 (by simp; omega) (fun j hj => by cases hj; exact Nat.le_refl _)))
        go_ret
        exact ⟨rfl, by repeat (with_reducible (first | exact Below.refl _ _ | assumption | apply ba | apply bd | apply bdr | (refine bs ?_ (by first | assumption | (simp; done) | (simp; omega))) | (refine bt ?_ (by assumption))))⟩
      · have HIN := Lib.hid hin
        clear hin
        cases r1 with
        | false =>
          have hr : res = false := by rw [← HS.out]; exact pairs_bad HPI.out (.inl H1.out)
          subst hr
          go_wp2_with (first
            | (at_lookup; (refine wpList_lookup_own_int _ rfl (.tmp 15) (.tmp 17) 94 rfl 9 3 .i64 lawKN Tryz.underlying94 Tryz.underlying3 (zeroV3N _) w.heap.size _ _ rfl (map_carry hown.out (by first | exact ((ba (Below.refl _ _)).setCell (by simp) _).setCell (by simp) _ | (repeat (with_reducible (first | exact Below.refl _ _ | assumption | apply ba | apply bd | apply bdr | (refine bs ?_ (by first | assumption | (simp; done) | (simp; omega))) | (refine bt ?_ (by assumption)))))) ) _ (.string p1) rfl HKEY.out ?_); intro c hat hwc; obtain rfl := lit_injN (hat.symm.trans (hD.out.2.2 p1 HIN.out)); clear hat hwc)
            | (at_lookup; (refine wpList_lookup_own_int _ rfl (.tmp 20) (.tmp 22) 94 rfl 9 3 .i64 lawKN Tryz.underlying94 Tryz.underlying3 (zeroV3N _) w.heap.size _ _ rfl hown1 _ (.string p1) rfl HKEY.out ?_); intro c hat hwc; obtain rfl := lit_injN (hat.symm.trans (atKey_put_same hD.out.1 (key_litN _) _ _)); clear hat hwc)
            | (at_mapUpdate; go_must (refine wpList_mapUpdate_own _ rfl (.tmp 15) (.tmp 17) (.tmp 19) 94 rfl 9 3 lawKN Tryz.underlying94 _ w.heap.size i _ rfl (map_carry hown.out (by first | exact ((ba (Below.refl _ _)).setCell (by simp) _).setCell (by simp) _ | (repeat (with_reducible (first | exact Below.refl _ _ | assumption | apply ba | apply bd | apply bdr | (refine bs ?_ (by first | assumption | (simp; done) | (simp; omega))) | (refine bt ?_ (by assumption))))))) (by unfold maxLen; omega) _ _ (.string p1) rfl rfl HKEY.out _ [] (plainElem_int Tryz.underlying3 (by first | decide | rfl)) ?_); intro w1 hown1 hgrow1; have hk1 := fun o => World.cell?_of_block (a := ⟨wr.heap.size, o, none⟩) (hgrow1.block wr.heap.size (by simp) (by simp; omega)); have B1 : Below w.heap.size w w1 := Below.grown (by repeat (with_reducible (first | exact Below.refl _ _ | assumption | apply ba | apply bd | apply bdr | (refine bs ?_ (by first | assumption | (simp; done) | (simp; omega))) | (refine bt ?_ (by assumption))))) hgrow1 (by simp; omega) (fun j hj => by cases hj; exact Nat.le_refl _); have y1 := B1.size; have zz1 : wr.heap.size < w1.heap.size := by have := hgrow1.size; simp at this; omega)
            | (go_at_call 40; go_must (refine (HN1.out.call HT.out (by repeat (with_reducible (first | exact Below.refl _ _ | assumption | apply ba | apply bd | apply bdr | (refine bs ?_ (by first | assumption | (simp; done) | (simp; omega))) | (refine bt ?_ (by assumption)))))).mono ?_); rintro e w2 ⟨rfl, hb2⟩; have hc2 := fun o => (bcell hb2).1 wr.heap.size o zz1; have zz2 := zz hb2 zz1; have y2 := hb2.size; have B2 : Below w.heap.size w w2 := bt B1 hb2))
          go_ret
          exact ⟨rfl, by repeat (with_reducible (first | exact Below.refl _ _ | assumption | apply ba | apply bd | apply bdr | (refine bs ?_ (by first | assumption | (simp; done) | (simp; omega))) | (refine bt ?_ (by assumption))))⟩
        | true =>
          cases r2 with
          | false =>
            have hr : res = false := by rw [← HS.out]; exact pairs_bad HPI.out (.inr H2.out)
            subst hr
            go_wp2_with (first
              | (at_lookup; (refine wpList_lookup_own_int _ rfl (.tmp 15) (.tmp 17) 94 rfl 9 3 .i64 lawKN Tryz.underlying94 Tryz.underlying3 (zeroV3N _) w.heap.size _ _ rfl (map_carry hown.out (by first | exact ((ba (Below.refl _ _)).setCell (by simp) _).setCell (by simp) _ | (repeat (with_reducible (first | exact Below.refl _ _ | assumption | apply ba | apply bd | apply bdr | (refine bs ?_ (by first | assumption | (simp; done) | (simp; omega))) | (refine bt ?_ (by assumption)))))) ) _ (.string p1) rfl HKEY.out ?_); intro c hat hwc; obtain rfl := lit_injN (hat.symm.trans (hD.out.2.2 p1 HIN.out)); clear hat hwc)
              | (at_lookup; (refine wpList_lookup_own_int _ rfl (.tmp 20) (.tmp 22) 94 rfl 9 3 .i64 lawKN Tryz.underlying94 Tryz.underlying3 (zeroV3N _) w.heap.size _ _ rfl hown1 _ (.string p1) rfl HKEY.out ?_); intro c hat hwc; obtain rfl := lit_injN (hat.symm.trans (atKey_put_same hD.out.1 (key_litN _) _ _)); clear hat hwc)
              | (at_mapUpdate; go_must (refine wpList_mapUpdate_own _ rfl (.tmp 15) (.tmp 17) (.tmp 19) 94 rfl 9 3 lawKN Tryz.underlying94 _ w.heap.size i _ rfl (map_carry hown.out (by first | exact ((ba (Below.refl _ _)).setCell (by simp) _).setCell (by simp) _ | (repeat (with_reducible (first | exact Below.refl _ _ | assumption | apply ba | apply bd | apply bdr | (refine bs ?_ (by first | assumption | (simp; done) | (simp; omega))) | (refine bt ?_ (by assumption))))))) (by unfold maxLen; omega) _ _ (.string p1) rfl rfl HKEY.out _ [] (plainElem_int Tryz.underlying3 (by first | decide | rfl)) ?_); intro w1 hown1 hgrow1; have hk1 := fun o => World.cell?_of_block (a := ⟨wr.heap.size, o, none⟩) (hgrow1.block wr.heap.size (by simp) (by simp; omega)); have B1 : Below w.heap.size w w1 := Below.grown (by repeat (with_reducible (first | exact Below.refl _ _ | assumption | apply ba | apply bd | apply bdr | (refine bs ?_ (by first | assumption | (simp; done) | (simp; omega))) | (refine bt ?_ (by assumption))))) hgrow1 (by simp; omega) (fun j hj => by cases hj; exact Nat.le_refl _); have y1 := B1.size; have zz1 : wr.heap.size < w1.heap.size := by have := hgrow1.size; simp at this; omega)
              | (go_at_call 40; go_must (refine (HN1.out.call HT.out (by repeat (with_reducible (first | exact Below.refl _ _ | assumption | apply ba | apply bd | apply bdr | (refine bs ?_ (by first | assumption | (simp; done) | (simp; omega))) | (refine bt ?_ (by assumption)))))).mono ?_); rintro e w2 ⟨rfl, hb2⟩; have hc2 := fun o => (bcell hb2).1 wr.heap.size o zz1; have zz2 := zz hb2 zz1; have y2 := hb2.size; have B2 : Below w.heap.size w w2 := bt B1 hb2)
              | (go_at_call 15; go_must (refine (HV1.out _ _ _ (Utf8Tabs_below HT.out (by repeat (with_reducible (first | exact Below.refl _ _ | assumption | apply ba | apply bd | apply bdr | (refine bs ?_ (by first | assumption | (simp; done) | (simp; omega))) | (refine bt ?_ (by assumption)))))) (by first | (simp; done) | (simp [*]; done)) (by simp)).mono ?_); rintro e w3 ⟨rfl, hb3⟩; have y3 : w2.heap.size + 1 ≤ w3.heap.size := by have := hb3.size; simpa using this))
            go_ret
            exact ⟨rfl, by repeat (with_reducible (first | exact Below.refl _ _ | assumption | apply ba | apply bd | apply bdr | (refine bs ?_ (by first | assumption | (simp; done) | (simp; omega))) | (refine bt ?_ (by assumption))))⟩
          | true =>
            have hst := pairs_step HPI.out hall.out H1.out H2.out (fun q hq x hx e => HIN.out (List.mem_map.2 ⟨x, List.mem_of_getElem? (l := ps.take i) (i := q) (by rw [List.getElem?_take, if_pos hq]; exact hx), e⟩))
            have HST := Lib.hid hst
            have HD2 : Hid (OnesN (D.put (.string p1) (.lit (.int .i64 1))) ((ps.take (i + 1)).map Prod.fst)) := Lib.hid (by rw [HTK.out]; exact ones_putN hD.out p1 HIN.out)
            clear hst
            go_wp2_with (first
              | (at_lookup; (refine wpList_lookup_own_int _ rfl (.tmp 15) (.tmp 17) 94 rfl 9 3 .i64 lawKN Tryz.underlying94 Tryz.underlying3 (zeroV3N _) w.heap.size _ _ rfl (map_carry hown.out (by first | exact ((ba (Below.refl _ _)).setCell (by simp) _).setCell (by simp) _ | (repeat (with_reducible (first | exact Below.refl _ _ | assumption | apply ba | apply bd | apply bdr | (refine bs ?_ (by first | assumption | (simp; done) | (simp; omega))) | (refine bt ?_ (by assumption)))))) ) _ (.string p1) rfl HKEY.out ?_); intro c hat hwc; obtain rfl := lit_injN (hat.symm.trans (hD.out.2.2 p1 HIN.out)); clear hat hwc)
              | (at_lookup; (refine wpList_lookup_own_int _ rfl (.tmp 20) (.tmp 22) 94 rfl 9 3 .i64 lawKN Tryz.underlying94 Tryz.underlying3 (zeroV3N _) w.heap.size _ _ rfl hown1 _ (.string p1) rfl HKEY.out ?_); intro c hat hwc; obtain rfl := lit_injN (hat.symm.trans (atKey_put_same hD.out.1 (key_litN _) _ _)); clear hat hwc)
              | (at_mapUpdate; go_must (refine wpList_mapUpdate_own _ rfl (.tmp 15) (.tmp 17) (.tmp 19) 94 rfl 9 3 lawKN Tryz.underlying94 _ w.heap.size i _ rfl (map_carry hown.out (by first | exact ((ba (Below.refl _ _)).setCell (by simp) _).setCell (by simp) _ | (repeat (with_reducible (first | exact Below.refl _ _ | assumption | apply ba | apply bd | apply bdr | (refine bs ?_ (by first | assumption | (simp; done) | (simp; omega))) | (refine bt ?_ (by assumption))))))) (by unfold maxLen; omega) _ _ (.string p1) rfl rfl HKEY.out _ [] (plainElem_int Tryz.underlying3 (by first | decide | rfl)) ?_); intro w1 hown1 hgrow1; have hk1 := fun o => World.cell?_of_block (a := ⟨wr.heap.size, o, none⟩) (hgrow1.block wr.heap.size (by simp) (by simp; omega)); have B1 : Below w.heap.size w w1 := Below.grown (by repeat (with_reducible (first | exact Below.refl _ _ | assumption | apply ba | apply bd | apply bdr | (refine bs ?_ (by first | assumption | (simp; done) | (simp; omega))) | (refine bt ?_ (by assumption))))) hgrow1 (by simp; omega) (fun j hj => by cases hj; exact Nat.le_refl _); have y1 := B1.size; have zz1 : wr.heap.size < w1.heap.size := by have := hgrow1.size; simp at this; omega)
              | (go_at_call 40; go_must (refine (HN1.out.call HT.out (by repeat (with_reducible (first | exact Below.refl _ _ | assumption | apply ba | apply bd | apply bdr | (refine bs ?_ (by first | assumption | (simp; done) | (simp; omega))) | (refine bt ?_ (by assumption)))))).mono ?_); rintro e w2 ⟨rfl, hb2⟩; have hc2 := fun o => (bcell hb2).1 wr.heap.size o zz1; have zz2 := zz hb2 zz1; have y2 := hb2.size; have B2 : Below w.heap.size w w2 := bt B1 hb2)
              | (go_at_call 15; go_must (refine (HV1.out _ _ _ (Utf8Tabs_below HT.out (by repeat (with_reducible (first | exact Below.refl _ _ | assumption | apply ba | apply bd | apply bdr | (refine bs ?_ (by first | assumption | (simp; done) | (simp; omega))) | (refine bt ?_ (by assumption)))))) (by first | (simp; done) | (simp [*]; done)) (by simp)).mono ?_); rintro e w3 ⟨rfl, hb3⟩; have y3 : w2.heap.size + 1 ≤ w3.heap.size := by have := hb3.size; simpa using this))
            go_roundw
            case rel => exact ⟨i + 1, _, by go_num, by omega, HD2, HST, Lib.hid (map_carry (map_carry (map_carry hown1 hb2) (ba (Below.refl _ _))) hb3), by omega, by repeat (with_reducible (first | exact Below.refl _ _ | assumption | apply ba | apply bd | apply bdr | (refine bs ?_ (by first | assumption | (simp; done) | (simp; omega))) | (refine bt ?_ (by assumption))))⟩
            case measure => simp [intOf]; omega
    · obtain rfl : i = np := by omega
      have g0 : decide (((i : Nat) : Int) < ((i : Nat) : Int)) = false := by simp
      have hr : res = true := by
        rw [← HS.out]
        have := hall.out
        rwa [List.take_of_length_le (by rw [HNP.out]; exact Nat.le_refl _)] at this
      subst hr
      go_wp2
      go_ret
      exact ⟨rfl, by repeat (with_reducible (first | exact Below.refl _ _ | assumption | apply ba | apply bd | apply bdr | (refine bs ?_ (by first | assumption | (simp; done) | (simp; omega))) | (refine bt ?_ (by assumption))))⟩
end Go.Proofs.YtpdaldpaceolnaaGreatDoor
namespace Go.Proofs.YtpdaldpaceolnaaGreatDoor
open Go.RowKit Go.Lib
set_option maxRecDepth 100000
set_option maxHeartbeats 8000000
/-- The contract of package node's right at one tree. -/
def NdR (t : Tr) : Prop := ∀ (P : Nat → Prop) (w : World) (d : Nat), tabs w → t.In P w → (∀ b, P b → b < w.heap.size) → t.pl.fit → d ≤ 65 →
  Calls Tryz.prog 22 #[t.v, .int .i64 (d : Int)] w fun e w' => e = .returned (.bool (t.pl.right d)) ∧ Below w.heap.size w w'
theorem right_kind (t : PT) (d : Nat) (h : t.k ≠ 1 ∧ t.k ≠ 2 ∧ t.k ≠ 3 ∧ t.k ≠ 4 ∧ t.k ≠ 5) : t.right d = false := by
  obtain ⟨k, n, v, ps, ks⟩ := t
  obtain ⟨h1, h2, h3, h4, h5⟩ := h
  have h1' : k ≠ 1 := h1
  have h2' : k ≠ 2 := h2
  have h3' : k ≠ 3 := h3
  have h4' : k ≠ 4 := h4
  have h5' : k ≠ 5 := h5
  rw [PT.right]
  simp [headR, h1', h2', h3', h4', h5']
theorem leaf_yes (k : Int) (n v : List UInt8) (A K : Option Addr) (ac kc : Nat) (w : World)  : Calls Tryz.prog 42 #[.agg #[.int .i64 k, .string (ba' n), .string (ba' v), .slice A 0 ac, .slice K 0 kc]] w fun e w' => e = .returned (.bool true) ∧ Below w.heap.size w w' := by
  go_enter Tryz.func42, Tryz.ntmps42
  go_wp2
  go_ret
  exact ⟨rfl, by repeat (with_reducible (first | exact Below.refl _ _ | assumption | apply ba | apply bd | apply bdr | (refine bs ?_ (by first | assumption | (simp; done) | (simp; omega))) | (refine bt ?_ (by assumption))))⟩
theorem leaf_p (k : Int) (n v : List UInt8) (A K : Option Addr) (np nk ac kc : Nat) (w : World) (h : 0 < np) : Calls Tryz.prog 42 #[.agg #[.int .i64 k, .string (ba' n), .string (ba' v), .slice A np ac, .slice K nk kc]] w fun e w' => e = .returned (.bool false) ∧ Below w.heap.size w w' := by
  have g1 : ((np : Int) == 0) = false := by simp; omega
  have g2 : (np == 0) = false := by simp; omega
  have g3 : ¬ np = 0 := by omega
  go_enter Tryz.func42, Tryz.ntmps42
  go_wp2
  go_ret
  exact ⟨rfl, by repeat (with_reducible (first | exact Below.refl _ _ | assumption | apply ba | apply bd | apply bdr | (refine bs ?_ (by first | assumption | (simp; done) | (simp; omega))) | (refine bt ?_ (by assumption))))⟩
theorem leaf_k (k : Int) (n v : List UInt8) (A K : Option Addr) (nk ac kc : Nat) (w : World) (h : 0 < nk) : Calls Tryz.prog 42 #[.agg #[.int .i64 k, .string (ba' n), .string (ba' v), .slice A 0 ac, .slice K nk kc]] w fun e w' => e = .returned (.bool false) ∧ Below w.heap.size w w' := by
  have g1 : ((nk : Int) == 0) = false := by simp; omega
  have g2 : (nk == 0) = false := by simp; omega
  have g3 : ¬ nk = 0 := by omega
  go_enter Tryz.func42, Tryz.ntmps42
  go_wp2
  go_ret
  exact ⟨rfl, by repeat (with_reducible (first | exact Below.refl _ _ | assumption | apply ba | apply bd | apply bdr | (refine bs ?_ (by first | assumption | (simp; done) | (simp; omega))) | (refine bt ?_ (by assumption))))⟩
theorem kids_any (ks : List Tr) (K : Option Addr) (nk kc d : Nat) (P : Nat → Prop) (w : World) (hT : tabs w) (HNK : Hid (ks.length = nk)) (HK : Hid (RdP P w 5 K nk (rowT ks))) (HL : Hid (InL P w ks)) (HP : Hid (∀ b, P b → b < w.heap.size)) (IH : Hid (∀ t ∈ ks, NdR t)) (HB : Hid (∀ t ∈ ks, t.pl.fit)) (hnk : nk ≤ 1048576) (hd : d ≤ 65) :
    Calls Tryz.prog 39 #[.slice K nk kc, .int .i64 (d : Int)] w fun e w' => e = .returned (.bool (rightL (plL ks) d 0)) ∧ Below w.heap.size w w' := by
  obtain ⟨res, hres⟩ : ∃ res, rightL (plL ks) d 0 = res := ⟨_, rfl⟩
  rw [hres]
  have HS := Lib.hid hres; have HT := Lib.hid hT
  clear hres hT
  go_enter Tryz.func39, Tryz.ntmps39
  go_wp2
  go_loopw [5, 10] (fun s5 s10 wx => ∃ (q : Nat) (l : Int), s10 = .int .i64 q ∧ s5 = .int .i64 l ∧ q ≤ nk ∧ Hid (l = lastK ks q) ∧ Hid (rightL ((plL ks).drop q) d (lastK ks q) = res) ∧ Below w.heap.size w wx) (fun _ s10 _ => nk - (intOf s10).toNat)
  case atStart => exact ⟨0, 0, rfl, rfl, Nat.zero_le _, Lib.hid rfl, Lib.hid (by rw [← HS.out]; rfl), by repeat (with_reducible (first | exact Below.refl _ _ | assumption | apply ba | apply bd | apply bdr | (refine bs ?_ (by first | assumption | (simp; done) | (simp; omega))) | (refine bt ?_ (by assumption))))⟩
  case round =>
    obtain ⟨q, l, rfl, rfl, hq, hl, hrel, hBW⟩ := hrel
    by_cases hql : q < nk
    · have g1 : decide ((q : Int) < (nk : Int)) = true := by first | (simp; done) | (simp; omega)
      have hqk : q < ks.length := by rw [HNK.out]; exact hql
      obtain ⟨t, ht⟩ : ∃ t, ks[q]? = some t := ⟨_, List.getElem?_eq_getElem hqk⟩
      have htm := List.mem_of_getElem? ht
      have hst : rightL ((plL ks).drop q) d (lastK ks q) = (kidR t.pl.k (lastK ks q) && t.pl.right d && rightL ((plL ks).drop (q + 1)) d (lastK ks (q + 1))) := by
        rw [drop_at (plL_at ht), rightL]
        congr 1
        show _ = rightL _ _ (((ks[q]?).map fun t => t.pl.k).getD 0)
        rw [ht]; rfl
      have HLN : Hid (t.pl.k = lastK ks (q + 1)) := Lib.hid (by show _ = ((ks[q]?).map fun t => t.pl.k).getD 0; rw [ht]; rfl)
      have hc := IH.out t htm P
      have hin' := (inL_iff.1 HL.out t htm).below HP.out hBW
      have hbk := HB.out t htm
      have hrk := right_kind t.pl d
      obtain ⟨k', n', v', A', ac', ps', K', kc', ks'⟩ := t
      have hka := HK.out.below HP.out hBW
      obtain ⟨ad2, rfl, hPad2, d0, d1, d2, d3, d4⟩ := kid_at hka ht hql
      have hb0 : (ad2.add (q * 5)).block < wr.heap.size := by rw [block_of_add]; exact Nat.lt_of_lt_of_le (HP.out _ hPad2) hBW.size
      have HST := Lib.hid (hst.symm.trans hrel.out)
      have hkk : (Tr.mk k' n' v' A' ac' ps' K' kc' ks').pl.k = k' := rfl
      rw [hkk] at hst HST HLN hrk
      rw [← hl.out] at HST
      have HC := Lib.hid (fun (w1 : World) (hb1 : Below wr.heap.size wr w1) => hc w1 d (Utf8Tabs_below (Utf8Tabs_below HT.out hBW) hb1) (hin'.below (fun b hb => Nat.lt_of_lt_of_le (HP.out b hb) hBW.size) hb1) (fun b hb => Nat.lt_of_lt_of_le (Nat.lt_of_lt_of_le (HP.out b hb) hBW.size) hb1.size) hbk hd)
      obtain ⟨r, hr⟩ : ∃ r, (Tr.mk k' n' v' A' ac' ps' K' kc' ks').pl.right d = r := ⟨_, rfl⟩
      rw [hr] at HC HST hrk
      have HRK := Lib.hid hrk
      obtain ⟨np', hnp'⟩ : ∃ q, ps'.length = q := ⟨_, rfl⟩
      obtain ⟨nk', hnk'⟩ : ∃ q, ks'.length = q := ⟨_, rfl⟩
      simp only [Tr.v] at HC
      rw [hnp', hnk'] at HC
      rw [hnp'] at d3
      rw [hnk'] at d4
      clear hst hc hin' hka ht htm hqk hr hkk hnp' hnk' hbk hrel hrk hl
      by_cases k1 : k' = 1
      · subst k1
        have hr : res = false := by rw [← HST.out]; simp [kidR]
        subst hr
        go_wp2
        go_ret
        exact ⟨rfl, by repeat (with_reducible (first | exact Below.refl _ _ | assumption | apply ba | apply bd | apply bdr | (refine bs ?_ (by first | assumption | (simp; done) | (simp; omega))) | (refine bt ?_ (by assumption))))⟩
      by_cases k3 : k' = 3
      · subst k3
        have hr : res = false := by rw [← HST.out]; simp [kidR]
        subst hr
        go_wp2
        go_ret
        exact ⟨rfl, by repeat (with_reducible (first | exact Below.refl _ _ | assumption | apply ba | apply bd | apply bdr | (refine bs ?_ (by first | assumption | (simp; done) | (simp; omega))) | (refine bt ?_ (by assumption))))⟩
      by_cases k2 : k' = 2
      · subst k2
        cases r with
        | false =>
          have hr : res = false := by rw [← HST.out, Bool.and_false]; rfl
          subst hr
          go_wp2_with (go_at_call 22; go_must (refine (HC.out _ (by repeat (with_reducible (first | exact Below.refl _ _ | assumption | apply ba | apply bd | apply bdr | (refine bs ?_ (by first | assumption | (simp; done) | (simp; omega))) | (refine bt ?_ (by assumption)))))).mono ?_); rintro e w1 ⟨rfl, hb1⟩; have hc1 := fun o => (bcell hb1).1 wr.heap.size o (by simp); have B1 : Below w.heap.size w w1 := by repeat (with_reducible (first | exact Below.refl _ _ | assumption | apply ba | apply bd | apply bdr | (refine bs ?_ (by first | assumption | (simp; done) | (simp; omega))) | (refine bt ?_ (by assumption)))))
          go_ret
          exact ⟨rfl, by repeat (with_reducible (first | exact Below.refl _ _ | assumption | apply ba | apply bd | apply bdr | (refine bs ?_ (by first | assumption | (simp; done) | (simp; omega))) | (refine bt ?_ (by assumption))))⟩
        | true =>
          have HN2 : Hid (rightL ((plL ks).drop (q + 1)) d (lastK ks (q + 1)) = res) := Lib.hid (by rw [← HST.out]; simp [kidR])
          clear HST
          go_wp2_with (go_at_call 22; go_must (refine (HC.out _ (by repeat (with_reducible (first | exact Below.refl _ _ | assumption | apply ba | apply bd | apply bdr | (refine bs ?_ (by first | assumption | (simp; done) | (simp; omega))) | (refine bt ?_ (by assumption)))))).mono ?_); rintro e w1 ⟨rfl, hb1⟩; have hc1 := fun o => (bcell hb1).1 wr.heap.size o (by simp); have B1 : Below w.heap.size w w1 := by repeat (with_reducible (first | exact Below.refl _ _ | assumption | apply ba | apply bd | apply bdr | (refine bs ?_ (by first | assumption | (simp; done) | (simp; omega))) | (refine bt ?_ (by assumption)))))
          go_roundw
          case rel => exact ⟨q + 1, _, by go_num, rfl, by omega, HLN, HN2, by repeat (with_reducible (first | exact Below.refl _ _ | assumption | apply ba | apply bd | apply bdr | (refine bs ?_ (by first | assumption | (simp; done) | (simp; omega))) | (refine bt ?_ (by assumption))))⟩
          case measure => simp [intOf]; omega
      by_cases k5 : k' = 5
      · subst k5
        cases r with
        | false =>
          have hr : res = false := by rw [← HST.out, Bool.and_false]; rfl
          subst hr
          go_wp2_with (go_at_call 22; go_must (refine (HC.out _ (by repeat (with_reducible (first | exact Below.refl _ _ | assumption | apply ba | apply bd | apply bdr | (refine bs ?_ (by first | assumption | (simp; done) | (simp; omega))) | (refine bt ?_ (by assumption)))))).mono ?_); rintro e w1 ⟨rfl, hb1⟩; have hc1 := fun o => (bcell hb1).1 wr.heap.size o (by simp); have B1 : Below w.heap.size w w1 := by repeat (with_reducible (first | exact Below.refl _ _ | assumption | apply ba | apply bd | apply bdr | (refine bs ?_ (by first | assumption | (simp; done) | (simp; omega))) | (refine bt ?_ (by assumption)))))
          go_ret
          exact ⟨rfl, by repeat (with_reducible (first | exact Below.refl _ _ | assumption | apply ba | apply bd | apply bdr | (refine bs ?_ (by first | assumption | (simp; done) | (simp; omega))) | (refine bt ?_ (by assumption))))⟩
        | true =>
          have HN2 : Hid (rightL ((plL ks).drop (q + 1)) d (lastK ks (q + 1)) = res) := Lib.hid (by rw [← HST.out]; simp [kidR])
          clear HST
          go_wp2_with (go_at_call 22; go_must (refine (HC.out _ (by repeat (with_reducible (first | exact Below.refl _ _ | assumption | apply ba | apply bd | apply bdr | (refine bs ?_ (by first | assumption | (simp; done) | (simp; omega))) | (refine bt ?_ (by assumption)))))).mono ?_); rintro e w1 ⟨rfl, hb1⟩; have hc1 := fun o => (bcell hb1).1 wr.heap.size o (by simp); have B1 : Below w.heap.size w w1 := by repeat (with_reducible (first | exact Below.refl _ _ | assumption | apply ba | apply bd | apply bdr | (refine bs ?_ (by first | assumption | (simp; done) | (simp; omega))) | (refine bt ?_ (by assumption)))))
          go_roundw
          case rel => exact ⟨q + 1, _, by go_num, rfl, by omega, HLN, HN2, by repeat (with_reducible (first | exact Below.refl _ _ | assumption | apply ba | apply bd | apply bdr | (refine bs ?_ (by first | assumption | (simp; done) | (simp; omega))) | (refine bt ?_ (by assumption))))⟩
          case measure => simp [intOf]; omega
      by_cases k4 : k' = 4
      · subst k4
        by_cases l4 : l = 4
        · subst l4
          have hr : res = false := by rw [← HST.out]; simp [kidR]
          subst hr
          go_wp2
          go_ret
          exact ⟨rfl, by repeat (with_reducible (first | exact Below.refl _ _ | assumption | apply ba | apply bd | apply bdr | (refine bs ?_ (by first | assumption | (simp; done) | (simp; omega))) | (refine bt ?_ (by assumption))))⟩
        · have m4 : (l == 4) = false := by simpa using l4
          cases r with
          | false =>
            have hr : res = false := by rw [← HST.out, Bool.and_false]; rfl
            subst hr
            go_wp2_with (go_at_call 22; go_must (refine (HC.out _ (by repeat (with_reducible (first | exact Below.refl _ _ | assumption | apply ba | apply bd | apply bdr | (refine bs ?_ (by first | assumption | (simp; done) | (simp; omega))) | (refine bt ?_ (by assumption)))))).mono ?_); rintro e w1 ⟨rfl, hb1⟩; have hc1 := fun o => (bcell hb1).1 wr.heap.size o (by simp); have B1 : Below w.heap.size w w1 := by repeat (with_reducible (first | exact Below.refl _ _ | assumption | apply ba | apply bd | apply bdr | (refine bs ?_ (by first | assumption | (simp; done) | (simp; omega))) | (refine bt ?_ (by assumption)))))
            go_ret
            exact ⟨rfl, by repeat (with_reducible (first | exact Below.refl _ _ | assumption | apply ba | apply bd | apply bdr | (refine bs ?_ (by first | assumption | (simp; done) | (simp; omega))) | (refine bt ?_ (by assumption))))⟩
          | true =>
            have HN2 : Hid (rightL ((plL ks).drop (q + 1)) d (lastK ks (q + 1)) = res) := Lib.hid (by rw [← HST.out]; simp [kidR, l4])
            clear HST
            go_wp2_with (go_at_call 22; go_must (refine (HC.out _ (by repeat (with_reducible (first | exact Below.refl _ _ | assumption | apply ba | apply bd | apply bdr | (refine bs ?_ (by first | assumption | (simp; done) | (simp; omega))) | (refine bt ?_ (by assumption)))))).mono ?_); rintro e w1 ⟨rfl, hb1⟩; have hc1 := fun o => (bcell hb1).1 wr.heap.size o (by simp); have B1 : Below w.heap.size w w1 := by repeat (with_reducible (first | exact Below.refl _ _ | assumption | apply ba | apply bd | apply bdr | (refine bs ?_ (by first | assumption | (simp; done) | (simp; omega))) | (refine bt ?_ (by assumption)))))
            go_roundw
            case rel => exact ⟨q + 1, _, by go_num, rfl, by omega, HLN, HN2, by repeat (with_reducible (first | exact Below.refl _ _ | assumption | apply ba | apply bd | apply bdr | (refine bs ?_ (by first | assumption | (simp; done) | (simp; omega))) | (refine bt ?_ (by assumption))))⟩
            case measure => simp [intOf]; omega
      have hr : r = false := HRK.out ⟨k1, k2, k3, k4, k5⟩
      subst hr
      have hr2 : res = false := by rw [← HST.out, Bool.and_false]; rfl
      subst hr2
      have m1 : (k' == 1) = false := by simpa using k1
      have m3 : (k' == 3) = false := by simpa using k3
      have m4 : (k' == 4) = false := by simpa using k4
      go_wp2_with (go_at_call 22; go_must (refine (HC.out _ (by repeat (with_reducible (first | exact Below.refl _ _ | assumption | apply ba | apply bd | apply bdr | (refine bs ?_ (by first | assumption | (simp; done) | (simp; omega))) | (refine bt ?_ (by assumption)))))).mono ?_); rintro e w1 ⟨rfl, hb1⟩; have hc1 := fun o => (bcell hb1).1 wr.heap.size o (by simp); have B1 : Below w.heap.size w w1 := by repeat (with_reducible (first | exact Below.refl _ _ | assumption | apply ba | apply bd | apply bdr | (refine bs ?_ (by first | assumption | (simp; done) | (simp; omega))) | (refine bt ?_ (by assumption)))))
      go_ret
      exact ⟨rfl, by repeat (with_reducible (first | exact Below.refl _ _ | assumption | apply ba | apply bd | apply bdr | (refine bs ?_ (by first | assumption | (simp; done) | (simp; omega))) | (refine bt ?_ (by assumption))))⟩
    · obtain rfl : q = nk := by omega
      have g1 : decide (((q : Nat) : Int) < ((q : Nat) : Int)) = false := by simp
      have hr : res = true := by
        rw [← hrel.out, List.drop_eq_nil_of_le (by rw [plL_len, HNK.out]; exact Nat.le_refl _), rightL]
      subst hr
      go_wp2
      go_ret
      exact ⟨rfl, by repeat (with_reducible (first | exact Below.refl _ _ | assumption | apply ba | apply bd | apply bdr | (refine bs ?_ (by first | assumption | (simp; done) | (simp; omega))) | (refine bt ?_ (by assumption))))⟩
end Go.Proofs.YtpdaldpaceolnaaGreatDoor
