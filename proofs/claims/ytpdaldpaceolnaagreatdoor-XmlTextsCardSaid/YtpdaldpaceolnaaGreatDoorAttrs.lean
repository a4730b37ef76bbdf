/- Attributes; texts laid beside one another. No condition beyond what the theorems state. -/
import Derived.Test.YtpdaldpaceolnaaGreatDoorValues
import Derived.Maps.Own
import Derived.Maps.OwnOps
import Derived.Maps.Views
namespace Go.Proofs.YtpdaldpaceolnaaGreatDoor
open Go.RowKit Go.Lib Go.WideMaps Go.Maps
set_option maxRecDepth 100000
set_option maxHeartbeats 8000000
theorem lawK : Keyed Tryz.prog 9 := string_keyed Tryz.underlying9
theorem zeroV3 (w : World) : (zeroValue 3).run Tryz.prog w = .ok (.int .i64 0) w := by kernel_rfl
theorem map_mv {w w' : World} {R : Value → Option (DataW Unit × List MemPlace)} {M n b : Nat} {l : List UInt8} {D : DataW Unit} (h : w.ownsMap Tryz.prog 9 R M n D) (hm : Mv b l w w') (hb : b < M) : w'.ownsMap Tryz.prog 9 R M n D :=
  h.kept (row := some b) ⟨hm.low.os, hm.low.tape, hm.low.output, hm.grow, fun k hk hne => hm.block k hk (by intro e; exact hne (by rw [e]))⟩ (by simp; omega)
/-- A map that holds each of some names once. -/
def Ones (D : DataW Unit) (L : List (List UInt8)) : Prop := IsMap D ∧ (∀ s ∈ L, D.atKey (.string s) (.lit (.int .i64 0)) = .lit (.int .i64 1)) ∧ ∀ s, s ∉ L → D.atKey (.string s) (.lit (.int .i64 0)) = .lit (.int .i64 0)
theorem ones_nil : Ones (.map []) [] := ⟨isMap_empty, fun s h => absurd h (by simp), fun s _ => WideAt.atKey_none _ (by simp)⟩
theorem key_lit (s : List UInt8) : WideAt.IsKeyLit (.string s) := by first | exact trivial | (unfold WideAt.IsKeyLit; simp) | exact .string s
theorem ones_put {D : DataW Unit} {L : List (List UInt8)} (h : Ones D L) (s : List UInt8) (hs : s ∉ L) : Ones (D.put (.string s) (.lit (.int .i64 1))) (L ++ [s]) := by
  refine ⟨h.1.put _ _, fun x hx => ?_, fun x hx => ?_⟩
  · rcases List.mem_append.1 hx with hx | hx
    · have hne : x ≠ s := fun e => hs (e ▸ hx)
      rw [atKey_put_other (by intro e; cases e; exact hne rfl)]
      exact h.2.1 x hx
    · obtain rfl : x = s := by simpa using hx
      exact atKey_put_same h.1 (key_lit _) _ _
  · have h1 : x ∉ L := fun e => hx (List.mem_append_left _ e)
    have hne : x ≠ s := fun e => hx (by rw [e]; simp)
    rw [atKey_put_other (by intro e; cases e; exact hne rfl)]
    exact h.2.2 x h1
theorem run_makeMap_none (w : World) : (Instr.makeMap 94 none).run Tryz.prog w = .ok (.map (some w.heap.size)) (w.alloc (.map #[] 0)) := by
  simp [Instr.makeMap, newObj]
  try rfl
theorem lit_inj {a b : Int} (h : (DataW.lit (.int .i64 a) : DataW Unit) = .lit (.int .i64 b)) : b = a := by cases h; rfl
theorem Mv.grown {w w1 w2 : World} {b : Nat} {l : List UInt8} {row : Option Nat} (h : Mv b l w w1) (hg : w1.grownBy w2 row) (hr : ∀ k, row = some k → w.heap.size ≤ k ∧ b < k) : Mv b l w w2 := by
  have hbk : some b ≠ row := fun e => by have := (hr b e.symm).2; omega
  have hz := h.here.2.2
  refine ⟨⟨hg.os.trans h.low.os, hg.tape.trans h.low.tape, hg.output.trans h.low.output, Nat.le_trans h.grow hg.size, fun k hk => ?_⟩, fun k hk hne => ?_, Nat.le_trans h.grow hg.size, ?_⟩
  · refine (hg.block k (by omega) fun e => ?_).trans (h.low.block k hk)
    have := (hr k e.symm).2
    omega
  · refine (hg.block k (Nat.lt_of_lt_of_le hk h.grow) fun e => ?_).trans (h.block k hk hne)
    have := (hr k e.symm).1
    omega
  · have e := hg.block b hz hbk
    exact ⟨(World.cell?_of_block (a := ⟨b, 0, none⟩) e).trans h.here.1, (World.frozen?_of_block (a := ⟨b, 0, none⟩) e).trans h.here.2.1, Nat.lt_of_lt_of_le hz hg.size⟩
theorem own_grown {w w' : World} {base : Nat} {e : TypeId} {size n : Nat} {v : Value} {xs : List Value} {row : Option Nat} (h : w.ownsRow base e size v n xs) (hg : w.grownBy w' row) (hr : ∀ k, row = some k → k < base) : w'.ownsRow base e size v n xs :=
  own_keep h fun k hk => by
    obtain ⟨h1, h2⟩ := own_lt h hk
    exact hg.block k h2 fun e => by have := hr k e.symm; omega
def AtPost (b : Nat) (R : Option (List (List UInt8 × List UInt8) × List UInt8)) (w : World) (e : Ending) (w' : World) : Prop := match R with
  | some (ps, r) => (∃ A c, e = .returned (.slice A ps.length c) ∧ w'.ownsRow (w.heap.size + 1) 39 2 (.slice A ps.length c) ps.length (rowP ps)) ∧ Mv b r w w'
  | none => e = GU 61 ∧ ∃ l', Mv b l' w w'
theorem rowP_snoc (L : List (List UInt8 × List UInt8)) (n v : List UInt8) : rowP (L ++ [(n, v)]) = rowP L ++ [.string (ba' n), .string (ba' v)] := by
  unfold rowP
  rw [List.flatMap_append]
  rfl
theorem attrs_any (b : Nat) (l0 : List UInt8) (w : World) (h : At w b l0) (hl : l0.length ≤ 100000) (hv : validX l0 = true) (hE : Env w) (hb5 : 5 ≤ b) (R : Option (List (List UInt8 × List UInt8) × List UInt8)) (hR : attrsGo (l0.length + 1) l0 [] = R) : Calls Tryz.prog 51 #[.pointer (some ⟨b, 0, none⟩)] w (AtPost b R w) := by
  have HA := Lib.hid h
  have HE := Lib.hid hE
  have HR := Lib.hid hR
  have HV0 := Lib.hid hv
  have hz := h.2.2
  obtain ⟨i2, hi2, hz20, hz21, hz22⟩ := info_parts pair_info
  have hmm := run_makeMap_none
  have HM0 : Hid (Mv b l0 w (w.alloc (.map #[] 0))) := Lib.hid (Mv.of_below h (ba (Below.refl _ _)))
  have HMP : Hid ((w.alloc (.map #[] 0)).ownsMap Tryz.prog 9 (plainElem Tryz.prog 3) w.heap.size 0 (.map [] : DataW Unit)) := Lib.hid (World.ownsMap_made _ _ _ _)
  have HA1 : Hid (∀ (l : List UInt8) (W : World), At W b l → Calls Tryz.prog 72 #[.pointer (some ⟨b, 0, none⟩), .string ⟨#[47, 62]⟩] W fun e w' => e = .returned (.bool (Lib.hasPrefix l [47, 62])) ∧ w' = W) := Lib.hid fun l W hW => ahead_any b l [47, 62] W hW
  have HA2 : Hid (∀ (l : List UInt8) (W : World), At W b l → Calls Tryz.prog 72 #[.pointer (some ⟨b, 0, none⟩), .string ⟨#[62]⟩] W fun e w' => e = .returned (.bool (Lib.hasPrefix l [62])) ∧ w' = W) := Lib.hid fun l W hW => ahead_any b l [62] W hW
  have HND : Hid (∀ (l : List UInt8) (W : World), At W b l → Calls Tryz.prog 49 #[.pointer (some ⟨b, 0, none⟩), .string ⟨#[61]⟩] W (NdPost b [61] l W)) := Lib.hid fun l W hW => need_any b l [61] W hW
  clear h hE hR hv
  go_enter Tryz.func51, Tryz.ntmps51
  go_wp2
  go_loopw [3] (fun s3 wx => ∃ (l : List UInt8) (acc : List (List UInt8 × List UInt8)) (f : Nat) (D : DataW Unit) (A : Option Addr) (c : Nat), s3 = .slice A acc.length c ∧ l.length < f ∧ l.length + acc.length ≤ l0.length ∧ Hid (validX l = true) ∧ Hid (attrsGo f l acc = R) ∧ Hid (Mv b l w wx) ∧ Hid (wx.ownsRow (w.heap.size + 1) 39 2 (.slice A acc.length c) acc.length (rowP acc)) ∧ Hid (wx.ownsMap Tryz.prog 9 (plainElem Tryz.prog 3) w.heap.size acc.length D) ∧ Hid (Ones D (acc.map Prod.fst)) ∧ w.heap.size < wx.heap.size) (fun _ wx => leftLen b wx)
  case atStart => exact ⟨l0, [], l0.length + 1, _, none, 0, rfl, by omega, by simp, HV0, HR, HM0, Lib.hid (World.ownsRow_nil _ _ _ _), HMP, Lib.hid ones_nil, by simp⟩
  case round =>
    obtain ⟨l, acc, f, D, A, c, rfl, hf, hll, HV, HF, HM, HO, HMAP, HON, hzx⟩ := hrel
    obtain ⟨f, rfl⟩ : ∃ f', f = f' + 1 := ⟨f - 1, by omega⟩
    have HAT := Lib.hid HM.out.here
    have HLL := Lib.hid (leftLen_at HAT.out)
    obtain ⟨na, hna⟩ : ∃ na, acc.length = na := ⟨_, rfl⟩
    have HNA := Lib.hid hna
    have hst := HF.out
    unfold attrsGo at hst
    have htl := trimX_le l
    have HVT := Lib.hid (trim_valid l HV.out)
    obtain ⟨m, hm⟩ : ∃ m, trimX l = m := ⟨_, rfl⟩
    have hsp := spaces_any b l wr HAT.out
    rw [hm] at hst hsp htl HVT
    have HST := Lib.hid hst
    have HSP := Lib.hid hsp
    rw [hna] at hll HO HMAP ⊢
    clear hst HF HR HM0 HMP hm hsp hna
    by_cases ht : m.length < l.length
    · rw [decide_eq_true ht] at HSP
      go_wp2_with fail
      refine HSP.out.mono ?_
      rintro e w3 ⟨rfl, hmv⟩
      have HM3 := Lib.hid (HM.out.trans hmv)
      have HO3 := Lib.hid (hmv.own HO.out (by omega))
      have HP3 := Lib.hid (map_mv HMAP.out hmv hz)
      have z3 : w.heap.size < w3.heap.size := Nat.lt_of_lt_of_le hzx hmv.grow
      clear hmv HSP HAT HM HO HMAP
      go_wp2_with fail
      refine (HA1.out m _ HM3.out.here).mono ?_
      rintro e w4 ⟨rfl, rfl⟩
      cases ha1 : Lib.hasPrefix m [47, 62] with
      | true =>
        have HN : Hid (R = some (acc, m)) := Lib.hid (by have h := HST.out; rw [if_neg (by rintro ⟨_, e, _⟩; exact e ha1)] at h; exact h.symm)
        clear HST ha1
        go_wp2
        go_ret
        rw [HN.out]
        refine ⟨⟨A, c, by rw [HNA.out]; rfl, by rw [HNA.out]; exact HO3.out⟩, HM3.out⟩
      | false =>
        go_wp2_with fail
        refine (HA2.out m _ HM3.out.here).mono ?_
        rintro e w5 ⟨rfl, rfl⟩
        cases ha2 : Lib.hasPrefix m [62] with
        | true =>
          have HN : Hid (R = some (acc, m)) := Lib.hid (by have h := HST.out; rw [if_neg (by rintro ⟨_, _, e⟩; exact e ha2)] at h; exact h.symm)
          clear HST ha1 ha2
          go_wp2
          go_ret
          rw [HN.out]
          refine ⟨⟨A, c, by rw [HNA.out]; rfl, by rw [HNA.out]; exact HO3.out⟩, HM3.out⟩
        | false =>
          have hst := HST.out
          rw [if_pos ⟨ht, by rw [ha1]; decide, by rw [ha2]; decide⟩] at hst
          have HST2 := Lib.hid hst
          have HRN := Lib.hid (rname_any b m w5 HM3.out.here (by omega) (HE.out.mv HM3.out hb5).1 (by omega))
          clear hst HST ha1 ha2
          go_wp2_with fail
          refine HRN.out.mono ?_
          intro e w6 hnm
          unfold NmPost at hnm
          cases hnl : nameL m with
          | none =>
            rw [hnl] at hnm
            obtain ⟨rfl, l', hmv⟩ := hnm
            have HN : Hid (R = none) := Lib.hid (by have h := HST2.out; rw [hnl] at h; exact h.symm)
            have HM6 := Lib.hid (HM3.out.trans hmv)
            clear hmv HST2 hnl HRN
            go_wp2
            rw [HN.out]
            exact ⟨rfl, rfl, _, HM6.out⟩
          | some x =>
            obtain ⟨n, r⟩ := x
            rw [hnl] at hnm
            obtain ⟨rfl, hmv⟩ := hnm
            obtain ⟨hvr, hnr, hn0, _⟩ := name_valid HVT.out hnl
            have hst := HST2.out
            rw [hnl] at hst
            simp only at hst
            have HST3 := Lib.hid hst
            have HVR := Lib.hid hvr
            have HM6 := Lib.hid (HM3.out.trans hmv)
            have HO6 := Lib.hid (hmv.own HO3.out (by omega))
            have hown6 := map_mv HP3.out hmv hz
            have z6 : w.heap.size < w6.heap.size := Nat.lt_of_lt_of_le z3 hmv.grow
            have HKEY : Hid (keyOf Tryz.prog 9 (.string (ba' n)) = some (.string n)) := Lib.hid (keyOf_string_mk Tryz.underlying9 (by rw [size_ba]; unfold maxLen; omega))
            clear hmv hst HST2 hnl HRN HM3 HO3 HP3 z3 hvr
            by_cases hin : n ∈ acc.map Prod.fst
            · have HN : Hid (R = none) := Lib.hid (by have h := HST3.out; rw [if_pos hin] at h; exact h.symm)
              have HIN := Lib.hid hin
              clear HST3 hin
              go_wp2_with (first
                | (at_lookup; (refine wpList_lookup_own_int _ rfl (.tmp 21) (.tmp 22) 94 rfl 9 3 .i64 lawK Tryz.underlying94 Tryz.underlying3 (zeroV3 _) w.heap.size _ _ rfl hown6 _ (.string n) rfl HKEY.out ?_); intro cc hat hwc; obtain rfl := lit_inj (hat.symm.trans (HON.out.2.1 n HIN.out)); clear hat hwc)
                | (at_lookup; (refine wpList_lookup_own_int _ rfl (.tmp 25) (.tmp 26) 94 rfl 9 3 .i64 lawK Tryz.underlying94 Tryz.underlying3 (zeroV3 _) w.heap.size _ _ rfl hown7 _ (.string n) rfl HKEY.out ?_); intro cc hat hwc; obtain rfl := lit_inj (hat.symm.trans (atKey_put_same HON.out.1 (key_lit _) _ _)); clear hat hwc)
                | (at_mapUpdate; (refine wpList_mapUpdate_own _ rfl (.tmp 21) (.tmp 22) (.tmp 24) 94 rfl 9 3 lawK Tryz.underlying94 _ w.heap.size na _ rfl hown6 (by unfold maxLen; omega) _ _ (.string n) rfl rfl HKEY.out _ [] (plainElem_int Tryz.underlying3 (by first | decide | rfl)) ?_); intro w7 hown7 hgrow7))
              have HM7 := Lib.hid (HM6.out.grown hgrow7 (by intro k hk; cases hk; exact ⟨Nat.le_refl _, hz⟩))
              refine (fail_any _ _).mono ?_
              rintro e w8 ⟨rfl, rfl⟩
              go_wp2
              rw [HN.out]
              exact ⟨rfl, rfl, _, HM7.out⟩
            · have hst := HST3.out
              rw [if_neg hin] at hst
              have HST4 := Lib.hid hst
              have HIN := Lib.hid hin
              clear hst HST3 hin
              go_wp2_with (first
                | (at_lookup; (refine wpList_lookup_own_int _ rfl (.tmp 21) (.tmp 22) 94 rfl 9 3 .i64 lawK Tryz.underlying94 Tryz.underlying3 (zeroV3 _) w.heap.size _ _ rfl hown6 _ (.string n) rfl HKEY.out ?_); intro cc hat hwc; obtain rfl := lit_inj (hat.symm.trans (HON.out.2.2 n HIN.out)); clear hat hwc)
                | (at_lookup; (refine wpList_lookup_own_int _ rfl (.tmp 25) (.tmp 26) 94 rfl 9 3 .i64 lawK Tryz.underlying94 Tryz.underlying3 (zeroV3 _) w.heap.size _ _ rfl hown7 _ (.string n) rfl HKEY.out ?_); intro cc hat hwc; obtain rfl := lit_inj (hat.symm.trans (atKey_put_same HON.out.1 (key_lit _) _ _)); clear hat hwc)
                | (at_mapUpdate; (refine wpList_mapUpdate_own _ rfl (.tmp 21) (.tmp 22) (.tmp 24) 94 rfl 9 3 lawK Tryz.underlying94 _ w.heap.size na _ rfl hown6 (by unfold maxLen; omega) _ _ (.string n) rfl rfl HKEY.out _ [] (plainElem_int Tryz.underlying3 (by first | decide | rfl)) ?_); intro w7 hown7 hgrow7))
              have HM7 := Lib.hid (HM6.out.grown hgrow7 (by intro k hk; cases hk; exact ⟨Nat.le_refl _, hz⟩))
              have HO7 := Lib.hid (own_grown HO6.out hgrow7 (by intro k hk; cases hk; omega))
              have HP7 := Lib.hid hown7
              have z7 : w.heap.size < w7.heap.size := Nat.lt_of_lt_of_le z6 hgrow7.size
              have HON2 := Lib.hid (ones_put HON.out n HIN.out)
              have hvt2 := trim_valid r HVR.out
              have htl2 := trimX_le r
              obtain ⟨r1, hr1⟩ : ∃ r1, trimX r = r1 := ⟨_, rfl⟩
              have hsp2 := spaces_any b r w7 HM7.out.here
              rw [hr1] at hsp2 hvt2 htl2
              have hst := HST4.out
              rw [hr1] at hst
              have HST5 := Lib.hid hst
              have HSP2 := Lib.hid hsp2
              have HVT2 := Lib.hid hvt2
              clear hst HST4 hown6 hown7 hgrow7 HM6 HO6 z6 hsp2 hr1 hvt2
              refine HSP2.out.mono ?_
              rintro e w8 ⟨rfl, hmv⟩
              have HM8 := Lib.hid (HM7.out.trans hmv)
              have HO8 := Lib.hid (hmv.own HO7.out (by omega))
              have HP8 := Lib.hid (map_mv HP7.out hmv hz)
              have z8 : w.heap.size < w8.heap.size := Nat.lt_of_lt_of_le z7 hmv.grow
              clear hmv HSP2 HM7 HO7 HP7 z7
              go_wp2_with fail
              refine (HND.out r1 _ HM8.out.here).mono ?_
              intro e w9 hnd
              unfold NdPost at hnd
              cases hsx : stripX [61] r1 with
              | none =>
                rw [hsx] at hnd
                obtain ⟨rfl, hmv⟩ := hnd
                have HN : Hid (R = none) := Lib.hid (by have h := HST5.out; rw [hsx] at h; exact h.symm)
                have HM9 := Lib.hid (HM8.out.trans hmv)
                clear hmv HST5 hsx
                go_wp2
                rw [HN.out]
                exact ⟨rfl, rfl, _, HM9.out⟩
              | some r2 =>
                rw [hsx] at hnd
                obtain ⟨rfl, hmv⟩ := hnd
                obtain ⟨hv2, hl2⟩ := strip_valid (by decide) HVT2.out hsx
                simp only [List.length_cons, List.length_nil] at hl2
                have hst := HST5.out
                rw [hsx] at hst
                simp only at hst
                have HM9 := Lib.hid (HM8.out.trans hmv)
                have HO9 := Lib.hid (hmv.own HO8.out (by omega))
                have HP9 := Lib.hid (map_mv HP8.out hmv hz)
                have z9 : w.heap.size < w9.heap.size := Nat.lt_of_lt_of_le z8 hmv.grow
                have hvt3 := trim_valid r2 hv2
                have htl3 := trimX_le r2
                obtain ⟨r3, hr3⟩ : ∃ r3, trimX r2 = r3 := ⟨_, rfl⟩
                have hsp3 := spaces_any b r2 w9 HM9.out.here
                rw [hr3] at hsp3 hvt3 htl3 hst
                have HST6 := Lib.hid hst
                have HSP3 := Lib.hid hsp3
                have HVT3 := Lib.hid hvt3
                clear hmv hst HST5 hsx HM8 HO8 HP8 z8 hr3 hsp3 hvt3 hv2
                go_wp2_with fail
                refine HSP3.out.mono ?_
                rintro e w10 ⟨rfl, hmv⟩
                have HM10 := Lib.hid (HM9.out.trans hmv)
                have HO10 := Lib.hid (hmv.own HO9.out (by omega))
                have HP10 := Lib.hid (map_mv HP9.out hmv hz)
                have z10 : w.heap.size < w10.heap.size := Nat.lt_of_lt_of_le z9 hmv.grow
                have HVL := Lib.hid (rvalue_any b r3 w10 HM10.out.here (by omega) HVT3.out (HE.out.mv HM10.out hb5) hb5)
                clear hmv HSP3 HM9 HO9 HP9 z9
                go_wp2_with fail
                refine HVL.out.mono ?_
                intro e w11 hvl
                unfold VlPost at hvl
                cases hvx : valueL r3 with
                | none =>
                  rw [hvx] at hvl
                  obtain ⟨rfl, l', hmv⟩ := hvl
                  have HN : Hid (R = none) := Lib.hid (by have h := HST6.out; rw [hvx] at h; exact h.symm)
                  have HM11 := Lib.hid (HM10.out.trans hmv)
                  clear hmv HST6 hvx HVL
                  go_wp2
                  rw [HN.out]
                  exact ⟨rfl, rfl, _, HM11.out⟩
                | some x =>
                  obtain ⟨vv, r4⟩ := x
                  rw [hvx] at hvl
                  obtain ⟨rfl, hmv⟩ := hvl
                  obtain ⟨hv4, hl4⟩ := value_valid HVT3.out hvx
                  have hst := HST6.out
                  rw [hvx] at hst
                  simp only at hst
                  have HST7 := Lib.hid hst
                  have HV4 := Lib.hid hv4
                  have HM11 := Lib.hid (HM10.out.trans hmv)
                  have HO11 := Lib.hid (hmv.own HO10.out (by omega))
                  have HP11 := Lib.hid (map_mv HP10.out hmv hz)
                  have z11 : w.heap.size < w11.heap.size := Nat.lt_of_lt_of_le z10 hmv.grow
                  clear hmv hst HST6 hvx HVL HM10 HO10 HP10 z10 hv4
                  go_wp2_with (first
                    | (at_builtin
                       refine wpList_append_any _ rfl (.tmp 37) (.tmp 42) _ rfl (w.heap.size + 1) 39 i2 _ 2 32 Tryz.underlying24 hi2 hz20 hz21 hz22 rfl (by omega) (.slice A na c) na (rowP acc) rfl (own_below HO11.out (ba (Below.refl _ _))) (w11.heap.size + 1) (some ⟨w11.heap.size, 0, none⟩) 1 1 [.string (ba' n), .string (ba' vv)] rfl ⟨rfl, fun _ => ⟨_, rfl, by simp, cell_two_new _ _ _ _⟩⟩ (by intro u hu; simp at hu; rcases hu with rfl | rfl <;> rfl) (by simp only [maxLen]; omega) (by omega) (by simp; omega) ?_
                       intro v12 w12 hown12 hg12 hat12
                       obtain ⟨A12, c12, rfl⟩ := own_slice hown12
                       have HO12 := Lib.hid hown12
                       have HG12 := Lib.hid hg12
                       clear hown12 hg12 hat12))
                  have HGR : Hid (∀ k, (Value.slice A na c).ownBlock = some k → w.heap.size + 1 ≤ k) := Lib.hid fun k hk => (own_lt HO11.out hk).1
                  have HM12 : Hid (Mv b r4 w w12) := Lib.hid ((HM11.out.below (ba (Below.refl _ _))).grown HG12.out (fun k hk => by have := HGR.out k hk; omega))
                  have HP12 : Hid (w12.ownsMap Tryz.prog 9 (plainElem Tryz.prog 3) w.heap.size (na + 1) (D.put (.string n) (.lit (.int .i64 1)))) := Lib.hid ((map_mv HP11.out (Mv.of_below HM11.out.here (ba (Below.refl _ _))) hz).kept HG12.out (by intro e; have := HGR.out _ e.symm; omega))
                  have HL12 := Lib.hid (leftLen_at HM12.out.here)
                  have z12 : w.heap.size < w12.heap.size := by
                    have := HG12.out.size
                    simp at this
                    omega
                  go_roundw
                  case rel => exact ⟨r4, acc ++ [(n, vv)], f, _, A12, c12, by rw [List.length_append, HNA.out]; rfl, by omega, by rw [List.length_append, HNA.out]; simp only [List.length_cons, List.length_nil]; omega, HV4, HST7, HM12, Lib.hid (by rw [List.length_append, HNA.out, rowP_snoc]; exact HO12.out), Lib.hid (by rw [List.length_append, HNA.out]; exact HP12.out), Lib.hid (by rw [List.map_append]; exact HON2.out), z12⟩
                  case measure => rw [HL12.out, HLL.out]; omega
    · rw [decide_eq_false ht] at HSP
      have HN : Hid (R = some (acc, m)) := Lib.hid (by have h := HST.out; rw [if_neg (fun e => ht e.1)] at h; exact h.symm)
      clear HST
      go_wp2_with fail
      refine HSP.out.mono ?_
      rintro e w3 ⟨rfl, hmv⟩
      have HM3 := Lib.hid (HM.out.trans hmv)
      have HO3 := Lib.hid (hmv.own HO.out (by omega))
      clear hmv
      go_wp2
      go_ret
      rw [HN.out]
      refine ⟨⟨A, c, by rw [HNA.out]; rfl, by rw [HNA.out]; exact HO3.out⟩, HM3.out⟩
end Go.Proofs.YtpdaldpaceolnaaGreatDoor
namespace Go.Proofs.YtpdaldpaceolnaaGreatDoor
open Go.RowKit Go.Lib
set_option maxRecDepth 100000
set_option maxHeartbeats 8000000
def txC (s : List UInt8) : List Value := [.int .i64 4, .string ⟨#[]⟩, .string (ba' s), .slice none 0 0, .slice none 0 0]
def txV (s : List UInt8) : Value := .agg #[.int .i64 4, .string ⟨#[]⟩, .string (ba' s), .slice none 0 0, .slice none 0 0]
def rowX (L : List (List UInt8)) : List Value := L.flatMap txC
theorem rowX_snoc (L : List (List UInt8)) (s : List UInt8) : rowX (L ++ [s]) = rowX L ++ txC s := by
  unfold rowX; rw [List.flatMap_append]; simp
theorem rowX_at : ∀ (L : List (List UInt8)) (i : Nat) (s : List UInt8) (o : Nat) (u : Value), L[i]? = some s → (txC s)[o]? = some u → o < 5 → (rowX L)[i * 5 + o]? = some u
  | [], i, s, o, u, h, _, _ => by simp at h
  | a :: L, 0, s, o, u, h, hu, ho => by
    simp only [List.getElem?_cons_zero, Option.some.injEq] at h
    subst h
    show (txC a ++ rowX L)[0 * 5 + o]? = some u
    rw [List.getElem?_append_left (by simp [txC]; omega), Nat.zero_mul, Nat.zero_add]
    exact hu
  | a :: L, i + 1, s, o, u, h, hu, ho => by
    have := rowX_at L i s o u (by simpa using h) hu ho
    show (txC a ++ rowX L)[(i + 1) * 5 + o]? = some u
    rw [List.getElem?_append_right (by simp [txC]; omega)]
    have e : (txC a).length = 5 := rfl
    rw [e, show (i + 1) * 5 + o - 5 = i * 5 + o by omega]
    exact this
theorem txC_one (s : List UInt8) : ∀ u ∈ txC s, u.oneCell' = true := by
  intro u hu
  unfold txC at hu
  simp at hu
  rcases hu with rfl | rfl | rfl | rfl <;> rfl
theorem row_cells5 {w : World} {base n : Nat} {A : Option Addr} {c : Nat} {xs : List Value} (h : w.ownsRow base 27 5 (.slice A n c) n xs) (hn : 0 < n) : ∃ g, A = some ⟨g, 0, none⟩ ∧ base ≤ g ∧ g < w.heap.size ∧ n ≤ c ∧ ∀ j u, xs[j]? = some u → w.cell? ⟨g, j, none⟩ = some u := by
  obtain ⟨A', c', e, _, hrd⟩ := own_rd h
  cases e
  obtain ⟨ad, rfl, hb, hc⟩ := hrd.2 hn
  rcases h.2 with ⟨e, rfl⟩ | ⟨g, cap, cur, e, h1, h2, h3, h4, h5, h6⟩
  · omega
  · cases e
    refine ⟨g, rfl, h1, (Array.getElem?_eq_some_iff.1 h2).1, by omega, fun j u hu => ?_⟩
    have hj : ((⟨g, 0, none⟩ : Addr).add j) = ⟨g, j, none⟩ := by unfold Addr.add; split <;> simp_all
    have := hc j u hu
    rwa [hj] at this
/-- The texts that lie in a row. -/
def Rx (w : World) (g : Nat) (L : List (List UInt8)) : Prop := ∀ i s, L[i]? = some s → w.cell? ⟨g, i * 5, none⟩ = some (.int .i64 4) ∧ w.cell? ⟨g, i * 5 + 1, none⟩ = some (.string ⟨#[]⟩) ∧ w.cell? ⟨g, i * 5 + 2, none⟩ = some (.string (ba' s)) ∧ w.cell? ⟨g, i * 5 + 3, none⟩ = some (.slice none 0 0) ∧ w.cell? ⟨g, i * 5 + 4, none⟩ = some (.slice none 0 0)
theorem Rx.of {w : World} {g : Nat} {L : List (List UInt8)} (h : ∀ j u, (rowX L)[j]? = some u → w.cell? ⟨g, j, none⟩ = some u) : Rx w g L := fun i s hs =>
  ⟨h _ _ (rowX_at L i s 0 _ hs rfl (by omega)), h _ _ (rowX_at L i s 1 _ hs rfl (by omega)), h _ _ (rowX_at L i s 2 _ hs rfl (by omega)), h _ _ (rowX_at L i s 3 _ hs rfl (by omega)), h _ _ (rowX_at L i s 4 _ hs rfl (by omega))⟩
theorem Rx.below {w w' : World} {g : Nat} {L : List (List UInt8)} (h : Rx w g L) (hb : Below w.heap.size w w') (hg : g < w.heap.size) : Rx w' g L := fun i s hs => by
  obtain ⟨h0, h1, h2, h3, h4⟩ := h i s hs
  exact ⟨(hb.cell (p := ⟨g, i * 5, none⟩) hg).trans h0, (hb.cell (p := ⟨g, i * 5 + 1, none⟩) hg).trans h1, (hb.cell (p := ⟨g, i * 5 + 2, none⟩) hg).trans h2, (hb.cell (p := ⟨g, i * 5 + 3, none⟩) hg).trans h3, (hb.cell (p := ⟨g, i * 5 + 4, none⟩) hg).trans h4⟩
theorem texts_any (g n c : Nat) (L : List (List UInt8)) (w : World) (hL : L.length = n) (hR : Rx w g L) (hn : n ≤ 1000000) : Calls Tryz.prog 110 #[.slice (some ⟨g, 0, none⟩) n c] w fun e w' => e = .returned (.int .i64 (n : Int)) ∧ w' = w := by
  have HR := Lib.hid hR
  have HL := Lib.hid hL
  clear hR hL
  go_enter Tryz.func110, Tryz.ntmps110
  go_wp2
  go_loopw [3] (fun s3 wx => ∃ i : Nat, s3 = .int .i64 (i : Int) ∧ i ≤ n ∧ wx = w) (fun s3 _ => n - (intOf s3).toNat)
  case atStart => exact ⟨0, rfl, Nat.zero_le _, rfl⟩
  case round =>
    obtain ⟨i, rfl, hi, hw⟩ := hrel
    obtain rfl := hw.symm
    clear hw
    by_cases hlt : i < n
    · have g1 : decide ((i : Int) < (n : Int)) = true := by simp; omega
      have g1' : decide (i < n) = true := by simpa using hlt
      obtain ⟨s, hs⟩ : ∃ s, L[i]? = some s := ⟨_, List.getElem?_eq_getElem (by rw [HL.out]; exact hlt)⟩
      obtain ⟨h0, h1, h2, h3, h4⟩ := HR.out i s hs
      clear hs
      go_wp2
      go_roundw
      case rel => exact ⟨i + 1, by go_num, by omega, trivial⟩
      case measure => simp [intOf]; omega
    · obtain rfl : i = n := by omega
      go_wp2
      go_ret
      exact ⟨rfl, rfl⟩
theorem fresh_text (s : List UInt8) (w : World) : Calls Tryz.prog 109 #[txV s] w fun e w' => e = .returned (txV s) ∧ Below w.heap.size w w' := by
  unfold txV
  obtain ⟨v, hv⟩ : ∃ v, ba' s = v := ⟨_, rfl⟩
  rw [hv]
  go_enter Tryz.func109, Tryz.ntmps109
  go_wp2
  go_rounds 1
  refine bodyPost_ret (v := .agg #[.int .i64 4, .string ⟨#[]⟩, .string v, .slice none 0 0, .slice none 0 0]) (by simp [results, Tryz.results109, go_sem, *]) rfl ⟨rfl, ?_⟩
  repeat (with_reducible (first | exact Below.refl _ _ | apply ba | (refine bs ?_ (by first | (simp; done) | (simp; omega)))))
theorem builder_carry {B b : Nat} {bs : List Value} {w w' : World} (h : Lib.IsBuilder 99 5 B b bs w) (hb : Below w.heap.size w w') : Lib.IsBuilder 99 5 B b bs w' := by
  have one : ∀ p, Lib.BuilderAt 99 5 B b p bs w → Lib.BuilderAt 99 5 B b p bs w' := fun p ⟨h1, v, h2, h3, h4⟩ =>
    ⟨h1, v, (hb.block b ((Array.getElem?_eq_some_iff.1 h2).1)).trans h2, own_below h3 hb, h4⟩
  exact h.elim (fun h => .inl (one _ h)) (fun h => .inr (one _ h))
theorem values_any (g n c : Nat) (L : List (List UInt8)) (w : World) (hL : L.length = n) (hR : Rx w g L) (hg : g < w.heap.size) (hn : n ≤ 1000000) (hf : L.flatten.length ≤ 1000000) : Calls Tryz.prog 111 #[.slice (some ⟨g, 0, none⟩) n c] w fun e w' => e = .returned (.string (ba' L.flatten)) ∧ Below w.heap.size w w' := by
  have HR := Lib.hid hR
  have HL := Lib.hid hL
  have HF : Hid (∀ i, (L.take i).flatten.length ≤ 1000000) := Lib.hid fun i => by
    have h : L.flatten = (L.take i).flatten ++ (L.drop i).flatten := by rw [← List.flatten_append, List.take_append_drop]
    have := congrArg List.length h
    rw [List.length_append] at this
    omega
  have HB0 : Hid (Lib.IsBuilder 99 5 w.heap.size w.heap.size [] (w.alloc (.cells #[.pointer none, .slice none 0 0] 99))) := Lib.hid (Lib.fresh_isBuilder 99 5 w)
  clear hR hL hf
  go_enter Tryz.func111, Tryz.ntmps111
  go_wp2
  go_loopw [8] (fun s8 wx => ∃ i : Nat, s8 = .int .i64 (i : Int) ∧ i ≤ n ∧ Hid (Lib.IsBuilder 99 5 w.heap.size w.heap.size (Lib.byteCells (L.take i).flatten) wx) ∧ Hid (Below w.heap.size w wx) ∧ w.heap.size < wx.heap.size) (fun s8 _ => n - (intOf s8).toNat)
  case atStart => exact ⟨0, rfl, Nat.zero_le _, HB0, Lib.hid (ba (Below.refl _ _)), by simp⟩
  case round =>
    obtain ⟨i, rfl, hi, HI, HB, hz⟩ := hrel
    clear HB0
    by_cases hlt : i < n
    · have g1 : decide ((i : Int) < (n : Int)) = true := by simp; omega
      have g1' : decide (i < n) = true := by simpa using hlt
      obtain ⟨s, hs⟩ : ∃ s, L[i]? = some s := ⟨_, List.getElem?_eq_getElem (by rw [HL.out]; exact hlt)⟩
      obtain ⟨h0, h1, h2, h3, h4⟩ := (HR.out.below HB.out hg) i s hs
      have HT : Hid ((L.take (i + 1)).flatten = (L.take i).flatten ++ s) := Lib.hid (by rw [List.take_add_one, hs]; simp)
      have hfi := HF.out (i + 1)
      rw [HT.out, List.length_append] at hfi
      have hgr : g < wr.heap.size := Nat.lt_of_lt_of_le hg HB.out.size
      clear hs
      go_wp2_with fail
      refine (write_any w.heap.size w.heap.size (Lib.byteCells (L.take i).flatten) (ba' s) _ (builder_carry HI.out (ba (Below.refl _ _))) (by rw [byteCells_len, size_ba]; omega) (by simp; omega)).mono ?_
      rintro e w4 ⟨rfl, hI4, hb4⟩
      have HI4 : Hid (Lib.IsBuilder 99 5 w.heap.size w.heap.size (Lib.byteCells (L.take (i + 1)).flatten) w4) := Lib.hid (.inr (by
        have e1 : Lib.byteCells ((L.take i).flatten ++ s) = Lib.byteCells (L.take i).flatten ++ Lib.strCells (ba' s) := by rw [Lib.byteCells_append]; rfl
        rw [HT.out, e1]; exact hI4))
      have HB4 : Hid (Below w.heap.size w w4) := Lib.hid ((HB.out.alloc (by omega) _).trans hb4)
      have z4 : w.heap.size < w4.heap.size := by have := hb4.size; simp at this; omega
      clear hI4 hb4 h0 h1 h2 h3 h4
      go_wp2
      go_roundw
      case rel => exact ⟨i + 1, by go_num, by omega, HI4, HB4, z4⟩
      case measure => simp [intOf]; omega
    · obtain rfl : i = n := by omega
      have HI2 : Hid (Lib.IsBuilder 99 5 w.heap.size w.heap.size (Lib.byteCells L.flatten) wr) := Lib.hid (by have h := HI.out; rw [← HL.out, List.take_length] at h; exact h)
      clear HI
      go_wp2_with fail
      refine (Tryz.Builder_String_any w.heap.size w.heap.size L.flatten wr HI2.out HB.out.size).mono ?_
      rintro e w3 ⟨rfl, hb3⟩
      have HB3 : Hid (Below w.heap.size w w3) := Lib.hid (HB.out.trans hb3)
      clear hb3
      go_wp2
      go_ret
      exact ⟨rfl, HB3.out⟩
end Go.Proofs.YtpdaldpaceolnaaGreatDoor
namespace Go.Proofs.YtpdaldpaceolnaaGreatDoor
open Go.RowKit Go.Lib
set_option maxRecDepth 100000
set_option maxHeartbeats 8000000
/-- The texts that are not empty. -/
def fullL (L : List (List UInt8)) : List (List UInt8) := L.filter fun s => !s.isEmpty
theorem full_flat (L : List (List UInt8)) : (fullL L).flatten = L.flatten := by
  induction L with
  | nil => rfl
  | cons a L ih =>
    unfold fullL at ih ⊢
    rw [List.filter_cons]
    cases a with
    | nil => simpa using ih
    | cons b t => simp [ih]
theorem full_nil (L : List (List UInt8)) : fullL L = [] ↔ L.flatten = [] := by
  rw [← full_flat L]
  constructor
  · intro h; rw [h]; rfl
  · intro h
    cases hf : fullL L with
    | nil => rfl
    | cons a T =>
      rw [hf] at h
      have ha : a ∈ fullL L := by rw [hf]; simp
      unfold fullL at ha
      rw [List.mem_filter] at ha
      cases a with
      | nil => simp at ha
      | cons => simp at h
theorem five_at (w : World) (g : Nat) (hg : g = w.heap.size) (x0 x1 x2 x3 x4 : Value) (t : TypeId) : ∀ j u, [x0, x1, x2, x3, x4][j]? = some u → (w.alloc (.cells #[x0, x1, x2, x3, x4] t)).cell? ((⟨g, 0, none⟩ : Addr).add j) = some u := by
  subst hg
  exact five_new w x0 x1 x2 x3 x4 t
theorem full_any (g n c : Nat) (A : Option Addr) (L : List (List UInt8)) (w : World) (hL : L.length = n) (hA : 0 < n → A = some ⟨g, 0, none⟩) (hR : Rx w g L) (hg : g < w.heap.size) (hn : n ≤ 1000000) : Calls Tryz.prog 108 #[.slice A n c] w fun e w' => (∃ A' c', e = .returned (.slice A' (fullL L).length c') ∧ w'.ownsRow w.heap.size 27 5 (.slice A' (fullL L).length c') (fullL L).length (rowX (fullL L))) ∧ Below w.heap.size w w' := by
  have HR := Lib.hid hR
  have HL := Lib.hid hL
  have HAA := Lib.hid hA
  obtain ⟨i5, hi5, hz50, hz51, hz52⟩ := info_parts tree_info
  have HLE : Hid (∀ i, i ≤ n → (fullL (L.take i)).length ≤ i) := Lib.hid fun i hi => by
    unfold fullL
    refine Nat.le_trans (List.length_filter_le _ _) ?_
    rw [List.length_take]
    omega
  clear hR hL hA
  go_enter Tryz.func108, Tryz.ntmps108
  go_wp2
  go_loopw [3, 8] (fun s3 s8 wx => ∃ (i m : Nat) (A' : Option Addr) (c' : Nat), s3 = .slice A' m c' ∧ s8 = .int .i64 (i : Int) ∧ i ≤ n ∧ m ≤ i ∧ Hid ((fullL (L.take i)).length = m) ∧ Hid (wx.ownsRow w.heap.size 27 5 (.slice A' m c') m (rowX (fullL (L.take i)))) ∧ Hid (Below w.heap.size w wx)) (fun _ s8 _ => n - (intOf s8).toNat)
  case atStart => exact ⟨0, 0, none, 0, rfl, rfl, Nat.zero_le _, Nat.le_refl _, Lib.hid rfl, Lib.hid (World.ownsRow_nil _ _ _ _), Lib.hid (Below.refl _ _)⟩
  case round =>
    obtain ⟨i, m, A', c', rfl, rfl, hi, hmi, HM, HO, HB⟩ := hrel
    by_cases hlt : i < n
    · have g1 : decide ((i : Int) < (n : Int)) = true := by simp; omega
      have g1' : decide (i < n) = true := by simpa using hlt
      obtain rfl := HAA.out (by omega)
      obtain ⟨s, hs⟩ : ∃ s, L[i]? = some s := ⟨_, List.getElem?_eq_getElem (by rw [HL.out]; exact hlt)⟩
      obtain ⟨h0, h1, h2, h3, h4⟩ := (HR.out.below HB.out hg) i s hs
      have hgr : g < wr.heap.size := Nat.lt_of_lt_of_le hg HB.out.size
      have HT : Hid (L.take (i + 1) = L.take i ++ [s]) := Lib.hid (by rw [List.take_add_one, hs]; rfl)
      have HW : Hid (Below w.heap.size w (wr.alloc (.cells #[.int .i64 4, .string ⟨#[]⟩, .string (ba' s), .slice none 0 0, .slice none 0 0] 27))) := Lib.hid (ba HB.out)
      clear hs
      by_cases hse : s = []
      · subst hse
        have e0 : (ba' []).toList.isEmpty = true := by rw [toList_ba]; rfl
        have HF : Hid (fullL (L.take (i + 1)) = fullL (L.take i)) := Lib.hid (by rw [HT.out]; unfold fullL; rw [List.filter_append]; simp)
        go_wp2
        go_roundw
        case rel => exact ⟨i + 1, m, A', c', rfl, by go_num, by omega, by omega, Lib.hid (by rw [HF.out]; exact HM.out), Lib.hid (by rw [HF.out]; exact own_below HO.out (ba (Below.refl _ _))), HW⟩
        case measure => simp [intOf]; omega
      · have e0 : (ba' s).toList.isEmpty = false := by rw [toList_ba]; cases s with | nil => exact absurd rfl hse | cons => rfl
        have HF : Hid (fullL (L.take (i + 1)) = fullL (L.take i) ++ [s]) := Lib.hid (by
          rw [HT.out]
          unfold fullL
          rw [List.filter_append]
          cases s with
          | nil => exact absurd rfl hse
          | cons => simp)
        clear hse
        go_wp2_with (first
          | (at_builtin
             go_must (refine wpList_append_any _ rfl (.tmp 20) (.tmp 22) _ rfl w.heap.size 27 i5 _ 5 88 Tryz.underlying25 hi5 hz50 hz51 hz52 rfl (by omega) (.slice A' m c') m (rowX (fullL (L.take i))) rfl (own_below (own_below HO.out (ba (Below.refl _ _))) (ba (Below.refl _ _))) (wr.heap.size + 2) (some ⟨wr.heap.size + 1, 0, none⟩) 1 1 (txC s) rfl ⟨rfl, fun _ => ⟨_, rfl, by simp, five_at _ _ (by simp) _ _ _ _ _ _⟩⟩ (txC_one s) (by simp only [maxLen]; omega) (by omega) (by have := HB.out.size; simp; omega) ?_)
             intro v5 w5 hown5 hg5 hat5
             obtain ⟨A5, c5, rfl⟩ := own_slice hown5
             have HO5 := Lib.hid hown5
             have HG5 := Lib.hid hg5
             clear hown5 hg5 hat5))
        go_roundw
        case rel =>
          refine ⟨i + 1, m + 1, A5, c5, rfl, by go_num, by omega, by omega, Lib.hid (by rw [HF.out, List.length_append, HM.out]; rfl), Lib.hid (by rw [HF.out, rowX_snoc]; exact HO5.out), Lib.hid ?_⟩
          refine ((ba (ba HB.out)) : Below w.heap.size w _).grown HG5.out (by have := HB.out.size; simp; omega) ?_
          intro k hk
          exact (own_lt HO.out hk).1
        case measure => simp [intOf]; omega
    · obtain rfl : i = n := by omega
      go_wp2
      go_ret
      have hT : L.take i = L := by rw [← HL.out]; exact List.take_length
      have h1 := HM.out
      have h2 := HO.out
      rw [hT] at h1 h2
      exact ⟨⟨A', c', by rw [h1]; rfl, by rw [h1]; exact h2⟩, HB.out⟩
end Go.Proofs.YtpdaldpaceolnaaGreatDoor
namespace Go.Proofs.YtpdaldpaceolnaaGreatDoor
open Go.RowKit Go.Lib
set_option maxRecDepth 100000
set_option maxHeartbeats 8000000
def slLen : Value → Nat
  | .slice _ n _ => n
  | _ => 0
/-- One Text of them all, or none. -/
def kF (L : List (List UInt8)) : List (List UInt8) := if L.flatten = [] then [] else [L.flatten]
theorem merge_any (g n c : Nat) (A : Option Addr) (L : List (List UInt8)) (w : World) (hL : L.length = n) (hA : 0 < n → A = some ⟨g, 0, none⟩) (hR : Rx w g L) (hg : g < w.heap.size) (hn : n ≤ 1000000) (hf : L.flatten.length ≤ 1000000) : Calls Tryz.prog 94 #[.slice A n c] w fun e w' => (∃ A' c', e = .returned (.slice A' (kF L).length c') ∧ w'.ownsRow w.heap.size 27 5 (.slice A' (kF L).length c') (kF L).length (rowX (kF L))) ∧ Below w.heap.size w w' := by
  have HF := Lib.hid (full_any g n c A L w hL hA hR hg hn)
  have HFL : Hid ((fullL L).flatten = L.flatten) := Lib.hid (full_flat L)
  have HN : Hid (fullL L = [] ↔ L.flatten = []) := Lib.hid (full_nil L)
  have HM : Hid ((fullL L).length ≤ 1000000) := Lib.hid (by
    have h1 : (fullL L).length ≤ L.length := List.length_filter_le _ _
    omega)
  obtain ⟨i5, hi5, hz50, hz51, hz52⟩ := info_parts tree_info
  have HLF := Lib.hid hf
  have hK0 : L.flatten = [] → kF L = [] := fun h => by unfold kF; rw [if_pos h]
  have hK1 : L.flatten ≠ [] → kF L = [L.flatten] := fun h => by unfold kF; rw [if_neg h]
  obtain ⟨K, hKe⟩ : ∃ K, kF L = K := ⟨_, rfl⟩
  rw [hKe] at hK0 hK1 ⊢
  clear hKe
  obtain ⟨T, hT⟩ : ∃ T, L.flatten = T := ⟨_, rfl⟩
  rw [hT] at hK0 hK1
  have HK0 := Lib.hid hK0
  have HK1 := Lib.hid hK1
  clear hK0 hK1
  rw [hT] at HFL HN HLF
  clear hT hL hA hR hf
  go_enter Tryz.func94, Tryz.ntmps94
  go_wp2_with fail
  refine HF.out.mono ?_
  rintro e w1 ⟨⟨A1, c1, rfl, hown⟩, hb1⟩
  have HB1 := Lib.hid hb1
  obtain ⟨F, hF⟩ : ∃ F, fullL L = F := ⟨_, rfl⟩
  rw [hF] at hown HFL HN HM ⊢
  obtain ⟨m, hm⟩ : ∃ m, F.length = m := ⟨_, rfl⟩
  rw [hm] at hown HM ⊢
  have HO := Lib.hid hown
  have Hm := Lib.hid hm
  have HFF := Lib.hid hF
  clear hown hb1 HF hm hF
  go_wp2
  go_loopw [3, 4] (fun s3 s4 wx => (s3 = .slice none 0 0 ∧ s4 = .slice A1 m c1 ∧ Hid (wx = w1)) ∨ (∃ A2 c2 A3 c3, s3 = .slice A2 1 c2 ∧ s4 = .slice A3 0 c3 ∧ Hid (T ≠ []) ∧ Hid (wx.ownsRow w.heap.size 27 5 (.slice A2 1 c2) 1 (txC T)) ∧ Hid (Below w.heap.size w wx))) (fun _ s4 _ => slLen s4)
  case atStart => exact .inl ⟨rfl, rfl, Lib.hid rfl⟩
  case round =>
    rcases hrel with ⟨rfl, rfl, hw⟩ | ⟨A2, c2, A3, c3, rfl, rfl, HNE, HO2, HB2⟩
    · by_cases hm0 : m = 0
      · subst hm0
        have hF0 : F = [] := List.length_eq_zero_iff.1 Hm.out
        have hL0 := HN.out.1 hF0
        have hk : K = [] := HK0.out hL0
        have hbw : Below w.heap.size w wr := by rw [hw.out]; exact HB1.out
        have HBW := Lib.hid hbw
        clear hF0 hL0 hbw
        have HK := Lib.hid hk
        clear hk
        go_wp2
        go_ret
        rw [HK.out]
        exact ⟨⟨none, 0, rfl, World.ownsRow_nil _ _ _ _⟩, HBW.out⟩
      · have hmp : 0 < m := by omega
        obtain ⟨g1, rfl, hg0, hg1, hgc, hgr⟩ := row_cells5 HO.out hmp
        have hR1 : Rx w1 g1 F := Rx.of hgr
        obtain ⟨s0, hs0⟩ : ∃ s, F[0]? = some s := ⟨_, List.getElem?_eq_getElem (by rw [Hm.out]; exact hmp)⟩
        obtain rfl : wr = w1 := hw.out
        have k0 := hgr 0 _ (rowX_at F 0 s0 0 _ hs0 rfl (by omega))
        have k1 := hgr 1 _ (rowX_at F 0 s0 1 _ hs0 rfl (by omega))
        have k2 := hgr 2 _ (rowX_at F 0 s0 2 _ hs0 rfl (by omega))
        have k3 := hgr 3 _ (rowX_at F 0 s0 3 _ hs0 rfl (by omega))
        have k4 := hgr 4 _ (rowX_at F 0 s0 4 _ hs0 rfl (by omega))
        have gm : decide (0 < m) = true := by simpa using hmp
        have gmi : decide ((0 : Int) < (m : Int)) = true := by simp; omega
        have gne : ¬ (m : Int) = 0 := by omega
        have hcc : (m : Int) ≤ (c1 : Int) := by omega
        have hmax : max (m : Int) 1 = (m : Int) := by omega
        have z1 := HB1.out.size
        have HR1 := Lib.hid hR1
        have HFlat : Hid (F.flatten.length ≤ 1000000) := Lib.hid (by rw [HFL.out]; exact HLF.out)
        have HLne : Hid (T ≠ []) := Lib.hid fun h => by
          have := HN.out.2 h
          rw [this] at Hm
          have := Hm.out
          simp at this
          omega
        clear hgr hR1 hs0 hw
        go_wp2_with fail
        refine (fresh_text s0 _).mono ?_
        rintro e w2 ⟨he, hb2⟩
        unfold txV at he
        subst he
        have z2 := hb2.size
        obtain ⟨V, hV⟩ : ∃ V, w2.alloc (.cells #[.int .i64 4, .string ⟨#[]⟩, .string (ba' s0), .slice none 0 0, .slice none 0 0] 27) = V := ⟨_, rfl⟩
        have hVb : Below w2.heap.size w2 V := by rw [← hV]; exact ba (Below.refl _ _)
        have hVz : V.heap.size = w2.heap.size + 1 := by rw [← hV]; simp
        have hRV : Rx V g1 F := HR1.out.below (hb2.trans (hVb.mono z2)) hg1
        have HRV := Lib.hid hRV
        have HBV : Hid (Below w.heap.size w V) := Lib.hid ((HB1.out.trans (hb2.mono z1)).trans (hVb.mono (by omega)))
        have hgV : g1 < V.heap.size := by omega
        clear hRV k0 k1 k2 k3 k4 hb2 hVb
        have q0 : V.cell? ⟨w2.heap.size, 0, none⟩ = some (.int .i64 4) := by rw [← hV]; simp
        have q1 : V.cell? ⟨w2.heap.size, 1, none⟩ = some (.string ⟨#[]⟩) := by rw [← hV]; simp
        have q2 : V.cell? ⟨w2.heap.size, 2, none⟩ = some (.string (ba' s0)) := by rw [← hV]; simp
        have q3 : V.cell? ⟨w2.heap.size, 3, none⟩ = some (.slice none 0 0) := by rw [← hV]; simp
        have q4 : V.cell? ⟨w2.heap.size, 4, none⟩ = some (.slice none 0 0) := by rw [← hV]; simp
        have qf : V.frozen? ⟨w2.heap.size, 2, none⟩ = false := by rw [← hV]; simp
        have HV := Lib.hid hV
        clear hV
        go_wp2_with fail
        refine (texts_any g1 m c1 F (w2.alloc (.cells #[.int .i64 4, .string ⟨#[]⟩, .string (ba' s0), .slice none 0 0, .slice none 0 0] 27)) Hm.out (by rw [HV.out]; exact HRV.out) HM.out).mono ?_
        rintro e w3 ⟨rfl, hw3⟩
        rw [HV.out] at hw3
        obtain rfl := hw3.symm
        clear hw3
        go_wp2_with fail
        refine (values_any g1 m c1 F V Hm.out HRV.out hgV HM.out HFlat.out).mono ?_
        rintro e w4 ⟨he, hb4⟩
        rw [HFL.out] at he
        subst he
        have z4 := hb4.size
        have HB4 : Hid (Below w.heap.size w w4) := Lib.hid (HBV.out.trans (hb4.mono (by omega)))
        have f4 := fun o => hb4.cell (p := ⟨w2.heap.size, o, none⟩) (by simp only; omega)
        have r0 := (f4 0).trans q0
        have r1 := (f4 1).trans q1
        have r2 := (f4 2).trans q2
        have r3 := (f4 3).trans q3
        have r4 := (f4 4).trans q4
        have rf := (hb4.frozen (p := ⟨w2.heap.size, 2, none⟩) (by simp only; omega)).trans qf
        have zz4 : w2.heap.size < w4.heap.size := by omega
        have zw : w.heap.size ≤ w2.heap.size := by omega
        clear f4 q0 q1 q2 q3 q4 qf hb4
        go_wp2_with (at_builtin; go_must (refine wpList_append_any _ rfl (.tmp 25) (.tmp 27) _ rfl w.heap.size 27 i5 _ 5 88 Tryz.underlying25 hi5 hz50 hz51 hz52 rfl (by omega) (.slice none 0 0) 0 [] rfl (World.ownsRow_nil _ _ _ _) (w4.heap.size + 1) (some ⟨w4.heap.size, 0, none⟩) 1 1 (txC T) rfl ⟨rfl, fun _ => ⟨_, rfl, by simp, five_at _ _ (by simp) _ _ _ _ _ _⟩⟩ (txC_one _) (by simp only [maxLen]; omega) (by omega) (by simp; omega) ?_))
        intro v5 w5 hown5 hg5 _
        obtain ⟨A5, c5, rfl⟩ := own_slice hown5
        have HB5 : Hid (Below w.heap.size w w5) := Lib.hid (Below.grown (((HB4.out).setCell (p := ⟨w2.heap.size, 2, none⟩) zw _).alloc (by simp; omega) _) hg5 (by simp; omega) (fun k hk => by cases hk))
        have HO5 := Lib.hid hown5
        clear hown5 hg5
        go_wp2
        go_roundw
        case rel => exact .inr ⟨A5, c5, _, _, rfl, (by first | rfl | go_num), HLne, HO5, HB5⟩
        case measure => simp [slLen]; omega
    · have hk : K = [T] := HK1.out HNE.out
      have HK := Lib.hid hk
      clear hk
      go_wp2
      go_ret
      rw [HK.out]
      exact ⟨⟨A2, c2, rfl, by have h := HO2.out; rw [← List.append_nil (txC T)] at h; exact h⟩, HB2.out⟩
end Go.Proofs.YtpdaldpaceolnaaGreatDoor
