/- What an element holds. No condition beyond what the theorems state. -/
import Derived.Test.YtpdaldpaceolnaaGreatDoorTexts
import Derived.Test.YtpdaldpaceolnaaGreatDoorTrees
namespace Go.Proofs.YtpdaldpaceolnaaGreatDoor
open Go.RowKit Go.Lib
set_option maxRecDepth 100000
set_option maxHeartbeats 8000000
/-- The blocks that a call has made. -/
def NewB (w w' : World) (b : Nat) : Prop := w.heap.size ≤ b ∧ b < w'.heap.size
/-- The blocks above a place that hold no row that still grows. -/
def KB (H : Nat) (v : Value) (w : World) (b : Nat) : Prop := H ≤ b ∧ b < w.heap.size ∧ v.ownBlock ≠ some b
theorem plL_app (a c : List Tr) : plL (a ++ c) = plL a ++ plL c := by rw [plL_map, plL_map, plL_map, List.map_append]
theorem plL_tx (V : List (List UInt8)) : plL (V.map txT) = V.map txP := by rw [plL_map, List.map_map]; rfl
theorem reads_own {w : World} {base : Nat} {e : TypeId} {size n c : Nat} {A : Option Addr} {xs : List Value} (h : w.ownsRow base e size (.slice A n c) n xs) : Reads w w.heap.size size A n xs := by
  obtain ⟨A', c', e, _, h1, h2⟩ := own_rd h
  cases e
  refine ⟨h1, fun hn => ?_⟩
  obtain ⟨ad, e, hb, hc⟩ := h2 hn
  exact ⟨ad, e, (own_lt h hb).2, hc⟩
theorem leaf_in (P : Nat → Prop) (w : World) (k : Int) (n v : List UInt8) : (Tr.mk k n v none 0 [] none 0 []).In P w := by
  rw [Tr.In]
  exact ⟨⟨rfl, fun h => absurd h (by simp)⟩, ⟨rfl, fun h => absurd h (by simp)⟩, trivial⟩
theorem inl_tx (P : Nat → Prop) (w : World) (V : List (List UInt8)) : InL P w (V.map txT) := inL_iff.2 fun t ht => by
  obtain ⟨v, _, rfl⟩ := List.mem_map.1 ht
  exact leaf_in P w 4 [] v
theorem inl_app {P : Nat → Prop} {w : World} {a c : List Tr} (ha : InL P w a) (hc : InL P w c) : InL P w (a ++ c) := inL_iff.2 fun t ht => by
  rcases List.mem_append.1 ht with h | h
  · exact inL_iff.1 ha t h
  · exact inL_iff.1 hc t h
theorem inl_mv {H b : Nat} {v : Value} {w w' : World} {l : List UInt8} {L : List Tr} (h : InL (KB H v w) w L) (hm : Mv b l w w') (hb : b < H) : InL (KB H v w') w' L := inL_iff.2 fun t ht =>
  (inL_iff.1 h t ht).keep (fun k hk => ⟨hk.1, Nat.lt_of_lt_of_le hk.2.1 hm.grow, hk.2.2⟩) (fun p hk => hm.cell hk.2.1 (by have := hk.1; omega))
theorem inl_grown {H : Nat} {v v5 : Value} {w1 w5 : World} {L : List Tr} (h : InL (KB H v w1) w1 L) (hg : w1.grownBy w5 v.ownBlock) (hat : v5.ownBlock = v.ownBlock ∨ v5.ownBlock = some w1.heap.size) : InL (KB H v5 w5) w5 L := inL_iff.2 fun t ht =>
  (inL_iff.1 h t ht).keep (fun k hk => ⟨hk.1, Nat.lt_of_lt_of_le hk.2.1 hg.size, fun e => by
    rcases hat with e2 | e2
    · exact hk.2.2 (e2 ▸ e)
    · rw [e2] at e
      have := Option.some.inj e
      have := hk.2.1
      omega⟩) (fun p hk => World.cell?_of_block (hg.block p.block hk.2.1 (fun e => hk.2.2 e.symm)))
theorem new_kb {H : Nat} {v : Value} {w0 w : World} {t : Tr} (h : t.In (NewB w0 w) w) (hH : H ≤ w0.heap.size) (hv : ∀ k, v.ownBlock = some k → k < w0.heap.size) : t.In (KB H v w) w :=
  h.keep (fun k hk => ⟨Nat.le_trans hH hk.1, hk.2, fun e => by have := hv k e; have := hk.1; omega⟩) (fun _ _ => rfl)
def ElPost (b : Nat) (R : XR PT) (w : World) (e : Ending) (w' : World) : Prop := match R with
  | .ok t r => (∃ T : Tr, e = .returned T.v ∧ T.pl = t ∧ T.In (NewB w w') w' ∧ T.Caps) ∧ Mv b r w w'
  | .bad => e = GU 61 ∧ ∃ l', Mv b l' w w'
  | .nest => e = GU 15 ∧ ∃ l', Mv b l' w w'
def ElR (b f : Nat) : Prop := ∀ (o : Nat) (l : List UInt8) (w : World), At w b l → l.length ≤ 100000 → validX l = true → Env w → 5 ≤ b → o ≤ 63 → 2 * l.length + 1 ≤ f → Calls Tryz.prog 31 #[.pointer (some ⟨b, 0, none⟩), .int .i64 (o : Int)] w (ElPost b (elemGo f o l) w)
def KiPost (b : Nat) (R : XR (List PT)) (w : World) (e : Ending) (w' : World) : Prop := match R with
  | .ok ts r => (∃ (L : List Tr) (A : Option Addr) (c : Nat), plL L = ts ∧ e = .returned (.slice A L.length c) ∧ w'.ownsRow w.heap.size 27 5 (.slice A L.length c) L.length (rowT L) ∧ InL (KB w.heap.size (.slice A L.length c) w') w' L ∧ CapsL L) ∧ Mv b r w w'
  | .bad => e = GU 61 ∧ ∃ l', Mv b l' w w'
  | .nest => e = GU 15 ∧ ∃ l', Mv b l' w w'
theorem kS_len (a : List UInt8) : (kS a).length ≤ 1 := by unfold kS; split <;> simp
theorem caps_app {a c : List Tr} (ha : CapsL a) (hc : ∀ t ∈ c, t.Caps) : CapsL (a ++ c) := by
  induction c generalizing a with
  | nil => rw [List.append_nil]; exact ha
  | cons t c ih =>
    rw [← List.singleton_append, ← List.append_assoc]
    exact ih (capsL_snoc ha (hc t (.head _))) fun x hx => hc x (.tail _ hx)
def kidsK (f o : Nat) : Option (List UInt8 × List UInt8) → XR (List PT)
  | none => .bad
  | some (a, r) => kidsGo f o r (textK a)
theorem rowT_app (a c : List Tr) : rowT (a ++ c) = rowT a ++ rowT c := by unfold rowT; exact List.flatMap_append
theorem leaf_caps (k : Int) (n v : List UInt8) : (Tr.mk k n v none 0 [] none 0 []).Caps := by
  rw [Tr.Caps]
  simp [CapsL, maxLen]
theorem content_go (b f0 : Nat) (HEl : ∀ f, f < f0 → ElR b f) (o : Nat) (ho : o ≤ 63) (l0 : List UInt8) (w : World) (h : At w b l0) (hl : l0.length ≤ 100000) (hv : validX l0 = true) (hE : Env w) (hb5 : 5 ≤ b) (hf0 : 2 * l0.length + 2 ≤ f0) (T : Option (List UInt8 × List UInt8)) (hT : textGo (l0.length + 1) l0 [] = T) (R : XR (List PT)) (hR : kidsK f0 o T = R) : Calls Tryz.prog 52 #[.pointer (some ⟨b, 0, none⟩), .int .i64 (o : Int)] w (KiPost b R w) := by
  have HE := Lib.hid hE
  have HR := Lib.hid hR
  have HEL := Lib.hid HEl
  have HV0 := Lib.hid hv
  have HT := Lib.hid hT
  have hz := h.2.2
  obtain ⟨i5, hi5, hz50, hz51, hz52⟩ := info_parts tree_info
  have HTX := Lib.hid (text_go b l0 w h hl hv hE hb5 T hT)
  have HAH : Hid (∀ (l : List UInt8) (W : World), At W b l → Calls Tryz.prog 72 #[.pointer (some ⟨b, 0, none⟩), .string ⟨#[60, 47]⟩] W fun e w' => e = .returned (.bool (Lib.hasPrefix l [60, 47])) ∧ w' = W) := Lib.hid fun l W hW => ahead_any b l [60, 47] W hW
  have HTQ : Hid (∀ (l : List UInt8) (W : World), At W b l → Calls Tryz.prog 47 #[.pointer (some ⟨b, 0, none⟩), .string ⟨#[60, 33, 45, 45]⟩] W (TkPost b cmB l W)) := Lib.hid fun l W hW => take_any b l cmB W hW
  clear h hE hR hv HEl hT
  go_enter Tryz.func52, Tryz.ntmps52
  go_wp2_with fail
  refine HTX.out.mono ?_
  intro e w1 htx
  unfold TxPost at htx
  cases T with
  | none =>
    obtain ⟨rfl, l', hm⟩ := htx
    have HN : Hid (R = .bad) := Lib.hid HR.out.symm
    have HM1 := Lib.hid hm
    clear hm HR HTX
    go_wp2
    rw [HN.out]
    exact ⟨rfl, rfl, _, HM1.out⟩
  | some x =>
    obtain ⟨a, r0⟩ := x
    obtain ⟨⟨A0, c0, rfl, hox⟩, hm⟩ := htx
    obtain ⟨hvr0, hlr0⟩ := textGo_valid _ _ _ _ _ HV0.out HT.out
    have HVR0 := Lib.hid hvr0
    have HN0 : Hid (kidsGo f0 o r0 (plL ((kS a).map txT)) = R) := Lib.hid (by rw [plL_tx, ← textK_S]; exact HR.out)
    have HM1 := Lib.hid hm
    have hk0 := kS_len a
    obtain ⟨V0, hV0⟩ : ∃ V0, kS a = V0 := ⟨_, rfl⟩
    rw [hV0] at hk0 HN0 hox
    obtain ⟨k0, hkk⟩ : ∃ k0, V0.length = k0 := ⟨_, rfl⟩
    have HK0 : Hid ((V0.map txT).length = k0) := Lib.hid (by rw [List.length_map]; exact hkk)
    rw [hkk] at hk0 hox
    rw [rowX_T] at hox
    rw [hV0, hkk]
    have HOX := Lib.hid hox
    have HI0 : Hid (InL (KB w.heap.size (.slice A0 k0 c0) w1) w1 (V0.map txT)) := Lib.hid (inl_tx _ _ _)
    have HC0 : Hid (CapsL (V0.map txT)) := Lib.hid (by
      have h := caps_app (a := []) (c := V0.map txT) trivial fun t ht => by obtain ⟨v, _, rfl⟩ := List.mem_map.1 ht; exact leaf_caps 4 [] v
      rw [List.nil_append] at h
      exact h)
    clear hm hox hvr0 hV0 hkk HR HTX HT
    go_wp2
    go_loopw [5] (fun s5 wx => ∃ (l : List UInt8) (L : List Tr) (f m : Nat) (A : Option Addr) (c : Nat), s5 = .slice A m c ∧ 2 * l.length + 2 ≤ f ∧ f ≤ f0 ∧ m + 2 * l.length ≤ 2 * l0.length + 1 ∧ Hid (L.length = m) ∧ Hid (validX l = true) ∧ Hid (kidsGo f o l (plL L) = R) ∧ Hid (Mv b l w wx) ∧ Hid (wx.ownsRow w.heap.size 27 5 (.slice A m c) m (rowT L)) ∧ Hid (InL (KB w.heap.size (.slice A m c) wx) wx L) ∧ Hid (CapsL L)) (fun _ wx => leftLen b wx)
    case atStart => exact ⟨r0, V0.map txT, f0, k0, A0, c0, rfl, by omega, by omega, by omega, HK0, HVR0, HN0, HM1, HOX, HI0, HC0⟩
    case round =>
      obtain ⟨l, L, f, m, A, c, rfl, hf, hff, hml, HLM, HV, HF, HM, HO, HI, HC⟩ := hrel
      obtain ⟨f, rfl⟩ : ∃ f', f = f' + 1 := ⟨f - 1, by omega⟩
      have HAT := Lib.hid HM.out.here
      have HLL := Lib.hid (leftLen_at HAT.out)
      have hst := HF.out
      unfold kidsGo at hst
      have HST := Lib.hid hst
      have hgz := HM.out.grow
      clear hst HF HN0 HM1 HOX HI0 HC0 HK0 HVR0 HV0
      go_wp2_with fail
      refine (HAH.out l _ HAT.out).mono ?_
      rintro e w2 ⟨rfl, rfl⟩
      cases hpre : Lib.hasPrefix l [60, 47] with
      | true =>
        have HN : Hid (R = .ok (plL L) l) := Lib.hid (by have h := HST.out; rw [if_pos hpre] at h; exact h.symm)
        clear HST hpre
        go_wp2
        go_ret
        rw [HN.out]
        exact ⟨⟨L, A, c, rfl, by rw [HLM.out]; rfl, by rw [HLM.out]; exact HO.out, by rw [HLM.out]; exact HI.out, HC.out⟩, HM.out⟩
      | false =>
        have hst := HST.out
        rw [hpre, if_neg (by simp)] at hst
        have HST2 := Lib.hid hst
        clear HST hst hpre
        go_wp2_with fail
        refine (HTQ.out l _ HAT.out).mono ?_
        intro e w3 hk
        unfold TkPost at hk
        cases hsq : stripX cmB l with
        | some r =>
          rw [hsq] at hk
          obtain ⟨rfl, hm⟩ := hk
          obtain ⟨hvr, hlr⟩ := strip_valid (by decide) HV.out hsq
          have hlen : cmB.length = 4 := by rfl
          rw [hlen] at hlr
          have hst := HST2.out
          rw [show ([60, 33, 45, 45] : List UInt8) = cmB from rfl, hsq] at hst
          simp only at hst
          have HST3 := Lib.hid hst
          have HVR := Lib.hid hvr
          have HM3 := Lib.hid (HM.out.trans hm)
          have HO3 := Lib.hid (hm.own HO.out hz)
          have HI3 := Lib.hid (inl_mv HI.out hm hz)
          have z3 : w.heap.size ≤ w3.heap.size := Nat.le_trans hgz hm.grow
          have HCM : Hid (Calls Tryz.prog 48 #[.pointer (some ⟨b, 0, none⟩)] w3 (CmPost b r w3)) := Lib.hid (by
            obtain ⟨_, ⟨v, hv⟩, _⟩ := HE.out.mv HM3.out hb5
            exact comment_any b r w3 hm.here (by omega) v hv (by omega))
          clear hm hst hsq HST2 HM HO HI HAT hlen hvr
          go_wp2_with fail
          refine HCM.out.mono ?_
          intro e w5 hrf
          unfold CmPost at hrf
          cases hcf : commentL r with
          | none =>
            rw [hcf] at hrf
            obtain ⟨rfl, l', hm⟩ := hrf
            have HN : Hid (R = .bad) := Lib.hid (by have h := HST3.out; rw [hcf] at h; exact h.symm)
            have HM5 := Lib.hid (HM3.out.trans hm)
            clear hm HST3 hcf
            go_wp2
            rw [HN.out]
            exact ⟨rfl, rfl, _, HM5.out⟩
          | some x =>
            obtain ⟨u, rest⟩ := x
            rw [hcf] at hrf
            obtain ⟨he, hm⟩ := hrf
            unfold TreeV at he
            subst he
            have hst := HST3.out
            rw [hcf] at hst
            simp only at hst
            have HSTF := Lib.hid hst
            have cl := comment_len hcf
            have HVT := Lib.hid (comment_valid HVR.out hcf)
            have HM5 := Lib.hid (HM3.out.trans hm)
            have HO5 := Lib.hid (hm.own HO3.out hz)
            have HI5 := Lib.hid (inl_mv HI3.out hm hz)
            have z5 : w.heap.size ≤ w5.heap.size := Nat.le_trans z3 hm.grow
            clear hm hst HST3 hcf HM3 HO3 HI3 HCM
            have HI5b : Hid (InL (KB w.heap.size (.slice A m c) w5) w5 (L ++ [cmT u])) := Lib.hid (inl_app HI5.out (inL_iff.2 fun x hx => by
              obtain rfl : x = cmT u := by simpa using hx
              exact leaf_in _ _ 5 [] u))
            go_wp2_with (first
              | (at_builtin
                 refine wpList_append_any _ rfl (.tmp 13) (.tmp 16) _ rfl w.heap.size 27 i5 _ 5 88 Tryz.underlying25 hi5 hz50 hz51 hz52 rfl (by omega) (.slice A m c) m (rowT L) rfl (own_below HO5.out (ba (Below.refl _ _))) (w5.heap.size + 1) (some ⟨w5.heap.size, 0, none⟩) 1 1 (cmC u) rfl ⟨rfl, fun _ => ⟨_, rfl, by simp, five_at _ _ (by simp) _ _ _ _ _ _⟩⟩ (cmC_one u) (by simp only [maxLen]; omega) (by omega) (by simp; omega) ?_
                 intro v9 w9 hown9 hg9 hat9
                 obtain ⟨A9, c9, rfl⟩ := own_slice hown9
                 have HO9 := Lib.hid hown9
                 have HG9 := Lib.hid hg9
                 have HT9 := Lib.hid hat9
                 clear hown9 hg9 hat9)
              | fail)
            have HGR : Hid (∀ k, (Value.slice A m c).ownBlock = some k → w.heap.size ≤ k) := Lib.hid fun k hk => (own_lt HO5.out hk).1
            have HM9 : Hid (Mv b rest w w9) := Lib.hid ((HM5.out.below (ba (Below.refl _ _))).grown HG9.out (fun k hk => by have := HGR.out k hk; omega))
            have HI9 : Hid (InL (KB w.heap.size (.slice A9 (m + 1) c9) w9) w9 (L ++ [cmT u])) := Lib.hid (inl_grown (v := .slice A m c) (inl_mv HI5b.out (Mv.of_below HM5.out.here (ba (Below.refl _ _))) hz) HG9.out HT9.out)
            have HO9' : Hid (w9.ownsRow w.heap.size 27 5 (.slice A9 (m + 1) c9) (m + 1) (rowT (L ++ [cmT u]))) := Lib.hid (by rw [rowT_snoc]; exact HO9.out)
            have z9 : w.heap.size ≤ w9.heap.size := HM9.out.grow
            have HLS : Hid ((L ++ [cmT u]).length = m + 1) := Lib.hid (by rw [List.length_append, HLM.out]; rfl)
            clear HG9 HT9 HGR HO9
            obtain ⟨T2, hT2⟩ : ∃ T2, textGo (rest.length + 1) rest [] = T2 := ⟨_, rfl⟩
            have HTL : Hid (textL rest = T2.map fun x => (textK x.1, x.2)) := Lib.hid (by unfold textL; rw [hT2])
            have HTX := Lib.hid (text_go b rest w9 HM9.out.here (by omega) HVT.out (HE.out.mv HM9.out hb5) hb5 T2 hT2)
            have HT2 := Lib.hid hT2
            clear hT2
            go_wp2_with fail
            refine HTX.out.mono ?_
            intro e w10 htx
            unfold TxPost at htx
            cases T2 with
            | none =>
              obtain ⟨rfl, l', hm⟩ := htx
              have HN : Hid (R = .bad) := Lib.hid (by have h := HSTF.out; rw [HTL.out] at h; exact h.symm)
              have HM10 := Lib.hid (HM9.out.trans hm)
              clear hm HSTF HTL HTX HT2
              go_wp2
              rw [HN.out]
              exact ⟨rfl, rfl, _, HM10.out⟩
            | some x =>
              obtain ⟨a2, r2⟩ := x
              obtain ⟨⟨AX, cX, rfl, hox⟩, hm⟩ := htx
              obtain ⟨c1, c2⟩ := textGo_valid _ _ _ _ _ HVT.out HT2.out
              have HVS := Lib.hid c1
              have hst := HSTF.out
              rw [HTL.out] at hst
              simp only [Option.map] at hst
              have HN : Hid (kidsGo f o r2 (plL (L ++ [cmT u] ++ (kS a2).map txT)) = R) := Lib.hid (by rw [plL_app, plL_app, plL_tx, ← textK_S]; exact hst)
              have hk1 := kS_len a2
              have HKL : Hid (((kS a2).map txT).length = (kS a2).length) := Lib.hid (by rw [List.length_map])
              have HM10 := Lib.hid (HM9.out.trans hm)
              have HO10 := Lib.hid (hm.own HO9'.out hz)
              have HI10 := Lib.hid (inl_mv HI9.out hm hz)
              obtain ⟨V2, hV2⟩ : ∃ V2, kS a2 = V2 := ⟨_, rfl⟩
              rw [hV2] at hk1 HKL HN hox
              obtain ⟨k2, hk2⟩ : ∃ k2, V2.length = k2 := ⟨_, rfl⟩
              rw [hk2] at hk1 HKL hox
              have HOX := Lib.hid hox
              have z10 : w.heap.size ≤ w10.heap.size := Nat.le_trans z9 hm.grow
              rw [hV2, hk2]
              clear hst hm hox HSTF HTL HTX HT2 c1 hV2 hk2 HM9 HO9' HI9
              go_wp2_with (first
                | (at_builtin
                   refine wpList_append_any _ rfl (.tmp 24) (.tmp 26) _ rfl w.heap.size 27 i5 _ 5 88 Tryz.underlying25 hi5 hz50 hz51 hz52 rfl (by omega) (.slice A9 (m + 1) c9) (m + 1) (rowT (L ++ [cmT u])) rfl HO10.out w10.heap.size AX k2 cX (rowX V2) rfl (reads_own HOX.out) (by intro u hu; unfold rowX at hu; obtain ⟨y, _, hy⟩ := List.mem_flatMap.1 hu; exact txC_one y u hy) (by simp only [maxLen]; omega) (by omega) (by omega) ?_
                   intro v11 w11 hown11 hg11 hat11
                   obtain ⟨A11, c11, rfl⟩ := own_slice hown11
                   have HO11 := Lib.hid hown11
                   have HG11 := Lib.hid hg11
                   have HT11 := Lib.hid hat11
                   clear hown11 hg11 hat11)
                | fail)
              have HGR : Hid (∀ k, (Value.slice A9 (m + 1) c9).ownBlock = some k → w.heap.size ≤ k) := Lib.hid fun k hk => (own_lt HO10.out hk).1
              have HM11 : Hid (Mv b r2 w w11) := Lib.hid (HM10.out.grown HG11.out (fun k hk => by have := HGR.out k hk; omega))
              have HI11 : Hid (InL (KB w.heap.size (.slice A11 (m + 1 + k2) c11) w11) w11 (L ++ [cmT u] ++ V2.map txT)) := Lib.hid (inl_app (inl_grown HI10.out HG11.out HT11.out) (inl_tx _ _ _))
              have HL11 := Lib.hid (leftLen_at HM11.out.here)
              go_roundw
              case rel => exact ⟨r2, L ++ [cmT u] ++ V2.map txT, f, m + 1 + k2, A11, c11, rfl, by omega, by omega, by omega, Lib.hid (by rw [List.length_append, HLS.out, HKL.out]), HVS, HN, HM11, Lib.hid (by have h := HO11.out; rw [rowX_T, ← rowT_app] at h; exact h), HI11, Lib.hid (caps_app (capsL_snoc HC.out (leaf_caps 5 [] u)) fun t ht => by obtain ⟨v, _, rfl⟩ := List.mem_map.1 ht; exact leaf_caps 4 [] v)⟩
              case measure => rw [HL11.out, HLL.out]; omega
        | none =>
          rw [hsq] at hk
          obtain ⟨rfl, hm⟩ := hk
          have hst := HST2.out
          rw [show ([60, 33, 45, 45] : List UInt8) = cmB from rfl, hsq] at hst
          simp only at hst
          have HST3 := Lib.hid hst
          have HM3 := Lib.hid (HM.out.trans hm)
          have HO3 := Lib.hid (hm.own HO.out hz)
          have HI3 := Lib.hid (inl_mv HI.out hm hz)
          have z3 : w.heap.size ≤ w3.heap.size := Nat.le_trans hgz hm.grow
          have HRL := Lib.hid (HEL.out f (by omega) o l w3 hm.here (by omega) HV.out (HE.out.mv HM3.out hb5) hb5 ho (by omega))
          clear hm hst hsq HST2 HM HO HI HAT
          go_wp2_with fail
          refine HRL.out.mono ?_
          intro e w5 hrf
          unfold ElPost at hrf
          cases hcf : elemGo f o l with
          | bad =>
            rw [hcf] at hrf
            obtain ⟨rfl, l', hm⟩ := hrf
            have HN : Hid (R = .bad) := Lib.hid (by have h := HST3.out; rw [hcf] at h; exact h.symm)
            have HM5 := Lib.hid (HM3.out.trans hm)
            clear hm HST3 hcf
            go_wp2
            rw [HN.out]
            exact ⟨rfl, rfl, _, HM5.out⟩
          | nest =>
            rw [hcf] at hrf
            obtain ⟨rfl, l', hm⟩ := hrf
            have HN : Hid (R = .nest) := Lib.hid (by have h := HST3.out; rw [hcf] at h; exact h.symm)
            have HM5 := Lib.hid (HM3.out.trans hm)
            clear hm HST3 hcf
            go_wp2
            rw [HN.out]
            exact ⟨rfl, rfl, _, HM5.out⟩
          | ok t rest =>
            rw [hcf] at hrf
            obtain ⟨⟨t2, he, hpl, hin, hcp⟩, hm⟩ := hrf
            have hst := HST3.out
            rw [hcf] at hst
            simp only at hst
            rw [← hpl] at hst
            obtain ⟨e1, e2⟩ := (ek_valid f).1 o l t rest HV.out hcf
            have HVT := Lib.hid e1
            have HM5 := Lib.hid (HM3.out.trans hm)
            have HO5 := Lib.hid (hm.own HO3.out hz)
            have HI5 := Lib.hid (inl_app (c := [t2]) (inl_mv HI3.out hm hz) (inL_iff.2 fun x hx => by
              obtain rfl : x = t2 := by simpa using hx
              exact new_kb hin z3 fun k hk => (own_lt HO3.out hk).2))
            have HCE := Lib.hid (cells_one t2)
            have HCP := Lib.hid hcp
            have z5 : w.heap.size ≤ w5.heap.size := Nat.le_trans z3 hm.grow
            obtain ⟨q1, q2, q3, q4, q5, q6, q7, q8, q9⟩ := t2
            unfold Tr.v at he
            subst he
            have HSTF := Lib.hid hst
            clear hm hst HST3 hcf HM3 HO3 HI3 HRL e1 hpl hin hcp
            go_wp2_with (first
              | (at_builtin
                 refine wpList_append_any _ rfl (.tmp 18) (.tmp 22) _ rfl w.heap.size 27 i5 _ 5 88 Tryz.underlying25 hi5 hz50 hz51 hz52 rfl (by omega) (.slice A m c) m (rowT L) rfl (own_below HO5.out (ba (Below.refl _ _))) (w5.heap.size + 1) (some ⟨w5.heap.size, 0, none⟩) 1 1 (Tr.cells (Tr.mk q1 q2 q3 q4 q5 q6 q7 q8 q9)) rfl ⟨rfl, fun _ => ⟨_, rfl, by simp, five_at _ _ (by simp) _ _ _ _ _ _⟩⟩ HCE.out (by simp only [maxLen]; omega) (by omega) (by simp; omega) ?_
                 intro v9 w9 hown9 hg9 hat9
                 obtain ⟨A9, c9, rfl⟩ := own_slice hown9
                 have HO9 := Lib.hid hown9
                 have HG9 := Lib.hid hg9
                 have HT9 := Lib.hid hat9
                 clear hown9 hg9 hat9)
              | fail)
            have HGR : Hid (∀ k, (Value.slice A m c).ownBlock = some k → w.heap.size ≤ k) := Lib.hid fun k hk => (own_lt HO5.out hk).1
            have HM9 : Hid (Mv b rest w w9) := Lib.hid ((HM5.out.below (ba (Below.refl _ _))).grown HG9.out (fun k hk => by have := HGR.out k hk; omega))
            have HI9 : Hid (InL (KB w.heap.size (.slice A9 (m + 1) c9) w9) w9 (L ++ [(Tr.mk q1 q2 q3 q4 q5 q6 q7 q8 q9)])) := Lib.hid (inl_grown (v := .slice A m c) (inl_mv HI5.out (Mv.of_below HM5.out.here (ba (Below.refl _ _))) hz) HG9.out HT9.out)
            have HO9' : Hid (w9.ownsRow w.heap.size 27 5 (.slice A9 (m + 1) c9) (m + 1) (rowT (L ++ [(Tr.mk q1 q2 q3 q4 q5 q6 q7 q8 q9)]))) := Lib.hid (by rw [rowT_snoc]; exact HO9.out)
            have z9 : w.heap.size ≤ w9.heap.size := HM9.out.grow
            have HLS : Hid ((L ++ [(Tr.mk q1 q2 q3 q4 q5 q6 q7 q8 q9)]).length = m + 1) := Lib.hid (by rw [List.length_append, HLM.out]; rfl)
            clear HG9 HT9 HGR HO9
            obtain ⟨T2, hT2⟩ : ∃ T2, textGo (rest.length + 1) rest [] = T2 := ⟨_, rfl⟩
            have HTL : Hid (textL rest = T2.map fun x => (textK x.1, x.2)) := Lib.hid (by unfold textL; rw [hT2])
            have HTX := Lib.hid (text_go b rest w9 HM9.out.here (by omega) HVT.out (HE.out.mv HM9.out hb5) hb5 T2 hT2)
            have HT2 := Lib.hid hT2
            clear hT2
            go_wp2_with fail
            refine HTX.out.mono ?_
            intro e w10 htx
            unfold TxPost at htx
            cases T2 with
            | none =>
              obtain ⟨rfl, l', hm⟩ := htx
              have HN : Hid (R = .bad) := Lib.hid (by have h := HSTF.out; rw [HTL.out] at h; exact h.symm)
              have HM10 := Lib.hid (HM9.out.trans hm)
              clear hm HSTF HTL HTX HT2
              go_wp2
              rw [HN.out]
              exact ⟨rfl, rfl, _, HM10.out⟩
            | some x =>
              obtain ⟨a2, r2⟩ := x
              obtain ⟨⟨AX, cX, rfl, hox⟩, hm⟩ := htx
              obtain ⟨c1, c2⟩ := textGo_valid _ _ _ _ _ HVT.out HT2.out
              have HVS := Lib.hid c1
              have hst := HSTF.out
              rw [HTL.out] at hst
              simp only [Option.map] at hst
              have HN : Hid (kidsGo f o r2 (plL (L ++ [(Tr.mk q1 q2 q3 q4 q5 q6 q7 q8 q9)] ++ (kS a2).map txT)) = R) := Lib.hid (by rw [plL_app, plL_app, plL_tx, ← textK_S]; exact hst)
              have hk1 := kS_len a2
              have HKL : Hid (((kS a2).map txT).length = (kS a2).length) := Lib.hid (by rw [List.length_map])
              have HM10 := Lib.hid (HM9.out.trans hm)
              have HO10 := Lib.hid (hm.own HO9'.out hz)
              have HI10 := Lib.hid (inl_mv HI9.out hm hz)
              obtain ⟨V2, hV2⟩ : ∃ V2, kS a2 = V2 := ⟨_, rfl⟩
              rw [hV2] at hk1 HKL HN hox
              obtain ⟨k2, hk2⟩ : ∃ k2, V2.length = k2 := ⟨_, rfl⟩
              rw [hk2] at hk1 HKL hox
              have HOX := Lib.hid hox
              have z10 : w.heap.size ≤ w10.heap.size := Nat.le_trans z9 hm.grow
              rw [hV2, hk2]
              clear hst hm hox HSTF HTL HTX HT2 c1 hV2 hk2 HM9 HO9' HI9
              go_wp2_with (first
                | (at_builtin
                   refine wpList_append_any _ rfl (.tmp 24) (.tmp 26) _ rfl w.heap.size 27 i5 _ 5 88 Tryz.underlying25 hi5 hz50 hz51 hz52 rfl (by omega) (.slice A9 (m + 1) c9) (m + 1) (rowT (L ++ [(Tr.mk q1 q2 q3 q4 q5 q6 q7 q8 q9)])) rfl HO10.out w10.heap.size AX k2 cX (rowX V2) rfl (reads_own HOX.out) (by intro u hu; unfold rowX at hu; obtain ⟨y, _, hy⟩ := List.mem_flatMap.1 hu; exact txC_one y u hy) (by simp only [maxLen]; omega) (by omega) (by omega) ?_
                   intro v11 w11 hown11 hg11 hat11
                   obtain ⟨A11, c11, rfl⟩ := own_slice hown11
                   have HO11 := Lib.hid hown11
                   have HG11 := Lib.hid hg11
                   have HT11 := Lib.hid hat11
                   clear hown11 hg11 hat11)
                | fail)
              have HGR : Hid (∀ k, (Value.slice A9 (m + 1) c9).ownBlock = some k → w.heap.size ≤ k) := Lib.hid fun k hk => (own_lt HO10.out hk).1
              have HM11 : Hid (Mv b r2 w w11) := Lib.hid (HM10.out.grown HG11.out (fun k hk => by have := HGR.out k hk; omega))
              have HI11 : Hid (InL (KB w.heap.size (.slice A11 (m + 1 + k2) c11) w11) w11 (L ++ [(Tr.mk q1 q2 q3 q4 q5 q6 q7 q8 q9)] ++ V2.map txT)) := Lib.hid (inl_app (inl_grown HI10.out HG11.out HT11.out) (inl_tx _ _ _))
              have HL11 := Lib.hid (leftLen_at HM11.out.here)
              go_roundw
              case rel => exact ⟨r2, L ++ [(Tr.mk q1 q2 q3 q4 q5 q6 q7 q8 q9)] ++ V2.map txT, f, m + 1 + k2, A11, c11, rfl, by omega, by omega, by omega, Lib.hid (by rw [List.length_append, HLS.out, HKL.out]), HVS, HN, HM11, Lib.hid (by have h := HO11.out; rw [rowX_T, ← rowT_app] at h; exact h), HI11, Lib.hid (caps_app (capsL_snoc HC.out HCP.out) fun t ht => by obtain ⟨v, _, rfl⟩ := List.mem_map.1 ht; exact leaf_caps 4 [] v)⟩
              case measure => rw [HL11.out, HLL.out]; omega
end Go.Proofs.YtpdaldpaceolnaaGreatDoor
