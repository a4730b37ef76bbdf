/- The reference counts the nodes of trees, copies them, and tells whether they stayed. No condition beyond what the theorems state. -/
import Derived.Test.YtnkodafhjcjpjaaDoorTrees
import Derived.Deep.DeepMust
import Derived.Deep.RegionWith
namespace Go.Proofs.YtnkodafhjcjpjaaDoor
open Go.RowKit Go.Lib
set_option maxRecDepth 100000
set_option maxHeartbeats 4000000
theorem parts_any : ∀ (t : Tr) (P : Nat → Prop) (w : World) (left : Int), t.In P w → (∀ b, P b → b < w.heap.size) → t.pl.lens → 0 ≤ left → left ≤ 1099511627776 →
    Calls Tryd.prog 24 #[t.v, .int .i64 left] w fun e w' => e = .returned (.int .i64 (t.pl.parts left)) ∧ Below w.heap.size w w' := by
  intro t
  induction t using Tr.ind with
  | h k n v A ac ps K kc ks ih =>
    intro P w left hin hP hb h0 h1
    have hF := lens_fields hb
    have hkid : ∀ t ∈ ks, t.pl.lens := lens_kid hb
    have hps : ps.length ≤ 9223372036854775807 := hF.1
    have hks : ks.length ≤ 9223372036854775807 := hF.2
    rw [Tr.In] at hin
    obtain ⟨_, hK, hL⟩ := hin
    have HK := Lib.hid hK; have HL := Lib.hid hL; have HP := Lib.hid hP; have IH := Lib.hid ih; have HB := Lib.hid hkid
    rw [Tr.pl, PT.parts]
    obtain ⟨res, hres⟩ : ∃ res, partsL (plL ks) (left - 1 - (ps.length : Int)) = res := ⟨_, rfl⟩
    rw [hres]
    have HR := Lib.hid hres
    obtain ⟨np, hnp⟩ : ∃ np, ps.length = np := ⟨_, rfl⟩
    obtain ⟨nk, hnk⟩ : ∃ nk, ks.length = nk := ⟨_, rfl⟩
    have HNK := Lib.hid hnk
    have HNP := Lib.hid hnp
    rw [hnp] at hps
    rw [hnk] at hks
    show Calls Tryd.prog 24 #[.agg #[.int .i64 k, .string (ba' n), .string (ba' v), .slice A ps.length ac, .slice K ks.length kc], .int .i64 left] w _
    rw [hnp, hnk]
    clear hK hL hP ih hkid hres hnp hnk hF hb
    go_enter Tryd.func24, Tryd.ntmps24
    go_wp2
    go_loopw [1, 5] (fun s1 s5 wx => ∃ (i : Nat) (l : Int), s5 = .int .i64 i ∧ s1 = .int .i64 l ∧ i ≤ nk ∧ -9223372036854775808 ≤ l ∧ l ≤ 1099511627776 ∧ Hid (partsL ((plL ks).drop i) l = res) ∧ wx.cell? ⟨w.heap.size, 4, none⟩ = some (.slice K nk kc) ∧ w.heap.size < wx.heap.size ∧ Below w.heap.size w wx) (fun _ s5 _ => nk - (intOf s5).toNat)
    case atStart => 
      exact ⟨0, left - 1 - (np : Int), rfl, by go_num, by omega, by omega, by omega, Lib.hid (by rw [← HR.out, ← HNP.out]; rfl), by simp, by simp, ba (Below.refl _ _)⟩
    case round =>
      obtain ⟨i, l, rfl, rfl, hi, hl0, hl1, hrel, hc4, hsz, hBW⟩ := hrel
      have hbox : ∀ o, w.heap.size < wr.heap.size → o < 5 → True := fun _ _ _ => trivial
      clear hbox
      by_cases hlt : i < nk
      · by_cases hl : 0 ≤ l
        · have g0 : decide ((i : Int) < (nk : Int)) = true := by first | (simp; done) | (simp; omega)
          have g1 : decide (0 ≤ l) = true := by simpa using hl
          have g2 : decide (l ≥ 0) = true := by simpa using hl
          have hil : i < ks.length := by rw [HNK.out]; exact hlt
          obtain ⟨t, ht⟩ : ∃ t, ks[i]? = some t := ⟨_, List.getElem?_eq_getElem hil⟩
          have htm := List.mem_of_getElem? ht
          have hin' := (inL_iff.1 HL.out t htm).below HP.out hBW
          have hc := fun P w l => IH.out t htm P w l
          have hbk := HB.out t htm
          have hst : partsL ((plL ks).drop i) l = partsL ((plL ks).drop (i + 1)) (t.pl.parts l) := by rw [drop_at (plL_at ht), partsL, if_neg (by omega)]
          have hge := parts_low t.pl l hbk hl
          have hle := parts_le t.pl l
          obtain ⟨k', n', v', A', ac', ps', K', kc', ks'⟩ := t
          have hka := HK.out.below HP.out hBW
          rw [HNK.out] at hka
          obtain ⟨ad, rfl, hPad, d0, d1, d2, d3, d4⟩ := kid_at hka ht hlt
          have hb0 : (ad.add (i * 5)).block < wr.heap.size := by rw [block_of_add]; exact Nat.lt_of_lt_of_le (HP.out _ hPad) hBW.size
          have HC := Lib.hid (fun w1 hb1 => hc P w1 l (hin'.below (fun b hb => Nat.lt_of_lt_of_le (HP.out b hb) hBW.size) hb1) (fun b hb => Nat.lt_of_lt_of_le (Nat.lt_of_lt_of_le (HP.out b hb) hBW.size) hb1.size) hbk hl hl1)
          obtain ⟨l2, hl2⟩ : ∃ l2, (Tr.mk k' n' v' A' ac' ps' K' kc' ks').pl.parts l = l2 := ⟨_, rfl⟩
          rw [hl2] at HC hst hge hle
          have HS := Lib.hid (hst.symm.trans hrel.out)
          obtain ⟨np', hnp'⟩ : ∃ q, ps'.length = q := ⟨_, rfl⟩
          obtain ⟨nk', hnk'⟩ : ∃ q, ks'.length = q := ⟨_, rfl⟩
          simp only [Tr.v] at HC
          rw [hnp', hnk'] at HC
          rw [hnp'] at d3
          rw [hnk'] at d4
          clear hst hrel hc hin' hka hl2 ht htm hil hnp' hnk'
          go_wp2_with (go_at_call 24; go_must (refine (HC.out _ (Below.refl _ _)).mono ?_); rintro e w1 ⟨rfl, hb1⟩; have hc1 := fun o => (bcell hb1).1 w.heap.size o (by first | (simp; done) | assumption | (simp; omega)))
          go_roundw
          case rel => exact ⟨i + 1, l2, by go_num, rfl, by omega, by omega, by omega, HS, by simp [*], Nat.lt_of_lt_of_le hsz hb1.size, by repeat (with_reducible (first | exact Below.refl _ _ | assumption | apply ba | apply bd | apply bdr | (refine bs ?_ (by first | assumption | (simp; done) | (simp; omega))) | (refine bt ?_ (by assumption))))⟩
          case measure => simp [intOf]; omega
        · have g0 : decide ((i : Int) < (nk : Int)) = true := by first | (simp; done) | (simp; omega)
          have g1 : decide (0 ≤ l) = false := by simpa using hl
          have g2 : decide (l ≥ 0) = false := by simpa using hl
          have hr : l = res := by rw [← hrel.out, partsL_neg _ (by omega)]
          subst hr
          go_wp2
          go_ret
          exact ⟨rfl, by repeat (with_reducible (first | exact Below.refl _ _ | assumption | apply ba | apply bd | apply bdr | (refine bs ?_ (by first | assumption | (simp; done) | (simp; omega))) | (refine bt ?_ (by assumption))))⟩
      · obtain rfl : i = nk := by omega
        have g0 : decide (((i : Nat) : Int) < ((i : Nat) : Int)) = false := by simp
        have hr : l = res := by
          have := hrel.out
          rw [List.drop_eq_nil_of_le (by rw [plL_len, HNK.out]; exact Nat.le_refl _), partsL] at this
          exact this
        subst hr
        go_wp2
        go_ret
        exact ⟨rfl, by repeat (with_reducible (first | exact Below.refl _ _ | assumption | apply ba | apply bd | apply bdr | (refine bs ?_ (by first | assumption | (simp; done) | (simp; omega))) | (refine bt ?_ (by assumption))))⟩
end Go.Proofs.YtnkodafhjcjpjaaDoor
namespace Go.Proofs.YtnkodafhjcjpjaaDoor
open Go.RowKit Go.Lib
set_option maxRecDepth 100000
set_option maxHeartbeats 8000000
/-- The blocks that a call has made. -/
def NewB (w w' : World) (b : Nat) : Prop := w.heap.size ≤ b ∧ b < w'.heap.size
/-- The blocks above a place that hold no row that still grows. -/
def KB (H : Nat) (v : Value) (w : World) (b : Nat) : Prop := H ≤ b ∧ b < w.heap.size ∧ v.ownBlock ≠ some b
/-- A tree whose row of kids is the call's own and lies apart from all else in it. -/
def Tr.KidsOwn (B : Nat) (w : World) : Tr → Prop
  | .mk _ _ _ A _ ps K kc ks => w.ownsRow B 26 5 (.slice K ks.length kc) ks.length (rowT ks) ∧ InL (KB B (.slice K ks.length kc) w) w ks ∧ RdP (KB B (.slice K ks.length kc) w) w 2 A ps.length (rowP ps)
theorem own_base {w : World} {B B' : Nat} {e : TypeId} {size n : Nat} {v : Value} {xs : List Value} (h : w.ownsRow B' e size v n xs) (hB : B ≤ B') : w.ownsRow B e size v n xs := by
  refine ⟨h.1, ?_⟩
  rcases h.2 with h | ⟨g, cap, cur, e1, e2, e3⟩
  · exact .inl h
  · exact .inr ⟨g, cap, cur, e1, Nat.le_trans hB e2, e3⟩
theorem copy_step {H i np : Nat} {L : List Tr} {t : Tr} {ps : List (List UInt8 × List UInt8)} {A1 : Option Addr} {v4 v5 : Value} {wr wa w5 : World} {o : Obj}
    (hI : InL (KB H v4 wr) wr L) (hR : RdP (KB H v4 wr) wr 2 A1 np (rowP ps)) (hown : wr.ownsRow H 26 5 v4 i (rowT L)) (hb : Below wr.heap.size wr wa) (ht : t.In (NewB wr wa) wa)
    (hg : (wa.alloc o).grownBy w5 v4.ownBlock) (hat : v5.ownBlock = v4.ownBlock ∨ v5.ownBlock = some (wa.alloc o).heap.size) (hH : H ≤ wr.heap.size) :
    InL (KB H v5 w5) w5 (L ++ [t]) ∧ RdP (KB H v5 w5) w5 2 A1 np (rowP ps) := by
  have hs1 := hb.size
  have hs2 : (wa.alloc o).heap.size = wa.heap.size + 1 := by simp
  have hs3 := hg.size
  have hcell : ∀ p : Addr, p.block < wa.heap.size → v4.ownBlock ≠ some p.block → w5.cell? p = wa.cell? p := fun p hp hne =>
    (World.cell?_of_block (hg.block p.block (by omega) (fun h => hne h.symm))).trans (World.cell?_alloc_lt wa o p hp)
  have hout : ∀ b, b < wa.heap.size → v4.ownBlock ≠ some b → v5.ownBlock ≠ some b := by
    intro b hb hne h
    rcases hat with e | e
    · exact hne (e ▸ h)
    · rw [e] at h
      have := Option.some.inj h
      omega
  have hq : ∀ b, KB H v4 wr b → KB H v5 w5 b := fun b h => ⟨h.1, by have := h.2.1; omega, hout b (by have := h.2.1; omega) h.2.2⟩
  have hk : ∀ p : Addr, KB H v4 wr p.block → w5.cell? p = wr.cell? p := fun p h => (hcell p (by have := h.2.1; omega) h.2.2).trans (hb.cell h.2.1)
  have hnew : ∀ b, NewB wr wa b → v4.ownBlock ≠ some b := by
    intro b h e
    have := (own_lt hown e).2
    have := h.1
    omega
  refine ⟨inL_iff.2 fun x hx => ?_, hR.keep hq hk⟩
  rcases List.mem_append.1 hx with hx | hx
  · exact (inL_iff.1 hI x hx).keep hq hk
  · obtain rfl : x = t := by simpa using hx
    exact ht.keep (fun b h => ⟨by have := h.1; omega, by have := h.2; omega, hout b h.2 (hnew b h)⟩) (fun p h => hcell p h.2 (hnew _ h))
theorem copy_any : ∀ (t : Tr) (P : Nat → Prop) (w : World), t.In P w → (∀ b, P b → b < w.heap.size) → t.pl.fit →
    Calls Tryd.prog 6 #[t.v] w fun e w' => ∃ t' : Tr, e = .returned t'.v ∧ t'.pl = t.pl ∧ t'.Caps ∧ t'.In (NewB w w') w' ∧ t'.KidsOwn w.heap.size w' ∧ Below w.heap.size w w' := by
  intro t
  induction t using Tr.ind with
  | h k n v A ac ps K kc ks ih =>
    intro P w hin hP hb
    have hF := fit_fields hb
    have hkid : ∀ t ∈ ks, t.pl.fit := fit_kid hb
    have hps : ps.length ≤ 1048576 := hF.2.2.1
    have hks : ks.length ≤ 1048576 := hF.2.2.2
    rw [Tr.In] at hin
    obtain ⟨hA, hK, hL⟩ := hin
    have HA := Lib.hid hA; have HK := Lib.hid hK; have HL := Lib.hid hL; have HP := Lib.hid hP; have IH := Lib.hid ih; have HB := Lib.hid hkid
    obtain ⟨np, hnp⟩ : ∃ np, ps.length = np := ⟨_, rfl⟩
    obtain ⟨nk, hnk⟩ : ∃ nk, ks.length = nk := ⟨_, rfl⟩
    have HNK := Lib.hid hnk
    have HNP := Lib.hid hnp
    obtain ⟨i2, hi2, hz20, hz21, hz22⟩ := info_parts pair_info
    obtain ⟨i5, hi5, hz50, hz51, hz52⟩ := info_parts tree_info
    show Calls Tryd.prog 6 #[.agg #[.int .i64 k, .string (ba' n), .string (ba' v), .slice A ps.length ac, .slice K ks.length kc]] w _
    have HRA := Lib.hid (RdP.reads hA hP)
    rw [hnp] at hps HRA ⊢
    rw [hnk] at hks ⊢
    clear hA hK hL hP ih hkid hnp hnk hF hb
    go_enter Tryd.func6, Tryd.ntmps6
    go_wp2_with (first
      | (at_builtin
         go_must (refine wpList_append_any _ rfl (.tmp 6) (.tmp 8) _ rfl (w.heap.size + 2) 32 i2 _ 2 32 Tryd.underlying23 hi2 hz20 hz21 hz22 rfl (by omega) (.slice none 0 0) 0 [] rfl (World.ownsRow_nil _ _ _ _) w.heap.size A np ac (rowP ps) rfl ((HRA.out.alloc (by simp) _).alloc (by simp) _) (rowP_one _) (by simp only [maxLen]; omega) (by omega) (by simp) ?_)
         intro v1 w1 hown hg hat
         have hbw : Below (w.heap.size + 2) ((w.alloc (.cells #[.int .i64 k, .string (ba' n), .string (ba' v), .slice A np ac, .slice K nk kc] 26)).alloc (.cells #[.int .i64 0, .string ⟨#[]⟩, .string ⟨#[]⟩, .slice none 0 0, .slice none 0 0] 26)) w1 := (Below.refl _ _).grown hg (by simp) (by simp [Value.ownBlock])
         have hown' : w1.ownsRow (w.heap.size + 2) 32 2 v1 np (rowP ps) := by simpa using hown
         obtain ⟨A1, c1, rfl⟩ := own_slice hown'
         have HO := Lib.hid hown'
         have hc0 := fun o => hbw.cell (p := ⟨w.heap.size, o, none⟩) (by simp)
         have hf0 := fun o => hbw.frozen (p := ⟨w.heap.size, o, none⟩) (by simp)
         have hc1 := fun o => hbw.cell (p := ⟨w.heap.size + 1, o, none⟩) (by simp)
         have hf1 := fun o => hbw.frozen (p := ⟨w.heap.size + 1, o, none⟩) (by simp)
         have hz0 : w.heap.size + 2 ≤ w1.heap.size := by have := hbw.size; simpa using this
         have HBW := Lib.hid hbw
         clear hown hg hat hown' hbw))
    go_loopw [4, 5] (fun s4 s5 wx => ∃ (i : Nat) (L : List Tr) (A4 : Option Addr) (c4 : Nat), s5 = .int .i64 i ∧ s4 = .slice A4 i c4 ∧ i ≤ nk ∧ Hid (plL L = (plL ks).take i ∧ L.length = i) ∧ Hid (CapsL L) ∧ Hid (wx.ownsRow (w.heap.size + 2) 26 5 (.slice A4 i c4) i (rowT L)) ∧ Hid (InL (KB (w.heap.size + 2) (.slice A4 i c4) wx) wx L ∧ RdP (KB (w.heap.size + 2) (.slice A4 i c4) wx) wx 2 A1 np (rowP ps)) ∧ w.heap.size + 2 ≤ wx.heap.size ∧ Below (w.heap.size + 2) (w1.setCell ⟨w.heap.size, 3, none⟩ (.slice A1 np c1)) wx) (fun _ s5 _ => nk - (intOf s5).toNat)
    case atStart =>
      refine ⟨0, [], none, 0, rfl, rfl, by omega, Lib.hid ⟨by simp [plL], rfl⟩, Lib.hid trivial, Lib.hid (World.ownsRow_nil _ _ _ _), Lib.hid ⟨by simp [InL], ?_⟩, by simpa using hz0, Below.refl _ _⟩
      obtain ⟨A0, c0, e0, _, hrd⟩ := own_rd HO.out
      cases e0
      refine hrd.keep (fun b hb => ?_) (fun q hq => ?_)
      · have := own_lt HO.out hb
        exact ⟨this.1, by simpa using this.2, by simp [Value.ownBlock]⟩
      · have := own_lt HO.out hq
        exact World.cell?_setCell_other w1 _ q _ (fun e => by subst e; have := this.1; simp at this; omega)
    case round =>
      obtain ⟨i, L, A4, c4, rfl, rfl, hi, hLL, hCL, hown, hIR, hsz, hB⟩ := hrel
      have hcr := fun o => hB.cell (p := ⟨w.heap.size, o, none⟩) (by simp)
      have hfr := fun o => hB.frozen (p := ⟨w.heap.size, o, none⟩) (by simp)
      have hcq := fun o => hB.cell (p := ⟨w.heap.size + 1, o, none⟩) (by simp)
      have hfq := fun o => hB.frozen (p := ⟨w.heap.size + 1, o, none⟩) (by simp)
      have hzs : w.heap.size < wr.heap.size := by omega
      have hzt : w.heap.size + 1 < wr.heap.size := by omega
      by_cases hlt : i < nk
      · have g0 : decide ((i : Int) < (nk : Int)) = true := by first | (simp; done) | (simp; omega)
        have hil : i < ks.length := by rw [HNK.out]; exact hlt
        obtain ⟨t, ht⟩ : ∃ t, ks[i]? = some t := ⟨_, List.getElem?_eq_getElem hil⟩
        have htm := List.mem_of_getElem? ht
        have hBW : Below w.heap.size w wr := by
          have b0 : Below w.heap.size w w1 := (((Below.refl _ _).alloc (Nat.le_refl _) _).alloc (by simp) _).trans (HBW.out.mono (by omega))
          have b2 := b0.setCell (p := ⟨w.heap.size, 3, none⟩) (Nat.le_refl _) (.slice A1 np c1)
          exact b2.trans (hB.mono (by omega))
        have hin' := (inL_iff.1 HL.out t htm).below HP.out hBW
        have hc := IH.out t htm P
        have hbk := HB.out t htm
        have HT := Lib.hid (plL_at ht)
        obtain ⟨k', n', v', A', ac', ps', K', kc', ks'⟩ := t
        have hka := HK.out.below HP.out hBW
        rw [HNK.out] at hka
        obtain ⟨ad, rfl, hPad, d0, d1, d2, d3, d4⟩ := kid_at hka ht hlt
        have hb0 : (ad.add (i * 5)).block < wr.heap.size := by rw [block_of_add]; exact Nat.lt_of_lt_of_le (HP.out _ hPad) hBW.size
        have HC := Lib.hid (hc wr hin' (fun b hb => Nat.lt_of_lt_of_le (HP.out b hb) hBW.size) hbk)
        obtain ⟨np', hnp'⟩ : ∃ q, ps'.length = q := ⟨_, rfl⟩
        obtain ⟨nk', hnk'⟩ : ∃ q, ks'.length = q := ⟨_, rfl⟩
        simp only [Tr.v] at HC
        rw [hnp', hnk'] at HC
        rw [hnp'] at d3
        rw [hnk'] at d4
        have HHB := Lib.hid hB
        clear hc hin' hka ht htm hil hnp' hnk' hB hBW
        go_wp2_with (first
          | (go_at_call 6
             go_must (refine HC.out.mono ?_)
             rintro e wa ⟨t2, rfl, hpl2, hcap2, hin2, _, hba⟩
             have HCP := Lib.hid hcap2
             clear hcap2
             have hca := fun o => (bcell hba).1 w.heap.size o hzs
             have hfa := fun o => (bcell hba).2 w.heap.size o hzs
             have hcb := fun o => (bcell hba).1 (w.heap.size + 1) o hzt
             have hfb := fun o => (bcell hba).2 (w.heap.size + 1) o hzt
             have hza := hba.size
             have HPL := Lib.hid hpl2
             have HIN := Lib.hid hin2
             have HBA := Lib.hid hba
             have HCE := Lib.hid (cells_one t2)
             obtain ⟨k2, n2, v2, A2, ac2, ps2, K2, kc2, ks2⟩ := t2
             simp only
             clear hpl2 hin2 hba)
          | (at_builtin
             go_must (refine wpList_append_any _ rfl (.tmp 19) (.tmp 26) _ rfl (w.heap.size + 2) 26 i5 _ 5 88 Tryd.underlying24 hi5 hz50 hz51 hz52 rfl (by omega) (.slice A4 i c4) i (rowT L) rfl ((own_below hown.out HBA.out).alloc _) (wa.heap.size + 1) (some ⟨wa.heap.size, 0, none⟩) 1 1 (Tr.cells (.mk k2 n2 v2 A2 ac2 ps2 K2 kc2 ks2)) rfl ⟨rfl, fun _ => ⟨_, rfl, by simp, five_new _ _ _ _ _ _ _⟩⟩ HCE.out (by simp only [maxLen]; omega) (by omega) (by simp; omega) ?_)
             intro v5 w5 hown5 hg5 hat5
             obtain ⟨A5, c5, rfl⟩ := own_slice hown5
             have HO5 := Lib.hid hown5
             have HG5 := Lib.hid hg5
             have HA5 := Lib.hid hat5
             clear hown5 hg5 hat5))
        go_roundw
        case rel =>
          have hst := copy_step hIR.out.1 hIR.out.2 hown.out HBA.out HIN.out HG5.out HA5.out hsz
          refine ⟨i + 1, L ++ [.mk k2 n2 v2 A2 ac2 ps2 K2 kc2 ks2], A5, c5, by go_num, rfl, by omega, Lib.hid ⟨?_, by rw [List.length_append, hLL.out.2]; rfl⟩, Lib.hid (capsL_snoc hCL.out HCP.out), Lib.hid ?_, Lib.hid hst, ?_, ?_⟩
          · rw [List.take_add_one, HT.out, plL_map, List.map_append, ← plL_map, hLL.out.1]
            show _ ++ [_] = _
            rw [HPL.out]; rfl
          · rw [rowT_snoc]; exact HO5.out
          · have := HG5.out.size
            simp at this
            omega
          · refine ((HHB.out.trans (HBA.out.mono hsz)).alloc (by omega) _).grown HG5.out (by simp; omega) ?_
            intro j hj
            exact (own_lt hown.out hj).1
        case measure => simp [intOf]; omega
      · obtain rfl : i = nk := by omega
        have g0 : decide (((i : Nat) : Int) < ((i : Nat) : Int)) = false := by simp
        have HHB := Lib.hid hB
        clear hB
        go_wp2
        have hBW : Below w.heap.size w wr := by
          have b0 : Below w.heap.size w w1 := (((Below.refl _ _).alloc (Nat.le_refl _) _).alloc (by simp) _).trans (HBW.out.mono (by omega))
          have b2 := b0.setCell (p := ⟨w.heap.size, 3, none⟩) (Nat.le_refl _) (.slice A1 np c1)
          exact b2.trans (HHB.out.mono (by omega))
        refine bodyPost_ret (v := .agg #[.int .i64 k, .string (ba' n), .string (ba' v), .slice A1 np c1, .slice A4 i c4]) (by simp [results, Tryd.results6, go_sem, *]) rfl ⟨.mk k n v A1 c1 ps A4 c4 L, ?_, ?_, ⟨by rw [hLL.out.2]; exact (own_cap hown.out).1, (own_cap hown.out).2, hCL.out⟩, ?_, ?_, ?_⟩
        · show _ = Ending.returned (.agg #[.int .i64 k, .string (ba' n), .string (ba' v), .slice A1 ps.length c1, .slice A4 L.length c4])
          rw [HNP.out, hLL.out.2]
        · rw [Tr.pl, Tr.pl, hLL.out.1, List.take_of_length_le (by rw [plL_len, HNK.out]; exact Nat.le_refl _)]
        · have hk : ∀ p : Addr, w.heap.size + 2 ≤ p.block → ((((((wr.setCell ⟨w.heap.size, 4, none⟩ (.slice A4 i c4)).setCell ⟨w.heap.size + 1, 0, none⟩ (.int .i64 k)).setCell ⟨w.heap.size + 1, 1, none⟩ (.string (ba' n))).setCell ⟨w.heap.size + 1, 2, none⟩ (.string (ba' v))).setCell ⟨w.heap.size + 1, 3, none⟩ (.slice A1 np c1)).setCell ⟨w.heap.size + 1, 4, none⟩ (.slice A4 i c4)).cell? p = wr.cell? p := by
            intro p hp
            rw [World.cell?_setCell_other _ _ _ _ (fun e => by subst e; simp at hp; try omega), World.cell?_setCell_other _ _ _ _ (fun e => by subst e; simp at hp; try omega), World.cell?_setCell_other _ _ _ _ (fun e => by subst e; simp at hp; try omega), World.cell?_setCell_other _ _ _ _ (fun e => by subst e; simp at hp; try omega), World.cell?_setCell_other _ _ _ _ (fun e => by subst e; simp at hp; try omega), World.cell?_setCell_other _ _ _ _ (fun e => by subst e; simp at hp; try omega)]
          have hq : ∀ b, w.heap.size + 2 ≤ b → b < wr.heap.size → NewB w ((((((wr.setCell ⟨w.heap.size, 4, none⟩ (.slice A4 i c4)).setCell ⟨w.heap.size + 1, 0, none⟩ (.int .i64 k)).setCell ⟨w.heap.size + 1, 1, none⟩ (.string (ba' n))).setCell ⟨w.heap.size + 1, 2, none⟩ (.string (ba' v))).setCell ⟨w.heap.size + 1, 3, none⟩ (.slice A1 np c1)).setCell ⟨w.heap.size + 1, 4, none⟩ (.slice A4 i c4)) b := fun b h1 h2 => ⟨by omega, by simpa using h2⟩
          obtain ⟨A5, c5, e5, _, hrk⟩ := own_rd hown.out
          cases e5
          rw [Tr.In, HNP.out, hLL.out.2]
          refine ⟨hIR.out.2.keep (fun b h => hq b h.1 h.2.1) (fun p h => hk p h.1), hrk.keep (fun b h => ?_) (fun p h => ?_), inL_iff.2 fun x hx => (inL_iff.1 hIR.out.1 x hx).keep (fun b h => hq b h.1 h.2.1) (fun p h => hk p h.1)⟩
          · have := own_lt hown.out h
            exact hq b this.1 this.2
          · exact hk p (own_lt hown.out h).1
        · rw [Tr.KidsOwn, hLL.out.2]
          obtain ⟨W5, hW5⟩ : ∃ W5, ((((((wr.setCell ⟨w.heap.size, 4, none⟩ (.slice A4 i c4)).setCell ⟨w.heap.size + 1, 0, none⟩ (.int .i64 k)).setCell ⟨w.heap.size + 1, 1, none⟩ (.string (ba' n))).setCell ⟨w.heap.size + 1, 2, none⟩ (.string (ba' v))).setCell ⟨w.heap.size + 1, 3, none⟩ (.slice A1 np c1)).setCell ⟨w.heap.size + 1, 4, none⟩ (.slice A4 i c4)) = W5 := ⟨_, rfl⟩
          have hz : W5.heap.size = wr.heap.size := by rw [← hW5]; simp
          have hh : ∀ b, w.heap.size + 2 ≤ b → W5.heap[b]? = wr.heap[b]? := by
            intro b hb
            rw [← hW5, Below.heap_setCell _ _ _ _ (by simp; omega), Below.heap_setCell _ _ _ _ (by simp; omega), Below.heap_setCell _ _ _ _ (by simp; omega), Below.heap_setCell _ _ _ _ (by simp; omega), Below.heap_setCell _ _ _ _ (by simp; omega), Below.heap_setCell _ _ _ _ (by simp; omega)]
          rw [hW5]
          have hcc : ∀ p : Addr, w.heap.size + 2 ≤ p.block → W5.cell? p = wr.cell? p := fun p hp => World.cell?_of_block (hh _ hp)
          have hown5 : W5.ownsRow (w.heap.size + 2) 26 5 (.slice A4 i c4) i (rowT L) := own_keep hown.out fun b hb => hh b (own_lt hown.out hb).1
          refine ⟨own_base hown5 (by omega), inL_iff.2 fun x hx => (inL_iff.1 hIR.out.1 x hx).keep (fun b h => ⟨by have := h.1; omega, by rw [hz]; exact h.2.1, h.2.2⟩) (fun p h => hcc p h.1), ?_⟩
          rw [HNP.out]
          exact hIR.out.2.keep (fun b h => ⟨by have := h.1; omega, by rw [hz]; exact h.2.1, h.2.2⟩) (fun p h => hcc p h.1)
        · exact (((((hBW.setCell (by simp) _).setCell (by simp) _).setCell (by simp) _).setCell (by simp) _).setCell (by simp) _).setCell (by simp) _
end Go.Proofs.YtnkodafhjcjpjaaDoor
namespace Go.Proofs.YtnkodafhjcjpjaaDoor
open Go.RowKit Go.Lib
set_option maxRecDepth 100000
set_option maxHeartbeats 8000000
def CopyR (t : Tr) : Prop := ∀ (u : Tr) (P Q : Nat → Prop) (w : World), t.In P w → u.In Q w → (∀ b, P b → b < w.heap.size) → (∀ b, Q b → b < w.heap.size) → t.pl = u.pl → t.pl.fit →
    Calls Tryd.prog 9 #[t.v, u.v] w fun e w' => e = .returned (.bool true) ∧ Below w.heap.size w w'
theorem same5_any : ∀ t : Tr, CopyR t := by
  intro t
  induction t using Tr.ind with
  | h k n v A ac ps K kc ks ih =>
    intro u P Q w hin hin2 hP hQ hpl hb
    obtain ⟨k2, n2, v2, A2, ac2, ps2, K2, kc2, us⟩ := u
    rw [Tr.pl, Tr.pl] at hpl
    injection hpl with e1 e2 e3 e4 e5
    subst e1 e2 e3 e4
    have hF := fit_fields hb
    have hkid := fit_kid hb
    rw [Tr.In] at hin hin2
    obtain ⟨hA, hK, hL⟩ := hin
    obtain ⟨hA2, hK2, hL2⟩ := hin2
    have hlen : us.length = ks.length := by rw [← plL_len us, ← plL_len ks, e5]
    have HA := Lib.hid hA; have HA2 := Lib.hid hA2; have HK := Lib.hid hK; have HK2 := Lib.hid hK2; have HL := Lib.hid hL; have HL2 := Lib.hid hL2; have HP := Lib.hid hP; have HQ := Lib.hid hQ; have IH := Lib.hid ih; have HB := Lib.hid hkid; have HE := Lib.hid e5
    show Calls Tryd.prog 9 #[.agg #[.int .i64 k, .string (ba' n), .string (ba' v), .slice A ps.length ac, .slice K ks.length kc], .agg #[.int .i64 k, .string (ba' n), .string (ba' v), .slice A2 ps.length ac2, .slice K2 us.length kc2]] w _
    obtain ⟨np, hnp⟩ : ∃ np, ps.length = np := ⟨_, rfl⟩
    obtain ⟨nk, hnk⟩ : ∃ nk, ks.length = nk := ⟨_, rfl⟩
    rw [hnk] at hlen
    rw [hnp, hnk, hlen]
    have hps : np ≤ 1048576 := by omega
    have hks : nk ≤ 1048576 := by omega
    have HNK := Lib.hid hnk
    have HNU := Lib.hid hlen
    have HNP := Lib.hid hnp
    clear hA hA2 hK hK2 hL hL2 hP hQ ih hkid e5 hlen hnp hnk hF hb
    go_enter Tryd.func9, Tryd.ntmps9
    go_wp2
    go_loopw [5] (fun s5 wx => ∃ i : Nat, s5 = .int .i64 i ∧ i ≤ np ∧ wx.cell? ⟨w.heap.size, 3, none⟩ = some (.slice A np ac) ∧ wx.cell? ⟨w.heap.size + 1, 3, none⟩ = some (.slice A2 np ac2) ∧ wx.cell? ⟨w.heap.size, 4, none⟩ = some (.slice K nk kc) ∧ wx.cell? ⟨w.heap.size + 1, 4, none⟩ = some (.slice K2 nk kc2) ∧ w.heap.size + 1 < wx.heap.size ∧ Below w.heap.size w wx) (fun s5 _ => np - (intOf s5).toNat)
    case atStart => exact ⟨0, rfl, by omega, by simp, by simp, by simp, by simp, by simp, (by repeat (with_reducible (first | exact Below.refl _ _ | assumption | apply ba | apply bd | apply bdr | (refine bs ?_ (by first | assumption | (simp; done) | (simp; omega))) | (refine bt ?_ (by assumption)))))⟩
    case round =>
      obtain ⟨i, rfl, hi, c3, c3', c4, c4', hsz, hBW⟩ := hrel
      by_cases hlt : i < np
      · have g0 : decide ((i : Int) < (np : Int)) = true := by first | (simp; done) | (simp; omega)
        have hil : i < ps.length := by rw [HNP.out]; exact hlt
        obtain ⟨p, hp⟩ : ∃ p, ps[i]? = some p := ⟨_, List.getElem?_eq_getElem hil⟩
        have hpa := HA.out.below HP.out hBW
        have hpb := HA2.out.below HQ.out hBW
        rw [HNP.out] at hpa hpb
        obtain ⟨p1, p2⟩ := p
        obtain ⟨ad, rfl, hPad, d0, d1⟩ := pair_at hpa hp hlt
        obtain ⟨ad2, rfl, hPad2, f0, f1⟩ := pair_at hpb hp hlt
        clear hpa hpb hp hil hPad hPad2
        go_wp2
        go_region_with fail
        all_goals go_wp2
        all_goals go_roundw
        all_goals first
          | (case rel => exact ⟨i + 1, by go_num, by omega, by simp [*], by simp [*], by simp [*], by simp [*], by simp; omega, (by repeat (with_reducible (first | exact Below.refl _ _ | assumption | apply ba | apply bd | apply bdr | (refine bs ?_ (by first | assumption | (simp; done) | (simp; omega))) | (refine bt ?_ (by assumption)))))⟩)
          | (case measure => simp [intOf]; omega)
      · obtain rfl : i = np := by omega
        have g0 : decide (((i : Nat) : Int) < ((i : Nat) : Int)) = false := by simp
        go_wp2
        go_loopw [6] (fun s6 wx => ∃ q : Nat, s6 = .int .i64 q ∧ q ≤ nk ∧ wx.cell? ⟨w.heap.size, 4, none⟩ = some (.slice K nk kc) ∧ wx.cell? ⟨w.heap.size + 1, 4, none⟩ = some (.slice K2 nk kc2) ∧ w.heap.size + 1 < wx.heap.size ∧ Below w.heap.size w wx) (fun s6 _ => nk - (intOf s6).toNat)
        case atStart => exact ⟨0, rfl, by omega, c4, c4', hsz, hBW⟩
        case round =>
          clear hBW hsz c3 c3' c4 c4'
          obtain ⟨q, rfl, hq, c4, c4', hsz, hBW⟩ := hrel
          by_cases hql : q < nk
          · have g1 : decide ((q : Int) < (nk : Int)) = true := by first | (simp; done) | (simp; omega)
            have hqk : q < ks.length := by rw [HNK.out]; exact hql
            have hqu : q < us.length := by rw [HNU.out]; exact hql
            obtain ⟨t, ht⟩ : ∃ t, ks[q]? = some t := ⟨_, List.getElem?_eq_getElem hqk⟩
            obtain ⟨u, hu⟩ : ∃ u, us[q]? = some u := ⟨_, List.getElem?_eq_getElem hqu⟩
            have htm := List.mem_of_getElem? ht
            have hum := List.mem_of_getElem? hu
            have hte : t.pl = u.pl := by
              have h1 := plL_at ht
              have h2 := plL_at hu
              rw [HE.out, h2] at h1
              exact (Option.some.inj h1).symm
            have hi1 := (inL_iff.1 HL.out t htm).below HP.out hBW
            have hi2 := (inL_iff.1 HL2.out u hum).below HQ.out hBW
            have HC := Lib.hid (fun (w1 : World) (hb1 : Below wr.heap.size wr w1) => IH.out t htm u P Q w1 (hi1.below (fun b hb => Nat.lt_of_lt_of_le (HP.out b hb) hBW.size) hb1) (hi2.below (fun b hb => Nat.lt_of_lt_of_le (HQ.out b hb) hBW.size) hb1) (fun b hb => Nat.lt_of_lt_of_le (Nat.lt_of_lt_of_le (HP.out b hb) hBW.size) hb1.size) (fun b hb => Nat.lt_of_lt_of_le (Nat.lt_of_lt_of_le (HQ.out b hb) hBW.size) hb1.size) hte (HB.out t htm))
            have hka := HK.out.below HP.out hBW
            have hkb := HK2.out.below HQ.out hBW
            rw [HNK.out] at hka
            rw [HNU.out] at hkb
            obtain ⟨k', n', v', A', ac', ps', K', kc', ks'⟩ := t
            obtain ⟨k3, n3, v3, A3, ac3, ps3, K3, kc3, ks3⟩ := u
            obtain ⟨ad, rfl, hPad, d0, d1, d2, d3, d4⟩ := kid_at hka ht hql
            obtain ⟨ad2, rfl, hPad2, f0, f1, f2, f3, f4⟩ := kid_at hkb hu hql
            obtain ⟨np', hnp'⟩ : ∃ q, ps'.length = q := ⟨_, rfl⟩
            obtain ⟨nk', hnk'⟩ : ∃ q, ks'.length = q := ⟨_, rfl⟩
            obtain ⟨np3, hnp3⟩ : ∃ q, ps3.length = q := ⟨_, rfl⟩
            obtain ⟨nk3, hnk3⟩ : ∃ q, ks3.length = q := ⟨_, rfl⟩
            simp only [Tr.v] at HC
            rw [hnp', hnk', hnp3, hnk3] at HC
            rw [hnp'] at d3
            rw [hnk'] at d4
            rw [hnp3] at f3
            rw [hnk3] at f4
            have hw0 : w.heap.size < wr.heap.size := by omega
            clear hi1 hi2 hka hkb ht hu htm hum hte hqk hqu hnp' hnk' hnp3 hnk3 hPad hPad2
            go_wp2
            go_region_with (go_at_call 9; refine (HC.out _ (by repeat (with_reducible (first | exact Below.refl _ _ | assumption | apply ba | apply bd | apply bdr | (refine bs ?_ (by first | assumption | (simp; done) | (simp; omega))) | (refine bt ?_ (by assumption)))))).mono ?_; rintro e w9 ⟨rfl, hb9⟩; have hc9 := fun o => (bcell hb9).1 w.heap.size o (by first | (simp; done) | assumption | (simp; omega)); have hd9 := fun o => (bcell hb9).1 (w.heap.size + 1) o (by first | (simp; done) | assumption | (simp; omega)); have hz9 := hb9.size)
            all_goals go_wp2
            all_goals go_roundw
            all_goals first
              | (case rel => exact ⟨q + 1, by go_num, by omega, by simp [*], by simp [*], by simp at hz9; omega, (by repeat (with_reducible (first | exact Below.refl _ _ | assumption | apply ba | apply bd | apply bdr | (refine bs ?_ (by first | assumption | (simp; done) | (simp; omega))) | (refine bt ?_ (by assumption)))))⟩)
              | (case measure => simp [intOf]; omega)
          · obtain rfl : q = nk := by omega
            have g1 : decide (((q : Nat) : Int) < ((q : Nat) : Int)) = false := by simp
            go_wp2
            go_ret
            exact ⟨rfl, (by repeat (with_reducible (first | exact Below.refl _ _ | assumption | apply ba | apply bd | apply bdr | (refine bs ?_ (by first | assumption | (simp; done) | (simp; omega))) | (refine bt ?_ (by assumption)))))⟩
end Go.Proofs.YtnkodafhjcjpjaaDoor
