/- Trees, items and the kinds of both: part 8. No condition beyond what the theorems state. -/
import Derived.Test.YtjpopmgnhgancaaDoorKdA
import Derived.Test.YtjpopmgnhgancaaDoorKdG
import Derived.Test.YtjpopmgnhgancaaDoorWords
namespace Go.Proofs.YtjpopmgnhgancaaDoor
open Go.RowKit Go.Lib
set_option maxRecDepth 100000
set_option maxHeartbeats 8000000
/-- The blocks that a call has made. -/
def NewB (w w' : World) (b : Nat) : Prop := w.heap.size ≤ b ∧ b < w'.heap.size
/-- The blocks above a place that hold no row that still grows. -/
def KB (H : Nat) (v : Value) (w : World) (b : Nat) : Prop := H ≤ b ∧ b < w.heap.size ∧ v.ownBlock ≠ some b
theorem copy_step {H i np : Nat} {L : List Tr} {t : Tr} {ps : List (List UInt8 × List UInt8)} {A1 : Option Addr} {v4 v5 : Value} {wr wa w5 : World} {o : Obj}
    (hI : InL (KB H v4 wr) wr L) (hR : RdP (KB H v4 wr) wr 2 A1 np (rowP ps)) (hown : wr.ownsRow H 65 5 v4 i (rowT L)) (hb : Below wr.heap.size wr wa) (ht : t.In (NewB wr wa) wa)
    (hg : (wa.alloc o).grownBy w5 v4.ownBlock) (hat : v5.ownBlock = v4.ownBlock ∨ v5.ownBlock = some (wa.alloc o).heap.size) (hH : H ≤ wr.heap.size) :
    InL (KB H v5 w5) w5 (L ++ [t]) ∧ RdP (KB H v5 w5) w5 2 A1 np (rowP ps) := by
  have hs1 := hb.size
  have hs2 : (wa.alloc o).heap.size = wa.heap.size + 1 := by simp
  have hs3 := hg.size
  have hcell : ∀ p : Addr, p.block < wa.heap.size → v4.ownBlock ≠ some p.block → w5.cell? p = wa.cell? p := fun p hp hne =>
    (World.cell?_of_block (hg.block p.block (by omega) (fun h => hne h.symm))).trans (World.cell?_alloc_lt wa o p hp)
  have hout : ∀ b, b < wa.heap.size → v4.ownBlock ≠ some b → v5.ownBlock ≠ some b := by
    intro b hb hne h
    rcases hat with e | e
    · exact hne (e ▸ h)
    · rw [e] at h
      have := Option.some.inj h
      omega
  have hq : ∀ b, KB H v4 wr b → KB H v5 w5 b := fun b h => ⟨h.1, by have := h.2.1; omega, hout b (by have := h.2.1; omega) h.2.2⟩
  have hk : ∀ p : Addr, KB H v4 wr p.block → w5.cell? p = wr.cell? p := fun p h => (hcell p (by have := h.2.1; omega) h.2.2).trans (hb.cell h.2.1)
  have hnew : ∀ b, NewB wr wa b → v4.ownBlock ≠ some b := by
    intro b h e
    have := (own_lt hown e).2
    have := h.1
    omega
  refine ⟨inL_iff.2 fun x hx => ?_, hR.keep hq hk⟩
  rcases List.mem_append.1 hx with hx | hx
  · exact (inL_iff.1 hI x hx).keep hq hk
  · obtain rfl : x = t := by simpa using hx
    exact ht.keep (fun b h => ⟨by have := h.1; omega, by have := h.2; omega, hout b h.2 (hnew b h)⟩) (fun p h => hcell p h.2 (hnew _ h))
theorem copy_any : ∀ (t : Tr) (P : Nat → Prop) (w : World), t.In P w → (∀ b, P b → b < w.heap.size) → t.pl.fit →
    Calls Tryd.prog 31 #[t.v] w fun e w' => ∃ t' : Tr, e = .returned t'.v ∧ t'.pl = t.pl ∧ t'.In (NewB w w') w' ∧ Below w.heap.size w w' := by
  intro t
  induction t using Tr.ind with
  | h k n v A ac ps K kc ks ih =>
    intro P w hin hP hb
    have hF := fit_fields hb
    have hkid : ∀ t ∈ ks, t.pl.fit := fit_kid hb
    have hps : ps.length ≤ 1048576 := hF.2.2.1
    have hks : ks.length ≤ 1048576 := hF.2.2.2
    rw [Tr.In] at hin
    obtain ⟨hA, hK, hL⟩ := hin
    have HA := Lib.hid hA; have HK := Lib.hid hK; have HL := Lib.hid hL; have HP := Lib.hid hP; have IH := Lib.hid ih; have HB := Lib.hid hkid
    obtain ⟨np, hnp⟩ : ∃ np, ps.length = np := ⟨_, rfl⟩
    obtain ⟨nk, hnk⟩ : ∃ nk, ks.length = nk := ⟨_, rfl⟩
    have HNK := Lib.hid hnk
    have HNP := Lib.hid hnp
    obtain ⟨i2, hi2, hz20, hz21, hz22⟩ := info_parts pair_info
    obtain ⟨i5, hi5, hz50, hz51, hz52⟩ := info_parts tree_info
    show Calls Tryd.prog 31 #[.agg #[.int .i64 k, .string (ba' n), .string (ba' v), .slice A ps.length ac, .slice K ks.length kc]] w _
    have HRA := Lib.hid (RdP.reads hA hP)
    rw [hnp] at hps HRA ⊢
    rw [hnk] at hks ⊢
    clear hA hK hL hP ih hkid hnp hnk hF hb
    go_enter Tryd.func31, Tryd.ntmps31
    go_wp2_with (first
      | (at_builtin
         go_must (refine wpList_append_any _ rfl (.tmp 6) (.tmp 8) _ rfl (w.heap.size + 2) 101 i2 _ 2 32 Tryd.underlying63 hi2 hz20 hz21 hz22 rfl (by omega) (.slice none 0 0) 0 [] rfl (World.ownsRow_nil _ _ _ _) w.heap.size A np ac (rowP ps) rfl ((HRA.out.alloc (by simp) _).alloc (by simp) _) (rowP_one _) (by simp only [maxLen]; omega) (by omega) (by simp) ?_)
         intro v1 w1 hown hg hat
         have hbw : Below (w.heap.size + 2) ((w.alloc (.cells #[.int .i64 k, .string (ba' n), .string (ba' v), .slice A np ac, .slice K nk kc] 65)).alloc (.cells #[.int .i64 0, .string ⟨#[]⟩, .string ⟨#[]⟩, .slice none 0 0, .slice none 0 0] 65)) w1 := (Below.refl _ _).grown hg (by simp) (by simp [Value.ownBlock])
         have hown' : w1.ownsRow (w.heap.size + 2) 101 2 v1 np (rowP ps) := by simpa using hown
         obtain ⟨A1, c1, rfl⟩ := own_slice hown'
         have HO := Lib.hid hown'
         have hc0 := fun o => hbw.cell (p := ⟨w.heap.size, o, none⟩) (by simp)
         have hf0 := fun o => hbw.frozen (p := ⟨w.heap.size, o, none⟩) (by simp)
         have hc1 := fun o => hbw.cell (p := ⟨w.heap.size + 1, o, none⟩) (by simp)
         have hf1 := fun o => hbw.frozen (p := ⟨w.heap.size + 1, o, none⟩) (by simp)
         have hz0 : w.heap.size + 2 ≤ w1.heap.size := by have := hbw.size; simpa using this
         have HBW := Lib.hid hbw
         clear hown hg hat hown' hbw))
    go_loopw [4, 5] (fun s4 s5 wx => ∃ (i : Nat) (L : List Tr) (A4 : Option Addr) (c4 : Nat), s5 = .int .i64 i ∧ s4 = .slice A4 i c4 ∧ i ≤ nk ∧ Hid (plL L = (plL ks).take i ∧ L.length = i) ∧ Hid (wx.ownsRow (w.heap.size + 2) 65 5 (.slice A4 i c4) i (rowT L)) ∧ Hid (InL (KB (w.heap.size + 2) (.slice A4 i c4) wx) wx L ∧ RdP (KB (w.heap.size + 2) (.slice A4 i c4) wx) wx 2 A1 np (rowP ps)) ∧ w.heap.size + 2 ≤ wx.heap.size ∧ Below (w.heap.size + 2) (w1.setCell ⟨w.heap.size, 3, none⟩ (.slice A1 np c1)) wx) (fun _ s5 _ => nk - (intOf s5).toNat)
    case atStart =>
      refine ⟨0, [], none, 0, rfl, rfl, by omega, Lib.hid ⟨by simp [plL], rfl⟩, Lib.hid (World.ownsRow_nil _ _ _ _), Lib.hid ⟨by simp [InL], ?_⟩, by simpa using hz0, Below.refl _ _⟩
      obtain ⟨A0, c0, e0, _, hrd⟩ := own_rd HO.out
      cases e0
      refine hrd.keep (fun b hb => ?_) (fun q hq => ?_)
      · have := own_lt HO.out hb
        exact ⟨this.1, by simpa using this.2, by simp [Value.ownBlock]⟩
      · have := own_lt HO.out hq
        exact World.cell?_setCell_other w1 _ q _ (fun e => by subst e; have := this.1; simp at this; omega)
    case round =>
      obtain ⟨i, L, A4, c4, rfl, rfl, hi, hLL, hown, hIR, hsz, hB⟩ := hrel
      have hcr := fun o => hB.cell (p := ⟨w.heap.size, o, none⟩) (by simp)
      have hfr := fun o => hB.frozen (p := ⟨w.heap.size, o, none⟩) (by simp)
      have hcq := fun o => hB.cell (p := ⟨w.heap.size + 1, o, none⟩) (by simp)
      have hfq := fun o => hB.frozen (p := ⟨w.heap.size + 1, o, none⟩) (by simp)
      have hzs : w.heap.size < wr.heap.size := by omega
      have hzt : w.heap.size + 1 < wr.heap.size := by omega
      by_cases hlt : i < nk
      · have g0 : decide ((i : Int) < (nk : Int)) = true := by first | (simp; done) | (simp; omega)
        have hil : i < ks.length := by rw [HNK.out]; exact hlt
        obtain ⟨t, ht⟩ : ∃ t, ks[i]? = some t := ⟨_, List.getElem?_eq_getElem hil⟩
        have htm := List.mem_of_getElem? ht
        have hBW : Below w.heap.size w wr := by
          have b0 : Below w.heap.size w w1 := (((Below.refl _ _).alloc (Nat.le_refl _) _).alloc (by simp) _).trans (HBW.out.mono (by omega))
          have b2 := b0.setCell (p := ⟨w.heap.size, 3, none⟩) (Nat.le_refl _) (.slice A1 np c1)
          exact b2.trans (hB.mono (by omega))
        have hin' := (inL_iff.1 HL.out t htm).below HP.out hBW
        have hc := IH.out t htm P
        have hbk := HB.out t htm
        have HT := Lib.hid (plL_at ht)
        obtain ⟨k', n', v', A', ac', ps', K', kc', ks'⟩ := t
        have hka := HK.out.below HP.out hBW
        rw [HNK.out] at hka
        obtain ⟨ad, rfl, hPad, d0, d1, d2, d3, d4⟩ := kid_at hka ht hlt
        have hb0 : (ad.add (i * 5)).block < wr.heap.size := by rw [block_of_add]; exact Nat.lt_of_lt_of_le (HP.out _ hPad) hBW.size
        have HC := Lib.hid (hc wr hin' (fun b hb => Nat.lt_of_lt_of_le (HP.out b hb) hBW.size) hbk)
        obtain ⟨np', hnp'⟩ : ∃ q, ps'.length = q := ⟨_, rfl⟩
        obtain ⟨nk', hnk'⟩ : ∃ q, ks'.length = q := ⟨_, rfl⟩
        simp only [Tr.v] at HC
        rw [hnp', hnk'] at HC
        rw [hnp'] at d3
        rw [hnk'] at d4
        have HHB := Lib.hid hB
        clear hc hin' hka ht htm hil hnp' hnk' hB hBW
        go_wp2_with (first
          | (go_at_call 31
             go_must (refine HC.out.mono ?_)
             rintro e wa ⟨t2, rfl, hpl2, hin2, hba⟩
             have hca := fun o => (bcell hba).1 w.heap.size o hzs
             have hfa := fun o => (bcell hba).2 w.heap.size o hzs
             have hcb := fun o => (bcell hba).1 (w.heap.size + 1) o hzt
             have hfb := fun o => (bcell hba).2 (w.heap.size + 1) o hzt
             have hza := hba.size
             have HPL := Lib.hid hpl2
             have HIN := Lib.hid hin2
             have HBA := Lib.hid hba
             have HCE := Lib.hid (cells_one t2)
             obtain ⟨k2, n2, v2, A2, ac2, ps2, K2, kc2, ks2⟩ := t2
             simp only
             clear hpl2 hin2 hba)
          | (at_builtin
             go_must (refine wpList_append_any _ rfl (.tmp 19) (.tmp 26) _ rfl (w.heap.size + 2) 65 i5 _ 5 88 Tryd.underlying22 hi5 hz50 hz51 hz52 rfl (by omega) (.slice A4 i c4) i (rowT L) rfl ((own_below hown.out HBA.out).alloc _) (wa.heap.size + 1) (some ⟨wa.heap.size, 0, none⟩) 1 1 (Tr.cells (.mk k2 n2 v2 A2 ac2 ps2 K2 kc2 ks2)) rfl ⟨rfl, fun _ => ⟨_, rfl, by simp, five_new _ _ _ _ _ _ _⟩⟩ HCE.out (by simp only [maxLen]; omega) (by omega) (by simp; omega) ?_)
             intro v5 w5 hown5 hg5 hat5
             obtain ⟨A5, c5, rfl⟩ := own_slice hown5
             have HO5 := Lib.hid hown5
             have HG5 := Lib.hid hg5
             have HA5 := Lib.hid hat5
             clear hown5 hg5 hat5))
        go_roundw
        case rel =>
          have hst := copy_step hIR.out.1 hIR.out.2 hown.out HBA.out HIN.out HG5.out HA5.out hsz
          refine ⟨i + 1, L ++ [.mk k2 n2 v2 A2 ac2 ps2 K2 kc2 ks2], A5, c5, by go_num, rfl, by omega, Lib.hid ⟨?_, by rw [List.length_append, hLL.out.2]; rfl⟩, Lib.hid ?_, Lib.hid hst, ?_, ?_⟩
          · rw [List.take_add_one, HT.out, plL_map, List.map_append, ← plL_map, hLL.out.1]
            show _ ++ [_] = _
            rw [HPL.out]; rfl
          · rw [rowT_snoc]; exact HO5.out
          · have := HG5.out.size
            simp at this
            omega
          · refine ((HHB.out.trans (HBA.out.mono hsz)).alloc (by omega) _).grown HG5.out (by simp; omega) ?_
            intro j hj
            exact (own_lt hown.out hj).1
        case measure => simp [intOf]; omega
      · obtain rfl : i = nk := by omega
        have g0 : decide (((i : Nat) : Int) < ((i : Nat) : Int)) = false := by simp
        have HHB := Lib.hid hB
        clear hB
        go_wp2
        have hBW : Below w.heap.size w wr := by
          have b0 : Below w.heap.size w w1 := (((Below.refl _ _).alloc (Nat.le_refl _) _).alloc (by simp) _).trans (HBW.out.mono (by omega))
          have b2 := b0.setCell (p := ⟨w.heap.size, 3, none⟩) (Nat.le_refl _) (.slice A1 np c1)
          exact b2.trans (HHB.out.mono (by omega))
        refine bodyPost_ret (v := .agg #[.int .i64 k, .string (ba' n), .string (ba' v), .slice A1 np c1, .slice A4 i c4]) (by simp [results, Tryd.results31, go_sem, *]) rfl ⟨.mk k n v A1 c1 ps A4 c4 L, ?_, ?_, ?_, ?_⟩
        · show _ = Ending.returned (.agg #[.int .i64 k, .string (ba' n), .string (ba' v), .slice A1 ps.length c1, .slice A4 L.length c4])
          rw [HNP.out, hLL.out.2]
        · rw [Tr.pl, Tr.pl, hLL.out.1, List.take_of_length_le (by rw [plL_len, HNK.out]; exact Nat.le_refl _)]
        · have hk : ∀ p : Addr, w.heap.size + 2 ≤ p.block → ((((((wr.setCell ⟨w.heap.size, 4, none⟩ (.slice A4 i c4)).setCell ⟨w.heap.size + 1, 0, none⟩ (.int .i64 k)).setCell ⟨w.heap.size + 1, 1, none⟩ (.string (ba' n))).setCell ⟨w.heap.size + 1, 2, none⟩ (.string (ba' v))).setCell ⟨w.heap.size + 1, 3, none⟩ (.slice A1 np c1)).setCell ⟨w.heap.size + 1, 4, none⟩ (.slice A4 i c4)).cell? p = wr.cell? p := by
            intro p hp
            rw [World.cell?_setCell_other _ _ _ _ (fun e => by subst e; simp at hp; try omega), World.cell?_setCell_other _ _ _ _ (fun e => by subst e; simp at hp; try omega), World.cell?_setCell_other _ _ _ _ (fun e => by subst e; simp at hp; try omega), World.cell?_setCell_other _ _ _ _ (fun e => by subst e; simp at hp; try omega), World.cell?_setCell_other _ _ _ _ (fun e => by subst e; simp at hp; try omega), World.cell?_setCell_other _ _ _ _ (fun e => by subst e; simp at hp; try omega)]
          have hq : ∀ b, w.heap.size + 2 ≤ b → b < wr.heap.size → NewB w ((((((wr.setCell ⟨w.heap.size, 4, none⟩ (.slice A4 i c4)).setCell ⟨w.heap.size + 1, 0, none⟩ (.int .i64 k)).setCell ⟨w.heap.size + 1, 1, none⟩ (.string (ba' n))).setCell ⟨w.heap.size + 1, 2, none⟩ (.string (ba' v))).setCell ⟨w.heap.size + 1, 3, none⟩ (.slice A1 np c1)).setCell ⟨w.heap.size + 1, 4, none⟩ (.slice A4 i c4)) b := fun b h1 h2 => ⟨by omega, by simpa using h2⟩
          obtain ⟨A5, c5, e5, _, hrk⟩ := own_rd hown.out
          cases e5
          rw [Tr.In, HNP.out, hLL.out.2]
          refine ⟨hIR.out.2.keep (fun b h => hq b h.1 h.2.1) (fun p h => hk p h.1), hrk.keep (fun b h => ?_) (fun p h => ?_), inL_iff.2 fun x hx => (inL_iff.1 hIR.out.1 x hx).keep (fun b h => hq b h.1 h.2.1) (fun p h => hk p h.1)⟩
          · have := own_lt hown.out h
            exact hq b this.1 this.2
          · exact hk p (own_lt hown.out h).1
        · exact (((((hBW.setCell (by simp) _).setCell (by simp) _).setCell (by simp) _).setCell (by simp) _).setCell (by simp) _).setCell (by simp) _
end Go.Proofs.YtjpopmgnhgancaaDoor
namespace Go.Proofs.YtjpopmgnhgancaaDoor
open Go.RowKit Go.Lib
set_option maxRecDepth 100000
theorem node_info : (Tryd.prog.info? 106).map (fun i => (i.zero, i.size, i.bytes)) = some (some (.agg #[.int .i64 0, .string ⟨#[]⟩, .string ⟨#[]⟩, .slice none 0 0, .slice none 0 0, .int .i64 0]), 6, 96) := by kernel_rfl
theorem flag_ne {l : Array Bool} {i : Nat} (j : Nat) (h : i ≠ j) : (l.setIfInBounds i true).getD j false = l.getD j false := getD_set_ne false h
/-- A node and its parent. -/
def ndC (x : Tr × Nat) : List Value := x.1.cells ++ [.int .i64 (x.2 : Int)]
def rowN (L : List (Tr × Nat)) : List Value := L.flatMap ndC
theorem rowN_snoc (L : List (Tr × Nat)) (x : Tr × Nat) : rowN (L ++ [x]) = rowN L ++ ndC x := by unfold rowN; simp
theorem rowN_app (L M : List (Tr × Nat)) : rowN (L ++ M) = rowN L ++ rowN M := by unfold rowN; simp
theorem ndC_one (x : Tr × Nat) : ∀ u ∈ ndC x, u.oneCell' = true := by
  intro u hu
  rcases List.mem_append.1 hu with h | h
  · exact cells_one x.1 u h
  · obtain rfl : u = .int .i64 (x.2 : Int) := by simpa using h
    rfl
theorem ndC_len (x : Tr × Nat) : (ndC x).length = 6 := by obtain ⟨⟨⟩, _⟩ := x; rfl
/-- An attribute as a tree. -/
def attrT (q : List UInt8 × List UInt8) : Tr := .mk 3 q.1 q.2 none 0 [] none 0 []
mutual
def Tr.nodes : Tr → Nat → Nat → List (Tr × Nat)
  | .mk k n v A ac ps K kc ks, b, p => (.mk k n v A ac ps K kc ks, p) :: (ps.map (fun q => (attrT q, b + 1)) ++ nodesL ks (b + 1 + ps.length) (b + 1))
def nodesL : List Tr → Nat → Nat → List (Tr × Nat)
  | [], _, _ => []
  | t :: ts, b, p => t.nodes b p ++ nodesL ts (b + t.pl.size) p
end
theorem nodes_len : ∀ (t : Tr) (b p : Nat), (t.nodes b p).length = t.pl.size := by
  intro t
  induction t using Tr.ind with
  | h k n v A ac ps K kc ks ih =>
    intro b p
    have aux : ∀ (L : List Tr), (∀ t ∈ L, ∀ b p : Nat, (t.nodes b p).length = t.pl.size) → ∀ b p : Nat, (nodesL L b p).length = sizeL (plL L) := by
      intro L
      induction L with
      | nil => intro _ b p; rw [nodesL, plL, sizeL]; rfl
      | cons a L ihL =>
        intro h b p
        rw [nodesL, plL, sizeL, List.length_append, h a (.head _), ihL (fun t ht => h t (.tail _ ht))]
    rw [Tr.nodes, Tr.pl, PT.size, List.length_cons, List.length_append, List.length_map, aux ks ih]
    omega
theorem nodesL_app : ∀ (a c : List Tr) (b p : Nat), nodesL (a ++ c) b p = nodesL a b p ++ nodesL c (b + sizeL (plL a)) p
  | [], c, b, p => by rw [nodesL, plL, sizeL]; rfl
  | t :: a, c, b, p => by
    rw [List.cons_append, nodesL, nodesL, nodesL_app a c, List.append_assoc, plL, sizeL, show b + t.pl.size + sizeL (plL a) = b + (t.pl.size + sizeL (plL a)) by omega]
theorem nodesL_len (L : List Tr) (b p : Nat) : (nodesL L b p).length = sizeL (plL L) := by
  induction L generalizing b with
  | nil => rw [nodesL, plL, sizeL]; rfl
  | cons a L ih => rw [nodesL, plL, sizeL, List.length_append, nodes_len, ih]
theorem nodesL_take (ks : List Tr) (i : Nat) (t : Tr) (h : ks[i]? = some t) (b p : Nat) :
    nodesL (ks.take (i + 1)) b p = nodesL (ks.take i) b p ++ t.nodes (b + sizeL (plL (ks.take i))) p := by
  rw [List.take_add_one, h, nodesL_app]
  show _ ++ nodesL [t] _ _ = _
  rw [nodesL, nodesL, List.append_nil]
/-- Beside a row that grows all is as it was. -/
def Along (A : Option Addr) (w : World) (A' : Option Addr) (w' : World) : Prop :=
  w'.os = w.os ∧ w'.tape = w.tape ∧ w'.output = w.output ∧ w.heap.size ≤ w'.heap.size ∧ ∀ b, b < w.heap.size → blkOf A ≠ some b → w'.heap[b]? = w.heap[b]? ∧ blkOf A' ≠ some b
theorem Along.refl (A : Option Addr) (w : World) : Along A w A w := ⟨rfl, rfl, rfl, Nat.le_refl _, fun _ _ h => ⟨rfl, h⟩⟩
theorem Along.trans {A A1 A2 : Option Addr} {w w1 w2 : World} (h : Along A w A1 w1) (k : Along A1 w1 A2 w2) : Along A w A2 w2 :=
  ⟨k.1.trans h.1, k.2.1.trans h.2.1, k.2.2.1.trans h.2.2.1, Nat.le_trans h.2.2.2.1 k.2.2.2.1, fun b hb hA => by
    obtain ⟨h1, h2⟩ := h.2.2.2.2 b hb hA
    obtain ⟨k1, k2⟩ := k.2.2.2.2 b (Nat.lt_of_lt_of_le hb h.2.2.2.1) h2
    exact ⟨k1.trans h1, k2⟩⟩
theorem Along.of_below {A : Option Addr} {w w' : World} (hb : Below w.heap.size w w') : Along A w A w' :=
  ⟨hb.os, hb.tape, hb.output, hb.size, fun b h hA => ⟨hb.block b h, hA⟩⟩
theorem Along.of_grown {A A' : Option Addr} {n n' c c' : Nat} {w w' : World} (hg : w.grownBy w' (Value.slice A n c).ownBlock) (hat : (Value.slice A' n' c').ownBlock = (Value.slice A n c).ownBlock ∨ (Value.slice A' n' c').ownBlock = some w.heap.size) : Along A w A' w' := by
  rw [own_blk] at hg
  rw [own_blk, own_blk] at hat
  refine ⟨hg.os, hg.tape, hg.output, hg.size, fun b hb hA => ⟨hg.block b hb (fun e => hA e.symm), ?_⟩⟩
  rcases hat with e | e <;> rw [e]
  · exact hA
  · intro h; have := Option.some.inj h; omega
theorem Along.below {A A' : Option Addr} {w w' : World} {B : Nat} (h : Along A w A' w') (hA : ∀ b, blkOf A = some b → B ≤ b) (hw : B ≤ w.heap.size) : Below B w w' :=
  ⟨h.1, h.2.1, h.2.2.1, h.2.2.2.1, fun b hb => (h.2.2.2.2 b (by omega) (fun e => by have := hA b e; omega)).1⟩
theorem Along.cell {A A' : Option Addr} {w w' : World} (h : Along A w A' w') {p : Addr} (hp : p.block < w.heap.size) (hA : blkOf A ≠ some p.block) : w'.cell? p = w.cell? p := World.cell?_of_block (h.2.2.2.2 _ hp hA).1
/-- Blocks that are none of a row's. -/
def Off (P : Nat → Prop) (A : Option Addr) (w : World) : Prop := ∀ b, P b → b < w.heap.size ∧ blkOf A ≠ some b
theorem Off.along {P : Nat → Prop} {A A' : Option Addr} {w w' : World} (h : Off P A w) (k : Along A w A' w') : Off P A' w' := fun b hb => by
  obtain ⟨h1, h2⟩ := h b hb
  exact ⟨Nat.lt_of_lt_of_le h1 k.2.2.2.1, (k.2.2.2.2 b h1 h2).2⟩
theorem Tr.In.along {P : Nat → Prop} {A A' : Option Addr} {w w' : World} {t : Tr} (h : t.In P w) (ho : Off P A w) (k : Along A w A' w') : t.In P w' := h.keep (fun _ h => h) (fun _p hp => k.cell (ho _ hp).1 (ho _ hp).2)
theorem RdP.along {P : Nat → Prop} {A A' B : Option Addr} {w w' : World} {s n : Nat} {xs : List Value} (h : RdP P w s B n xs) (ho : Off P A w) (k : Along A w A' w') : RdP P w' s B n xs := h.keep (fun _ h => h) (fun _p hp => k.cell (ho _ hp).1 (ho _ hp).2)
end Go.Proofs.YtjpopmgnhgancaaDoor
