/- Trees, items and the kinds of both: part 10. No condition beyond what the theorems state. -/
import Derived.Test.YtjpopmgnhgancaaDoorKdG
import Derived.Test.YtjpopmgnhgancaaDoorKdH
import Derived.Deep.RegionWith
import Derived.Test.YtjpopmgnhgancaaDoorKdI
import Derived.Test.YtjpopmgnhgancaaDoorWords
namespace Go.Proofs.YtjpopmgnhgancaaDoor
open Go.RowKit Go.Lib
def Blk (w : World) (g : Nat) (t : TypeId) (cs : Array Value) : Prop := w.heap[g]? = some (.cells cs t (0, 0))
section
variable {w w' : World} {g : Nat} {t : TypeId} {cs : Array Value}
theorem Blk.lt (h : Blk w g t cs) : g < w.heap.size := by
  rcases Nat.lt_or_ge g w.heap.size with hlt | hge
  · exact hlt
  · unfold Blk at h; rw [Array.getElem?_eq_none hge] at h; cases h
theorem Blk.cell (h : Blk w g t cs) (i : Nat) : w.cell? ⟨g, i, none⟩ = cs[i]? := cell_of_row w g i cs t (0, 0) h
theorem Blk.frozen (h : Blk w g t cs) (i : Nat) : w.frozen? ⟨g, i, none⟩ = false := by
  unfold Blk at h
  simp [World.frozen?, h]
theorem Blk.new (w : World) (t : TypeId) (cs : Array Value) : Blk (w.alloc (.cells cs t)) w.heap.size t cs := heap_alloc_new w _
theorem Blk.alloc (h : Blk w g t cs) (o : Obj) : Blk (w.alloc o) g t cs := (Below.heap_alloc w o g h.lt).trans h
theorem Blk.set_ (h : Blk w g t cs) (i : Nat) (u : Value) : Blk (w.setCell ⟨g, i, none⟩ u) g t (cs.setIfInBounds i u) := by
  unfold Blk at h ⊢
  simp [World.setCell, Array.getElem?_modify, h]
theorem Blk.far (h : Blk w g t cs) {p : Addr} (hp : g ≠ p.block) (u : Value) : Blk (w.setCell p u) g t cs := (Below.heap_setCell w p u g hp).trans h
theorem Blk.below {B : Nat} (h : Blk w g t cs) (hb : Below B w w') (hg : g < B) : Blk w' g t cs := (hb.block g hg).trans h
theorem Blk.grown {row : Option Nat} (h : Blk w g t cs) (hb : w.grownBy w' row) (hg : some g ≠ row) : Blk w' g t cs := (hb.block g h.lt hg).trans h
end
end Go.Proofs.YtjpopmgnhgancaaDoor
namespace Go.Proofs.YtjpopmgnhgancaaDoor
open Go.RowKit Go.Lib Go.Proofs
set_option maxRecDepth 100000
set_option maxHeartbeats 8000000
def LayRefR (t : Tr) : Prop := ∀ (P : Nat → Prop) (w : World) (base : Nat) (A : Option Addr) (c : Nat) (M : List (Tr × Nat)) (p : Nat), w.ownsRow base 106 6 (.slice A M.length c) M.length (rowN M) → t.In P w → Off P A w → t.pl.fit → M.length + t.pl.size ≤ 1048576 → base ≤ w.heap.size →
    Calls Tryd.prog 32 #[.slice A M.length c, t.v, .int .i64 (p : Int)] w fun e w' => ∃ A' c', e = .returned (.slice A' (M.length + t.pl.size) c') ∧ w'.ownsRow base 106 6 (.slice A' (M.length + t.pl.size) c') (M.length + t.pl.size) (rowN (M ++ t.nodes M.length p)) ∧ Along A w A' w'
def attrsT (ps : List (List UInt8 × List UInt8)) (own : Nat) : List (Tr × Nat) := ps.map fun q => (attrT q, own)
theorem attrsT_take (ps : List (List UInt8 × List UInt8)) (own i : Nat) (q : List UInt8 × List UInt8) (h : ps[i]? = some q) : attrsT (ps.take (i + 1)) own = attrsT (ps.take i) own ++ [(attrT q, own)] := by
  rw [List.take_add_one, h]; unfold attrsT; rw [List.map_append]; rfl
theorem attrsT_len (ps : List (List UInt8 × List UInt8)) (own : Nat) : (attrsT ps own).length = ps.length := by unfold attrsT; rw [List.length_map]
theorem layRef_any : ∀ t : Tr, LayRefR t := by
  intro t
  induction t using Tr.ind with
  | h k n v A0 ac ps K kc ks ih =>
    intro P w base A c M p hO hin hoff hfit hsz hbase
    have hF := fit_fields hfit
    have hkid := fit_kid hfit
    have hin0 := hin
    rw [Tr.In] at hin
    obtain ⟨hA, hK, hL⟩ := hin
    have hsz2 : M.length + (1 + ps.length + sizeL (plL ks)) ≤ 1048576 := by rw [Tr.pl, PT.size] at hsz; exact hsz
    have hnk6 : ks.length ≤ 1048576 := hF.2.2.2
    rw [Tr.pl, PT.size, Tr.nodes]
    obtain ⟨ln, hln⟩ : ∃ ln, M.length = ln := ⟨_, rfl⟩
    obtain ⟨np, hnp⟩ : ∃ np, ps.length = np := ⟨_, rfl⟩
    obtain ⟨nk, hnk⟩ : ∃ nk, ks.length = nk := ⟨_, rfl⟩
    show Calls Tryd.prog 32 #[.slice A M.length c, .agg #[.int .i64 k, .string (ba' n), .string (ba' v), .slice A0 ps.length ac, .slice K ks.length kc], .int .i64 (p : Int)] w _
    obtain ⟨TT, hTT⟩ : ∃ TT, (Tr.mk k n v A0 ac ps K kc ks) = TT := ⟨_, rfl⟩
    rw [hln, hnp, hnk, hTT]
    rw [hln] at hO
    rw [hnp, hln] at hsz2
    rw [hnk] at hnk6
    obtain ⟨i6, hi6, hz60, hz61, hz62⟩ := info_parts node_info
    have HO := Lib.hid hO; have HA := Lib.hid hA; have HK := Lib.hid hK; have HL := Lib.hid hL; have HOFF := Lib.hid hoff; have IH := Lib.hid ih; have HB := Lib.hid hkid; have HNP := Lib.hid hnp; have HNK := Lib.hid hnk; have HLN := Lib.hid hln; have HSZ2 := Lib.hid hsz2; have HTT := Lib.hid hTT
    have hg0 : ∀ b, (Value.slice A ln c).ownBlock = some b → b < w.heap.size := fun b hb => (own_lt hO hb).2
    have HG0 := Lib.hid hg0
    clear hO hA hK hL hoff ih hkid hnp hnk hln hF hfit hsz hin0 hg0 hTT
    go_enter Tryd.func32, Tryd.ntmps32
    go_wp2_with (first
      | (at_builtin
         go_must (refine wpList_append_any _ rfl (.tmp 10) (.tmp 14) _ rfl base 106 i6 _ 6 96 Tryd.underlying33 hi6 hz60 hz61 hz62 rfl (by omega) (.slice A ln c) ln (rowN M) rfl ((HO.out.alloc _).alloc _) (w.heap.size + 2) (some ⟨w.heap.size + 1, 0, none⟩) 1 1 [.int .i64 k, .string (ba' n), .string (ba' v), .slice A0 np ac, .slice K nk kc, .int .i64 (p : Int)] rfl ⟨rfl, fun _ => ⟨_, rfl, by simp, by first | exact six_new _ _ _ _ _ _ _ _ | (have := six_new (w.alloc (.cells #[.int .i64 k, .string (ba' n), .string (ba' v), .slice A0 np ac, .slice K nk kc] 65)) (.int .i64 k) (.string (ba' n)) (.string (ba' v)) (.slice A0 np ac) (.slice K nk kc) (.int .i64 (p : Int)) 106; simpa using this)⟩⟩ (by intro u hu; simp at hu; rcases hu with rfl | rfl | rfl | rfl | rfl | rfl <;> rfl) (by simp only [maxLen]; omega) (by omega) (by simp; omega) ?_)
         intro v1 w1 hown hg hat
         obtain ⟨A1, c1, rfl⟩ := own_slice hown
         have HOWN := Lib.hid hown
         have HG := Lib.hid hg
         have HAT := Lib.hid hat
         clear hown hg hat))
    have hg := HG.out
    have hat := HAT.out
    have hL1 : Along A w A1 w1 := (Along.of_below (ba (ba (Below.refl _ _)))).trans (Along.of_grown hg hat)
    have hbk : Blk w1 w.heap.size 65 #[.int .i64 k, .string (ba' n), .string (ba' v), .slice A0 np ac, .slice K nk kc] := ((Blk.new _ _ _).alloc _).grown hg (fun e => by have := HG0.out _ e.symm; omega)
    have hrw : rowN M ++ [.int .i64 k, .string (ba' n), .string (ba' v), .slice A0 np ac, .slice K nk kc, .int .i64 (p : Int)] = rowN (M ++ [(TT, p)]) := by
      rw [rowN_snoc, ← HTT.out]
      show _ = rowN M ++ [.int .i64 k, .string (ba' n), .string (ba' v), .slice A0 ps.length ac, .slice K ks.length kc, .int .i64 (p : Int)]
      rw [HNP.out, HNK.out]
    have hown := HOWN.out
    rw [hrw] at hown
    have hne1 : blkOf A1 ≠ some w.heap.size := by
      intro e
      rw [own_blk, own_blk] at hat
      rcases hat with h | h
      · rw [h] at e; have := HG0.out w.heap.size (by rw [own_blk]; exact e); omega
      · rw [h] at e; have := Option.some.inj e; simp at this; omega
    have hb3 : w1.cell? ⟨w.heap.size, 3, none⟩ = some (.slice A0 np ac) := hbk.cell 3
    have hb4 : w1.cell? ⟨w.heap.size, 4, none⟩ = some (.slice K nk kc) := hbk.cell 4
    have hz1 := hbk.lt
    have HO1 := Lib.hid hown; have HL1 := Lib.hid hL1; have HNE1 := Lib.hid hne1
    clear hown hg hat hL1 hbk hrw hne1 HOWN HG HAT
    go_loopw [0, 8] (fun s0 s8 wx => ∃ (i : Nat) (A' : Option Addr) (c' : Nat), s0 = .slice A' (ln + 1 + i) c' ∧ s8 = .int .i64 (i : Int) ∧ i ≤ np ∧ Hid (wx.ownsRow base 106 6 (.slice A' (ln + 1 + i) c') (ln + 1 + i) (rowN (M ++ [(TT, p)] ++ attrsT (ps.take i) (ln + 1)))) ∧ Hid (Along A w A' wx) ∧ Hid (blkOf A' ≠ some w.heap.size) ∧ wx.cell? ⟨w.heap.size, 3, none⟩ = some (.slice A0 np ac) ∧ wx.cell? ⟨w.heap.size, 4, none⟩ = some (.slice K nk kc) ∧ w.heap.size < wx.heap.size) (fun _ s8 _ => np - (intOf s8).toNat)
    case atStart =>
      refine ⟨0, A1, c1, rfl, rfl, by omega, ?_, HL1, HNE1, hb3, hb4, hz1⟩
      rw [List.take_zero]
      show Hid (w1.ownsRow base 106 6 _ _ (rowN (M ++ [(TT, p)] ++ [])))
      rw [List.append_nil]
      exact HO1
    case round =>
      obtain ⟨i, A6, c6, rfl, rfl, hi, hO6, hL6, hN6, hb3, hb4, hz6⟩ := hrel
      clear HO1 HL1 HNE1 hz1
      by_cases hlt : i < np
      · have g0 : decide ((i : Int) < (np : Int)) = true := by first | (simp; done) | (simp; omega)
        have g1 : decide (i < np) = true := by simpa using hlt
        have hil : i < ps.length := by rw [HNP.out]; exact hlt
        obtain ⟨q, hq⟩ : ∃ q, ps[i]? = some q := ⟨_, List.getElem?_eq_getElem hil⟩
        have hra := HA.out.along HOFF.out hL6.out
        have hoff6 := HOFF.out.along hL6.out
        rw [HNP.out] at hra
        obtain ⟨ad, rfl, hPad, d0, d1⟩ := pair_at hra hq hlt
        have hadl : (ad.add (i * 2)).block < wr.heap.size := by rw [block_of_add]; exact (hoff6 _ hPad).1
        have HQ := Lib.hid (attrsT_take ps (ln + 1) i q hq)
        have hbase6 : base ≤ wr.heap.size := by omega
        have hnp6 : np ≤ 1048576 := by omega
        have hln6 : ln + 1 + i ≤ 1048576 := by omega
        obtain ⟨q1, q2⟩ := q
        clear hra hoff6 hil hq hPad
        go_upto_region 6 with fail
        refine pair_region wr w.heap.size (ln + 1 + i) c6 np ac i (ln + 1) A6 ad q1 q2 base (M ++ [(TT, p)] ++ attrsT (ps.take i) (ln + 1)) _ _ _ _ _ _ _ _ _ _ _ _ _ _ _ _ _ _ _ _ _ _ _ _ _ _ _ _ _ _ _ _ _ _ _ _ _ _ _ _ _ _ _ _ _ _ _ _ _ _ _ _ _ _ _ _ hO6.out hbase6 hln6 hlt hnp6 hb3 hz6 hadl d0 d1 ?_
        intro W A7 c7 _ _ _ _ _ _ _ _ _ _ _ _ _ _ _ _ _ hO7 hL7
        rw [show ((ln + 1 : Nat) : Int) = (ln : Int) + 1 by omega]
        have hcm : ∀ o, W.cell? ⟨w.heap.size, o, none⟩ = wr.cell? ⟨w.heap.size, o, none⟩ := fun o => hL7.cell (p := ⟨w.heap.size, o, none⟩) hz6 hN6.out
        have hb3' := (hcm 3).trans hb3
        have hb4' := (hcm 4).trans hb4
        have hz7 : w.heap.size < W.heap.size := Nat.lt_of_lt_of_le hz6 hL7.2.2.2.1
        rw [List.append_assoc (M ++ [(TT, p)]), ← HQ.out] at hO7
        have HO7 := Lib.hid hO7; have HL7 := Lib.hid (hL6.out.trans hL7); have HN7 := Lib.hid (hL7.2.2.2.2 w.heap.size hz6 hN6.out).2
        clear hcm hO7 hL7 hb3 hb4 hz6 d0 d1 hadl
        go_wp2
        go_roundw
        case rel => exact ⟨i + 1, A7, c7, rfl, by go_num, by omega, HO7, HL7, HN7, hb3', hb4', hz7⟩
        case measure => simp [intOf]; omega
      · obtain rfl : i = np := by omega
        have g0 : decide (((i : Nat) : Int) < ((i : Nat) : Int)) = false := by simp
        have g1 : decide (i < i) = false := by simp
        have hO6' : Hid (wr.ownsRow base 106 6 (.slice A6 (ln + 1 + i) c6) (ln + 1 + i) (rowN (M ++ [(TT, p)] ++ attrsT ps (ln + 1)))) := by
          have := hO6.out
          rw [List.take_of_length_le (by rw [HNP.out]; exact Nat.le_refl _)] at this
          exact Lib.hid this
        clear hO6
        clear g0 g1
        go_wp2
        go_loopw [0, 9] (fun s0 s9 wx => ∃ (j : Nat) (A' : Option Addr) (c' l' : Nat), s0 = .slice A' l' c' ∧ s9 = .int .i64 (j : Int) ∧ j ≤ nk ∧ Hid (l' = ln + 1 + i + sizeL (plL (ks.take j))) ∧ Hid (wx.ownsRow base 106 6 (.slice A' l' c') l' (rowN (M ++ [(TT, p)] ++ attrsT ps (ln + 1) ++ nodesL (ks.take j) (ln + 1 + i) (ln + 1)))) ∧ Hid (Along A w A' wx) ∧ Hid (blkOf A' ≠ some w.heap.size) ∧ wx.cell? ⟨w.heap.size, 4, none⟩ = some (.slice K nk kc) ∧ w.heap.size < wx.heap.size) (fun _ s9 _ => nk - (intOf s9).toNat)
        case atStart =>
          refine ⟨0, A6, c6, _, rfl, rfl, by omega, Lib.hid ?_, Lib.hid ?_, hL6, hN6, hb4, hz6⟩
          · rw [List.take_zero, plL, sizeL]; rfl
          · rw [List.take_zero, nodesL, List.append_nil]; exact hO6'.out
        case round =>
          clear hL6 hN6 hb4 hz6 hO6'
          obtain ⟨j, A8, c8, l8, rfl, rfl, hj, hl8, hO8, hL8, hN8, hb4, hz8⟩ := hrel
          by_cases hlt2 : j < nk
          · have g0 : decide ((j : Int) < (nk : Int)) = true := by first | (simp; done) | (simp; omega)
            have g1 : decide (j < nk) = true := by simpa using hlt2
            have hjl : j < ks.length := by rw [HNK.out]; exact hlt2
            obtain ⟨t, ht⟩ : ∃ t, ks[j]? = some t := ⟨_, List.getElem?_eq_getElem hjl⟩
            have htm := List.mem_of_getElem? ht
            have hoff8 := HOFF.out.along hL8.out
            have hka := HK.out.along HOFF.out hL8.out
            rw [HNK.out] at hka
            have hint := (inL_iff.1 HL.out t htm).along HOFF.out hL8.out
            have hs1 := sizeL_take (plL ks) j t.pl (plL_at ht)
            have hs2 := sizeL_take_le (plL ks) (j + 1)
            have hpe : ∀ q, plL (ks.take q) = (plL ks).take q := fun q => by rw [plL_map, plL_map, List.map_take]
            have hll : (M ++ [(TT, p)] ++ attrsT ps (ln + 1) ++ nodesL (ks.take j) (ln + 1 + i) (ln + 1)).length = l8 := by
              rw [List.length_append, List.length_append, List.length_append, attrsT_len, nodesL_len, HLN.out, HNP.out, hl8.out]; simp
            have hbase8 : base ≤ wr.heap.size := by omega
            have HC := IH.out t htm P wr base A8 c8 (M ++ [(TT, p)] ++ attrsT ps (ln + 1) ++ nodesL (ks.take j) (ln + 1 + i) (ln + 1)) (ln + 1) (by rw [hll]; exact hO8.out) hint hoff8 (HB.out t htm) (by rw [hll, hl8.out, hpe]; have := HSZ2.out; omega) hbase8
            rw [hll] at HC
            have hnt := nodesL_take ks j t ht (ln + 1 + i) (ln + 1)
            have hl9 : l8 + t.pl.size = ln + 1 + i + sizeL (plL (ks.take (j + 1))) := by rw [hl8.out, hpe, hpe, hs1]; omega
            have HNT : Hid (M ++ [(TT, p)] ++ attrsT ps (ln + 1) ++ nodesL (ks.take j) (ln + 1 + i) (ln + 1) ++ t.nodes l8 (ln + 1) = M ++ [(TT, p)] ++ attrsT ps (ln + 1) ++ nodesL (ks.take (j + 1)) (ln + 1 + i) (ln + 1)) := Lib.hid (by rw [hnt, ← hl8.out]; simp)
            rw [HNT.out, show ((ln + 1 : Nat) : Int) = (ln : Int) + 1 by omega] at HC
            obtain ⟨l9, hl9e⟩ : ∃ l9, l8 + t.pl.size = l9 := ⟨_, rfl⟩
            rw [hl9e] at HC hl9
            have HL9 := Lib.hid hl9
            obtain ⟨k', n', v', A', ac', ps', K', kc', ks'⟩ := t
            obtain ⟨ad, rfl, hPad, d0, d1, d2, d3, d4⟩ := kid_at hka ht hlt2
            have hadl : (ad.add (j * 5)).block < wr.heap.size := by rw [block_of_add]; exact (hoff8 _ hPad).1
            simp only [Tr.v] at HC
            obtain ⟨np', hnp'⟩ : ∃ q, ps'.length = q := ⟨_, rfl⟩
            obtain ⟨nk', hnk'⟩ : ∃ q, ks'.length = q := ⟨_, rfl⟩
            rw [hnp', hnk'] at HC
            rw [hnp'] at d3
            rw [hnk'] at d4
            have HCC := Lib.hid HC
            clear hjl ht htm hoff8 hka hint hs1 hs2 hpe hll HC hnt hl9 hPad hnp' hnk' hl9e
            go_wp2_with fail
            refine HCC.out.mono ?_
            rintro e w9 ⟨A9, c9, rfl, hO9, hL9⟩
            have hb4' := (hL9.cell (p := ⟨w.heap.size, 4, none⟩) hz8 hN8.out).trans hb4
            have hz9 : w.heap.size < w9.heap.size := Nat.lt_of_lt_of_le hz8 hL9.2.2.2.1
            have HO9 := Lib.hid hO9; have HLL := Lib.hid (hL8.out.trans hL9); have HN9 := Lib.hid (hL9.2.2.2.2 w.heap.size hz8 hN8.out).2
            clear hO9 hL9 hb4 d0 d1 d2 d3 d4 hadl
            go_wp2
            go_roundw
            case rel => exact ⟨j + 1, A9, c9, l9, rfl, by go_num, by omega, HL9, HO9, HLL, HN9, hb4', hz9⟩
            case measure => simp [intOf]; omega
          · obtain rfl : j = nk := by omega
            have g0 : decide (((j : Nat) : Int) < ((j : Nat) : Int)) = false := by simp
            have g1 : decide (j < j) = false := by simp
            have hle : ks.take j = ks := List.take_of_length_le (by rw [HNK.out]; exact Nat.le_refl _)
            have HE := Lib.hid hle
            clear hle
            go_wp2
            go_ret
            have hl := hl8.out
            have ho := hO8.out
            rw [HE.out] at hl ho
            have e1 : ln + (1 + i + sizeL (plL ks)) = l8 := by omega
            have e2 : M ++ [(TT, p)] ++ attrsT ps (ln + 1) ++ nodesL ks (ln + 1 + i) (ln + 1) = M ++ (TT, p) :: (ps.map (fun q => (attrT q, ln + 1)) ++ nodesL ks (ln + 1 + i) (ln + 1)) := by unfold attrsT; simp
            rw [e1]
            rw [e2] at ho
            exact ⟨A8, c8, rfl, ho, hL8.out⟩
end Go.Proofs.YtjpopmgnhgancaaDoor
namespace Go.Proofs.YtjpopmgnhgancaaDoor
open Go.RowKit Go.Lib
set_option maxRecDepth 100000
set_option maxHeartbeats 8000000
theorem build_wrong (t : Tr) (P : Nat → Prop) (w : World) (sb lim : Nat) (A : Option Addr) (c : Nat) (L : List En) (hT : tabs w) (hS : StoreAt w sb lim A c L) (hin : t.In P w) (hP : Apart P sb A w) (hb : t.pl.fit) (hl : lim ≤ 1048576) (hL : L.length ≤ lim) (hr : t.pl.right 0 = false) :
    Calls Tryd.prog 30 #[.pointer (some ⟨sb, 0, none⟩), t.v] w fun e w' => e = .returned (.tuple #[.int .i64 0, .int .i64 2]) ∧ Below w.heap.size w w' := by
  have hPl : ∀ b, P b → b < w.heap.size := fun b h => (hP b h).1
  have hsb := hb.1
  have HR := Lib.hid (fun (w1 : World) (g cap : Nat) (hb1 : Below w.heap.size w w1) (hg : g < w1.heap.size) (hc : ∀ j u, t.cells[j]? = some u → w1.cell? ⟨g, j, none⟩ = some u) => right_one t P w1 g cap (Utf8Tabs_below hT hb1) (hin.below hPl hb1) (fun b h => Nat.lt_of_lt_of_le (hPl b h) hb1.size) hb hg hc)
  have HCN := Lib.hid (fun (w1 : World) (hb1 : Below w.heap.size w w1) => count_any t P w1 (hin.below hPl hb1) (fun b h => Nat.lt_of_lt_of_le (hPl b h) hb1.size) hb)
  have HRM := Lib.hid (fun (w1 : World) (hb1 : Below w.heap.size w w1) => room_any sb lim A c L w1 (hS.below hb1) hl (by omega))
  have HLY := Lib.hid (fun (hsz : L.length + t.pl.size ≤ 1048576) (w1 : World) (hb1 : Below w.heap.size w w1) => lay_all t P w1 sb lim A c L 0 (hS.below hb1) (hin.below hPl hb1) (hP.beside (Beside.of_below hb1)) hb hsz)
  rw [hr] at HR
  obtain ⟨sz, hsz⟩ : ∃ sz, t.pl.size = sz := ⟨_, rfl⟩
  obtain ⟨ln, hln⟩ : ∃ ln, L.length = ln := ⟨_, rfl⟩
  have HPL := Lib.hid (rfl : t.pl = t.pl)
  rw [hsz] at HCN HLY hsb
  rw [hln] at HRM HLY hL
  obtain ⟨k, n, v, A0, ac, ps, K, kc, ks⟩ := t
  have HCE : Hid (∀ (w1 : World) (g : Nat), g = w1.heap.size → ∀ (j : Nat) (u : Value), (Tr.mk k n v A0 ac ps K kc ks).cells[j]? = some u → (w1.alloc (.cells #[.int .i64 k, .string (ba' n), .string (ba' v), .slice A0 ps.length ac, .slice K ks.length kc] 65)).cell? ⟨g, j, none⟩ = some u) := Lib.hid fun w1 g hg j u hu => by
    subst hg
    have := five_new w1 (.int .i64 k) (.string (ba' n)) (.string (ba' v)) (.slice A0 ps.length ac) (.slice K ks.length kc) 65 j u hu
    have hj : ((⟨w1.heap.size, 0, none⟩ : Addr).add j) = ⟨w1.heap.size, j, none⟩ := by unfold Addr.add; split <;> simp_all
    rwa [hj] at this
  simp only [Tr.v] at HCN HLY ⊢
  obtain ⟨np, hnp⟩ : ∃ q, ps.length = q := ⟨_, rfl⟩
  obtain ⟨nk, hnk⟩ : ∃ q, ks.length = q := ⟨_, rfl⟩
  have HNP := Lib.hid hnp; have HNK := Lib.hid hnk
  rw [hnp, hnk] at HCN HCE HLY ⊢
  have HLN := Lib.hid hln; have HSZ := Lib.hid hsz
  have HS := Lib.hid hS
  clear hT hS hin hP hPl hb hsz hln hnp hnk
  go_enter Tryd.func30, Tryd.ntmps30
  go_wp2_with (first
    | (go_at_call 55; go_must (refine (HR.out _ _ _ (by repeat (with_reducible (first | exact Below.refl _ _ | assumption | apply ba | apply bd | apply bdr | (refine bs ?_ (by first | assumption | (simp; done) | (simp; omega))) | (refine bt ?_ (by assumption))))) (by simp) (HCE.out _ _ (by simp))).mono ?_); rintro e w1 ⟨rfl, hb1⟩; have hc1 := fun o => (bcell hb1).1 w.heap.size o (by first | assumption | (simp; done) | (simp; omega)); have z1 := zz hb1 (by first | assumption | (simp; done) | (simp; omega) : w.heap.size < _); have B1 : Below w.heap.size w w1 := by repeat (with_reducible (first | exact Below.refl _ _ | assumption | apply ba | apply bd | apply bdr | (refine bs ?_ (by first | assumption | (simp; done) | (simp; omega))) | (refine bt ?_ (by assumption))))))
  exact bodyPost_ret (v := .tuple #[.int .i64 0, .int .i64 2]) (by simp [results, Tryd.results30, go_sem]) rfl ⟨rfl, by repeat (with_reducible (first | exact Below.refl _ _ | assumption | apply ba | apply bd | apply bdr | (refine bs ?_ (by first | assumption | (simp; done) | (simp; omega))) | (refine bt ?_ (by assumption))))⟩
theorem build_nodes (t : Tr) (P : Nat → Prop) (w : World) (sb lim : Nat) (A : Option Addr) (c : Nat) (L : List En) (hT : tabs w) (hS : StoreAt w sb lim A c L) (hin : t.In P w) (hP : Apart P sb A w) (hb : t.pl.fit) (hl : lim ≤ 1048576) (hL : L.length ≤ lim) (hr : t.pl.right 0 = true) (hf : lim < L.length + t.pl.size) :
    Calls Tryd.prog 30 #[.pointer (some ⟨sb, 0, none⟩), t.v] w fun e w' => e = .returned (.tuple #[.int .i64 0, .int .i64 20]) ∧ Below w.heap.size w w' := by
  have hPl : ∀ b, P b → b < w.heap.size := fun b h => (hP b h).1
  have hsb := hb.1
  have HR := Lib.hid (fun (w1 : World) (g cap : Nat) (hb1 : Below w.heap.size w w1) (hg : g < w1.heap.size) (hc : ∀ j u, t.cells[j]? = some u → w1.cell? ⟨g, j, none⟩ = some u) => right_one t P w1 g cap (Utf8Tabs_below hT hb1) (hin.below hPl hb1) (fun b h => Nat.lt_of_lt_of_le (hPl b h) hb1.size) hb hg hc)
  have HCN := Lib.hid (fun (w1 : World) (hb1 : Below w.heap.size w w1) => count_any t P w1 (hin.below hPl hb1) (fun b h => Nat.lt_of_lt_of_le (hPl b h) hb1.size) hb)
  have HRM := Lib.hid (fun (w1 : World) (hb1 : Below w.heap.size w w1) => room_any sb lim A c L w1 (hS.below hb1) hl (by omega))
  have HLY := Lib.hid (fun (hsz : L.length + t.pl.size ≤ 1048576) (w1 : World) (hb1 : Below w.heap.size w w1) => lay_all t P w1 sb lim A c L 0 (hS.below hb1) (hin.below hPl hb1) (hP.beside (Beside.of_below hb1)) hb hsz)
  rw [hr] at HR
  obtain ⟨sz, hsz⟩ : ∃ sz, t.pl.size = sz := ⟨_, rfl⟩
  obtain ⟨ln, hln⟩ : ∃ ln, L.length = ln := ⟨_, rfl⟩
  have HPL := Lib.hid (rfl : t.pl = t.pl)
  rw [hsz] at HCN HLY hsb hf
  rw [hln] at HRM HLY hL hf
  obtain ⟨k, n, v, A0, ac, ps, K, kc, ks⟩ := t
  have HCE : Hid (∀ (w1 : World) (g : Nat), g = w1.heap.size → ∀ (j : Nat) (u : Value), (Tr.mk k n v A0 ac ps K kc ks).cells[j]? = some u → (w1.alloc (.cells #[.int .i64 k, .string (ba' n), .string (ba' v), .slice A0 ps.length ac, .slice K ks.length kc] 65)).cell? ⟨g, j, none⟩ = some u) := Lib.hid fun w1 g hg j u hu => by
    subst hg
    have := five_new w1 (.int .i64 k) (.string (ba' n)) (.string (ba' v)) (.slice A0 ps.length ac) (.slice K ks.length kc) 65 j u hu
    have hj : ((⟨w1.heap.size, 0, none⟩ : Addr).add j) = ⟨w1.heap.size, j, none⟩ := by unfold Addr.add; split <;> simp_all
    rwa [hj] at this
  simp only [Tr.v] at HCN HLY ⊢
  obtain ⟨np, hnp⟩ : ∃ q, ps.length = q := ⟨_, rfl⟩
  obtain ⟨nk, hnk⟩ : ∃ q, ks.length = q := ⟨_, rfl⟩
  have HNP := Lib.hid hnp; have HNK := Lib.hid hnk
  rw [hnp, hnk] at HCN HCE HLY ⊢
  have HLN := Lib.hid hln; have HSZ := Lib.hid hsz
  have HS := Lib.hid hS
  clear hT hS hin hP hPl hb hsz hln hnp hnk
  have g1 : decide ((sz : Int) > (lim : Int) - (ln : Int)) = true := by simp; omega
  have g2 : decide ((lim : Int) - (ln : Int) < (sz : Int)) = true := by simp; omega
  go_enter Tryd.func30, Tryd.ntmps30
  go_wp2_with (first
    | (go_at_call 55; go_must (refine (HR.out _ _ _ (by repeat (with_reducible (first | exact Below.refl _ _ | assumption | apply ba | apply bd | apply bdr | (refine bs ?_ (by first | assumption | (simp; done) | (simp; omega))) | (refine bt ?_ (by assumption))))) (by simp) (HCE.out _ _ (by simp))).mono ?_); rintro e w1 ⟨rfl, hb1⟩; have hc1 := fun o => (bcell hb1).1 w.heap.size o (by first | assumption | (simp; done) | (simp; omega)); have z1 := zz hb1 (by first | assumption | (simp; done) | (simp; omega) : w.heap.size < _); have B1 : Below w.heap.size w w1 := by repeat (with_reducible (first | exact Below.refl _ _ | assumption | apply ba | apply bd | apply bdr | (refine bs ?_ (by first | assumption | (simp; done) | (simp; omega))) | (refine bt ?_ (by assumption)))))
    | (go_at_call 56; go_must (refine (HCN.out _ (by repeat (with_reducible (first | exact Below.refl _ _ | assumption | apply ba | apply bd | apply bdr | (refine bs ?_ (by first | assumption | (simp; done) | (simp; omega))) | (refine bt ?_ (by assumption)))))).mono ?_); rintro e w2 ⟨rfl, hb2⟩; have hc2 := fun o => (bcell hb2).1 w.heap.size o (by first | assumption | (simp; done) | (simp; omega)); have z2 := zz hb2 (by first | assumption | (simp; done) | (simp; omega) : w.heap.size < _); have B2 : Below w.heap.size w w2 := by repeat (with_reducible (first | exact Below.refl _ _ | assumption | apply ba | apply bd | apply bdr | (refine bs ?_ (by first | assumption | (simp; done) | (simp; omega))) | (refine bt ?_ (by assumption)))))
    | (go_at_call 57; go_must (refine (HRM.out _ (by repeat (with_reducible (first | exact Below.refl _ _ | assumption | apply ba | apply bd | apply bdr | (refine bs ?_ (by first | assumption | (simp; done) | (simp; omega))) | (refine bt ?_ (by assumption)))))).mono ?_); rintro e w3 ⟨rfl, hb3⟩; have hc3 := fun o => (bcell hb3).1 w.heap.size o (by first | assumption | (simp; done) | (simp; omega)); have z3 := zz hb3 (by first | assumption | (simp; done) | (simp; omega) : w.heap.size < _); have B3 : Below w.heap.size w w3 := by repeat (with_reducible (first | exact Below.refl _ _ | assumption | apply ba | apply bd | apply bdr | (refine bs ?_ (by first | assumption | (simp; done) | (simp; omega))) | (refine bt ?_ (by assumption))))))
  exact bodyPost_ret (v := .tuple #[.int .i64 0, .int .i64 20]) (by simp [results, Tryd.results30, go_sem]) rfl ⟨rfl, by repeat (with_reducible (first | exact Below.refl _ _ | assumption | apply ba | apply bd | apply bdr | (refine bs ?_ (by first | assumption | (simp; done) | (simp; omega))) | (refine bt ?_ (by assumption))))⟩
theorem build_ok (t : Tr) (P : Nat → Prop) (w : World) (sb lim : Nat) (A : Option Addr) (c : Nat) (L : List En) (hT : tabs w) (hS : StoreAt w sb lim A c L) (hin : t.In P w) (hP : Apart P sb A w) (hb : t.pl.fit) (hl : lim ≤ 1048576) (_hL : L.length ≤ lim) (hr : t.pl.right 0 = true) (hf : L.length + t.pl.size ≤ lim) :
    Calls Tryd.prog 30 #[.pointer (some ⟨sb, 0, none⟩), t.v] w fun e w' => e = .returned (.tuple #[.int .i64 ((L.length + 1 : Nat) : Int), .int .i64 0]) ∧ ∃ A' c', StoreAt w' sb lim A' c' (L ++ t.pl.lay L.length 0) ∧ Beside sb A w A' w' := by
  have hPl : ∀ b, P b → b < w.heap.size := fun b h => (hP b h).1
  have hsb := hb.1
  have HR := Lib.hid (fun (w1 : World) (g cap : Nat) (hb1 : Below w.heap.size w w1) (hg : g < w1.heap.size) (hc : ∀ j u, t.cells[j]? = some u → w1.cell? ⟨g, j, none⟩ = some u) => right_one t P w1 g cap (Utf8Tabs_below hT hb1) (hin.below hPl hb1) (fun b h => Nat.lt_of_lt_of_le (hPl b h) hb1.size) hb hg hc)
  have HCN := Lib.hid (fun (w1 : World) (hb1 : Below w.heap.size w w1) => count_any t P w1 (hin.below hPl hb1) (fun b h => Nat.lt_of_lt_of_le (hPl b h) hb1.size) hb)
  have HRM := Lib.hid (fun (w1 : World) (hb1 : Below w.heap.size w w1) => room_any sb lim A c L w1 (hS.below hb1) hl (by omega))
  have HLY := Lib.hid (fun (hsz : L.length + t.pl.size ≤ 1048576) (w1 : World) (hb1 : Below w.heap.size w w1) => lay_all t P w1 sb lim A c L 0 (hS.below hb1) (hin.below hPl hb1) (hP.beside (Beside.of_below hb1)) hb hsz)
  rw [hr] at HR
  obtain ⟨sz, hsz⟩ : ∃ sz, t.pl.size = sz := ⟨_, rfl⟩
  obtain ⟨ln, hln⟩ : ∃ ln, L.length = ln := ⟨_, rfl⟩
  have HPL := Lib.hid (rfl : t.pl = t.pl)
  rw [hsz] at HCN HLY hsb hf
  rw [hln] at HRM HLY hf ⊢
  obtain ⟨k, n, v, A0, ac, ps, K, kc, ks⟩ := t
  have HCE : Hid (∀ (w1 : World) (g : Nat), g = w1.heap.size → ∀ (j : Nat) (u : Value), (Tr.mk k n v A0 ac ps K kc ks).cells[j]? = some u → (w1.alloc (.cells #[.int .i64 k, .string (ba' n), .string (ba' v), .slice A0 ps.length ac, .slice K ks.length kc] 65)).cell? ⟨g, j, none⟩ = some u) := Lib.hid fun w1 g hg j u hu => by
    subst hg
    have := five_new w1 (.int .i64 k) (.string (ba' n)) (.string (ba' v)) (.slice A0 ps.length ac) (.slice K ks.length kc) 65 j u hu
    have hj : ((⟨w1.heap.size, 0, none⟩ : Addr).add j) = ⟨w1.heap.size, j, none⟩ := by unfold Addr.add; split <;> simp_all
    rwa [hj] at this
  simp only [Tr.v] at HCN HLY ⊢
  obtain ⟨np, hnp⟩ : ∃ q, ps.length = q := ⟨_, rfl⟩
  obtain ⟨nk, hnk⟩ : ∃ q, ks.length = q := ⟨_, rfl⟩
  have HNP := Lib.hid hnp; have HNK := Lib.hid hnk
  rw [hnp, hnk] at HCN HCE HLY ⊢
  have HLN := Lib.hid hln; have HSZ := Lib.hid hsz
  have HS := Lib.hid hS
  clear hT hS hin hP hPl hb hsz hln hnp hnk
  have hfit2 : ln + sz ≤ 1048576 := by omega
  have g1 : decide ((sz : Int) > (lim : Int) - (ln : Int)) = false := by simp; omega
  have g2 : decide ((lim : Int) - (ln : Int) < (sz : Int)) = false := by simp; omega
  go_enter Tryd.func30, Tryd.ntmps30
  go_wp2_with (first
    | (go_at_call 55; go_must (refine (HR.out _ _ _ (by repeat (with_reducible (first | exact Below.refl _ _ | assumption | apply ba | apply bd | apply bdr | (refine bs ?_ (by first | assumption | (simp; done) | (simp; omega))) | (refine bt ?_ (by assumption))))) (by simp) (HCE.out _ _ (by simp))).mono ?_); rintro e w1 ⟨rfl, hb1⟩; have hc1 := fun o => (bcell hb1).1 w.heap.size o (by first | assumption | (simp; done) | (simp; omega)); have z1 := zz hb1 (by first | assumption | (simp; done) | (simp; omega) : w.heap.size < _); have B1 : Below w.heap.size w w1 := by repeat (with_reducible (first | exact Below.refl _ _ | assumption | apply ba | apply bd | apply bdr | (refine bs ?_ (by first | assumption | (simp; done) | (simp; omega))) | (refine bt ?_ (by assumption)))))
    | (go_at_call 56; go_must (refine (HCN.out _ (by repeat (with_reducible (first | exact Below.refl _ _ | assumption | apply ba | apply bd | apply bdr | (refine bs ?_ (by first | assumption | (simp; done) | (simp; omega))) | (refine bt ?_ (by assumption)))))).mono ?_); rintro e w2 ⟨rfl, hb2⟩; have hc2 := fun o => (bcell hb2).1 w.heap.size o (by first | assumption | (simp; done) | (simp; omega)); have z2 := zz hb2 (by first | assumption | (simp; done) | (simp; omega) : w.heap.size < _); have B2 : Below w.heap.size w w2 := by repeat (with_reducible (first | exact Below.refl _ _ | assumption | apply ba | apply bd | apply bdr | (refine bs ?_ (by first | assumption | (simp; done) | (simp; omega))) | (refine bt ?_ (by assumption)))))
    | (go_at_call 57; go_must (refine (HRM.out _ (by repeat (with_reducible (first | exact Below.refl _ _ | assumption | apply ba | apply bd | apply bdr | (refine bs ?_ (by first | assumption | (simp; done) | (simp; omega))) | (refine bt ?_ (by assumption)))))).mono ?_); rintro e w3 ⟨rfl, hb3⟩; have hc3 := fun o => (bcell hb3).1 w.heap.size o (by first | assumption | (simp; done) | (simp; omega)); have z3 := zz hb3 (by first | assumption | (simp; done) | (simp; omega) : w.heap.size < _); have B3 : Below w.heap.size w w3 := by repeat (with_reducible (first | exact Below.refl _ _ | assumption | apply ba | apply bd | apply bdr | (refine bs ?_ (by first | assumption | (simp; done) | (simp; omega))) | (refine bt ?_ (by assumption)))))
    | (go_at_call 58; go_must (refine (HLY.out hfit2 _ (by repeat (with_reducible (first | exact Below.refl _ _ | assumption | apply ba | apply bd | apply bdr | (refine bs ?_ (by first | assumption | (simp; done) | (simp; omega))) | (refine bt ?_ (by assumption)))))).mono ?_); rintro e w4 ⟨rfl, A4, c4, hS4, hB4⟩; have HS4 := Lib.hid hS4; have HB4 := Lib.hid hB4; clear hS4 hB4))
  exact bodyPost_ret (v := .tuple #[.int .i64 ((ln + 1 : Nat) : Int), .int .i64 0]) (by simp [results, Tryd.results30, go_sem]) rfl ⟨rfl, A4, c4, HS4.out, (Beside.of_below B3).trans HB4.out⟩
end Go.Proofs.YtjpopmgnhgancaaDoor
namespace Go.Proofs.YtjpopmgnhgancaaDoor
open Go.RowKit Go.Lib
set_option maxRecDepth 100000
theorem StoreAt.same {w w' : World} {sb lim : Nat} {A : Option Addr} {c : Nat} {L : List En} (h : StoreAt w sb lim A c L) (hz : w.heap.size ≤ w'.heap.size) (hs : w'.heap[sb]? = w.heap[sb]?) (hA : ∀ b, blkOf A = some b → w'.heap[b]? = w.heap[b]?) : StoreAt w' sb lim A c L := by
  obtain ⟨h0, h1, h2, h3, h4⟩ := h
  refine ⟨Nat.lt_of_lt_of_le h0 hz, (World.cell?_of_block hs).trans h1, (World.cell?_of_block hs).trans h2, (World.frozen?_of_block (a := ⟨sb, 1, none⟩) hs).trans h3, own_keep h4 fun b hb => ?_⟩
  rw [own_blk] at hb
  exact hA b hb
/-- Trees laid into a store, and their nodes in a row of the call's own. -/
structure LaidS (w0 W : World) (sb : Nat) (A : Option Addr) (c : Nat) (Al : Option Addr) (cl : Nat) (us : List Tr) : Prop where
  below : Below w0.heap.size w0 W
  store : StoreAt W sb 1000 A c (layL (plL us) 0 0)
  own : W.ownsRow w0.heap.size 106 6 (.slice Al (sizeL (plL us)) cl) (sizeL (plL us)) (rowN (nodesL us 0 0))
  sbw : w0.heap.size ≤ sb
  nsb : blkOf Al ≠ some sb
  nA : ∀ b, blkOf Al = some b → blkOf A ≠ some b
  trees : InL (fun b => b < W.heap.size ∧ b ≠ sb ∧ blkOf A ≠ some b ∧ blkOf Al ≠ some b) W us
  fine : ∀ t ∈ us, t.pl.right 0 = true ∧ t.pl.size ≤ 60 ∧ t.pl.bulk ≤ 1048576
theorem LaidS.later {w0 W W' : World} {sb : Nat} {A : Option Addr} {c : Nat} {Al : Option Addr} {cl : Nat} {us : List Tr} (h : LaidS w0 W sb A c Al cl us) (hb : Below W.heap.size W W') : LaidS w0 W' sb A c Al cl us :=
  { h with below := h.below.trans (hb.mono h.below.size), store := h.store.below hb, own := own_below h.own hb, trees := inL_iff.2 fun t ht => (inL_iff.1 h.trees t ht).keep (fun _b h => ⟨Nat.lt_of_lt_of_le h.1 hb.size, h.2⟩) (fun _p hp => hb.cell hp.1) }
theorem plL_app (a b : List Tr) : plL (a ++ b) = plL a ++ plL b := by rw [plL_map, plL_map, plL_map, List.map_append]
theorem plL_one (t : Tr) : plL [t] = [t.pl] := rfl
theorem LaidS.next {w0 wr w5 w6 w7 w8 : World} {sb : Nat} {A A6 : Option Addr} {c c6 : Nat} {Al Al8 : Option Addr} {cl c8 : Nat} {us : List Tr} {t2 : Tr} {T : PT} (h : LaidS w0 wr sb A c Al cl us)
    (hb5 : Below wr.heap.size wr w5) (hB6 : Beside sb A w5 A6 w6) (hS6 : StoreAt w6 sb 1000 A6 c6 (layL (plL us) 0 0 ++ T.lay (sizeL (plL us)) 0)) (hb7 : Below w6.heap.size w6 w7) (hin : t2.In (NewB w6 w7) w7) (hp : t2.pl = T)
    (hL8 : Along Al w7 Al8 w8) (hO8 : w8.ownsRow w0.heap.size 106 6 (.slice Al8 (sizeL (plL us) + T.size) c8) (sizeL (plL us) + T.size) (rowN (nodesL us 0 0 ++ t2.nodes (sizeL (plL us)) 0)))
    (hf : T.right 0 = true ∧ T.size ≤ 60 ∧ T.bulk ≤ 1048576) : LaidS w0 w8 sb A6 c6 Al8 c8 (us ++ [t2]) := by
  have hsw := h.store.1
  have hz5 := hb5.size
  have hz6 := hB6.2.2.2.1
  have hz7 := hb7.size
  have hz8 := hL8.2.2.2.1
  have hb0 := h.below.size
  have hAl : ∀ b, blkOf Al = some b → w0.heap.size ≤ b ∧ b < wr.heap.size := fun b hb => own_lt h.own (by rw [own_blk]; exact hb)
  have hAlb : ∀ b, blkOf A = some b → w0.heap.size ≤ b ∧ b < wr.heap.size := fun b hb => ⟨by have := (StoreAt.lt h.store hb).1; have := h.sbw; omega, (StoreAt.lt h.store hb).2⟩
  -- what is none of the store's and none of the list's stays
  have stay : ∀ b, b < wr.heap.size → b ≠ sb → blkOf A ≠ some b → blkOf Al ≠ some b → w8.heap[b]? = wr.heap[b]? ∧ blkOf A6 ≠ some b ∧ blkOf Al8 ≠ some b := by
    intro b h1 h2 h3 h4
    obtain ⟨e6, n6⟩ := hB6.2.2.2.2 b (by omega) h2 h3
    obtain ⟨e8, n8⟩ := hL8.2.2.2.2 b (by omega) h4
    exact ⟨e8.trans ((hb7.block b (by omega)).trans (e6.trans (hb5.block b h1))), n6, n8⟩
  have hA6n : ∀ b, blkOf A6 = some b → blkOf Al ≠ some b := by
    intro b hb hal
    have h1 := hAl b hal
    exact (hB6.2.2.2.2 b (by omega) (fun e => h.nsb (e ▸ hal)) (h.nA b hal)).2 hb
  have hA6l : ∀ b, blkOf A6 = some b → b < w6.heap.size := fun b hb => (StoreAt.lt hS6 hb).2
  refine ⟨?_, ?_, ?_, h.sbw, ?_, ?_, ?_, ?_⟩
  · refine h.below.trans ⟨?_, ?_, ?_, by omega, fun b hb => (stay b (by omega) (by have := h.sbw; omega) (fun e => by have := (hAlb b e).1; omega) (fun e => by have := (hAl b e).1; omega)).1⟩
    · exact hL8.1.trans (hb7.os.trans (hB6.1.trans hb5.os))
    · exact hL8.2.1.trans (hb7.tape.trans (hB6.2.1.trans hb5.tape))
    · exact hL8.2.2.1.trans (hb7.output.trans (hB6.2.2.1.trans hb5.output))
  · rw [plL_app, plL_one, layL_app, layL, layL, List.append_nil, Nat.zero_add, hp]
    exact (hS6.below hb7).same hz8 (hL8.2.2.2.2 sb (by omega) h.nsb).1 (fun b hb => (hL8.2.2.2.2 b (by have := hA6l b hb; omega) (hA6n b hb)).1)
  · rw [plL_app, plL_one, sizeL_app, sizeL, sizeL, Nat.add_zero, hp, nodesL_app, nodesL, nodesL, List.append_nil, Nat.zero_add]
    exact hO8
  · exact (hL8.2.2.2.2 sb (by omega) h.nsb).2
  · intro b hb hb6
    have h6 := hA6l b hb6
    exact (hL8.2.2.2.2 b (by omega) (hA6n b hb6)).2 hb
  · refine inL_iff.2 fun t ht => ?_
    rcases List.mem_append.1 ht with ht | ht
    · exact (inL_iff.1 h.trees t ht).keep (fun b hb => ⟨by omega, hb.2.1, (stay b hb.1 hb.2.1 hb.2.2.1 hb.2.2.2).2⟩) (fun p hp' => World.cell?_of_block (stay _ hp'.1 hp'.2.1 hp'.2.2.1 hp'.2.2.2).1)
    · obtain rfl : t = t2 := by simpa using ht
      have hne : ∀ b, NewB w6 w7 b → blkOf Al ≠ some b := fun b hb e => by have := (hAl b e).2; have := hb.1; omega
      exact hin.keep (fun b hb => ⟨by have := hb.2; omega, by have := hb.1; omega, fun e => by have := hA6l b e; have := hb.1; omega, (hL8.2.2.2.2 b hb.2 (hne b hb)).2⟩) (fun p hp' => World.cell?_of_block (hL8.2.2.2.2 _ hp'.2 (hne _ hp')).1)
  · intro t ht
    rcases List.mem_append.1 ht with ht | ht
    · exact h.fine t ht
    · obtain rfl : t = t2 := by simpa using ht
      rw [hp]; exact hf
theorem LaidS.size {w0 W : World} {sb : Nat} {A : Option Addr} {c : Nat} {Al : Option Addr} {cl : Nat} {us : List Tr} (h : LaidS w0 W sb A c Al cl us) : sizeL (plL us) ≤ 60 * us.length := by
  have := h.fine
  clear h
  induction us with
  | nil => rw [plL, sizeL]; omega
  | cons a us ih =>
    rw [plL, sizeL, List.length_cons]
    have h1 := (this a (.head _)).2.1
    have h2 := ih (fun t ht => this t (.tail _ ht))
    omega
end Go.Proofs.YtjpopmgnhgancaaDoor
