/- Trees, items and the kinds of both: part 2. No condition beyond what the theorems state. -/
import Derived.Test.YtjpopmgnhgancaaDoorKdA
import Derived.Deep.RegionWith
import Derived.Test.YtjpopmgnhgancaaDoorValid
import Derived.Laws.RangeAny
import Derived.Lib.RuneCount
import Derived.Lib.OthersKept
import Derived.Shelf.GgClosure.Gives
import Derived.Test.YtjpopmgnhgancaaDoorShelf
import Derived.Deep.DeepMust
namespace Go.Proofs.YtjpopmgnhgancaaDoor
open Go.RowKit Go.Lib
set_option maxRecDepth 100000
set_option maxHeartbeats 8000000
/-- The contract of lay at one tree. -/
def LayR (t : Tr) : Prop := ∀ (P : Nat → Prop) (w : World) (sb lim : Nat) (A : Option Addr) (c : Nat) (L : List En) (p : Nat), StoreAt w sb lim A c L → t.In P w → Apart P sb A w → t.pl.fit → L.length + t.pl.size ≤ 1048576 →
  Calls Tryd.prog 58 #[.pointer (some ⟨sb, 0, none⟩), t.v, .int .i64 (p : Int)] w fun e w' => e = .returned (.int .i64 ((L.length + 1 : Nat) : Int)) ∧ ∃ A' c', StoreAt w' sb lim A' c' (L ++ t.pl.lay L.length p) ∧ Beside sb A w A' w'
theorem StoreAt.lt {w : World} {sb lim : Nat} {A : Option Addr} {c : Nat} {L : List En} (h : StoreAt w sb lim A c L) {b : Nat} (hb : blkOf A = some b) : sb + 1 ≤ b ∧ b < w.heap.size := own_lt h.2.2.2.2 (by rw [own_blk]; exact hb)
theorem len_same (sb lim : Nat) (A : Option Addr) (c : Nat) (L : List En) (w : World) (hS : StoreAt w sb lim A c L) : Calls Tryd.prog 71 #[.pointer (some ⟨sb, 0, none⟩)] w fun e w' => e = .returned (.int .i64 (L.length : Int)) ∧ w' = w := by
  obtain ⟨h0, h1, h2, h3, h4⟩ := hS
  obtain ⟨n, hn⟩ : ∃ n, L.length = n := ⟨_, rfl⟩
  rw [hn] at h2 ⊢
  clear hn h4
  go_enter Tryd.func71, Tryd.ntmps71
  go_wp2
  go_ret
  exact ⟨rfl, rfl⟩
theorem store_end {w : World} {sb lim g c T : Nat} {L rest : List En} {root : En} (h : StoreAt w sb lim (some ⟨g, 0, none⟩) c (L ++ root :: rest)) :
    StoreAt (w.setCell ⟨g, L.length * 5 + 4, none⟩ (.int .i64 (T : Int))) sb lim (some ⟨g, 0, none⟩) c (L ++ { root with e := T } :: rest) ∧ Beside sb (some ⟨g, 0, none⟩) w (some ⟨g, 0, none⟩) (w.setCell ⟨g, L.length * 5 + 4, none⟩ (.int .i64 (T : Int))) := by
  have hg := h.lt (b := g) rfl
  have hl : (L ++ { root with e := T } :: rest).length = (L ++ root :: rest).length := by simp
  obtain ⟨h0, h1, h2, h3, h4⟩ := h
  refine ⟨⟨by simpa using h0, ?_, ?_, ?_, ?_⟩, rfl, rfl, rfl, by simp, fun b hb hbs hA => ⟨Below.heap_setCell _ _ _ _ (fun e => hA (by rw [e]; rfl)), hA⟩⟩
  · rw [World.cell?_setCell_other _ _ _ _ (fun e => by simp at e; try omega)]; exact h1
  · rw [World.cell?_setCell_other _ _ _ _ (fun e => by simp at e; try omega), hl]; exact h2
  · rw [World.frozen?_setCell]; exact h3
  · have := (h4.stored (L.length * 5 + 4) (.int .i64 (T : Int))).1
    rw [rowE_set] at this
    rw [hl]; exact this
theorem lay_all : ∀ t : Tr, LayR t := by
  intro t
  induction t using Tr.ind with
  | h k n v A0 ac ps K kc ks ih =>
    intro P w sb lim A c L p hS hin hP hb hsz
    have hF := fit_fields hb
    have hB : ∀ t ∈ ks, t.pl.fit := fit_kid hb
    rw [Tr.In] at hin
    obtain ⟨hA, hK, hL⟩ := hin
    have hsz2 : L.length + (1 + ps.length + sizeL (plL ks)) ≤ 1048576 := by rw [Tr.pl, PT.size] at hsz; exact hsz
    rw [Tr.pl, PT.lay]
    obtain ⟨ln, hln⟩ : ∃ ln, L.length = ln := ⟨_, rfl⟩
    obtain ⟨np, hnp⟩ : ∃ np, ps.length = np := ⟨_, rfl⟩
    obtain ⟨nk, hnk⟩ : ∃ nk, ks.length = nk := ⟨_, rfl⟩
    obtain ⟨m, hm⟩ : ∃ m, ln + 1 = m := ⟨_, rfl⟩
    have hks : ks.length ≤ 1048576 := hF.2.2.2
    show Calls Tryd.prog 58 #[.pointer (some ⟨sb, 0, none⟩), .agg #[.int .i64 k, .string (ba' n), .string (ba' v), .slice A0 ps.length ac, .slice K ks.length kc], .int .i64 (p : Int)] w _
    rw [hnp, hnk, hln, hm]
    rw [hnp, hln] at hsz2
    rw [hnk] at hks
    have HS := Lib.hid hS; have HA := Lib.hid hA; have HK := Lib.hid hK; have HL := Lib.hid hL; have HP := Lib.hid hP; have IH := Lib.hid ih; have HB := Lib.hid hB; have HNP := Lib.hid hnp; have HNK := Lib.hid hnk; have HLN := Lib.hid hln; have HM := Lib.hid hm
    have hsb : sb < w.heap.size := hS.1
    -- the world behind the box
    have hbx : ∀ x : Obj, Beside sb A w A (w.alloc x) := fun x => Beside.of_below (ba (Below.refl _ _))
    have HROOT : Hid (∀ (w1 : World), Below w.heap.size w w1 → Calls Tryd.prog 72 #[.pointer (some ⟨sb, 0, none⟩), .int .i64 k, .string (ba' n), .string (ba' v), .int .i64 (p : Int)] w1 fun e w' => e = .returned (.int .i64 (m : Int)) ∧ ∃ A' c', StoreAt w' sb lim A' c' (L ++ [⟨k, n, v, p, m⟩]) ∧ Beside sb A w1 A' w') := Lib.hid fun w1 hb1 => by
      have := add_any sb lim A c L k n v p w1 (hS.below hb1) (by omega)
      rw [hln, hm] at this
      exact this
    have hHA : blkOf A ≠ some w.heap.size := fun e => by have := (hS.lt e).2; omega
    clear hS hA hK hL hP ih hB hnp hnk hln hm hF hb hsz hbx
    go_enter Tryd.func58, Tryd.ntmps58
    go_wp2_with (go_at_call 72; go_must (refine (HROOT.out _ (by repeat (with_reducible (first | exact Below.refl _ _ | assumption | apply ba | apply bd | apply bdr | (refine bs ?_ (by first | assumption | (simp; done) | (simp; omega))) | (refine bt ?_ (by assumption)))))).mono ?_); rintro e w1 ⟨rfl, A1, c1, hS1, hB1⟩; have hbb := fun o => World.cell?_of_block (a := ⟨w.heap.size, o, none⟩) (hB1.2.2.2.2 w.heap.size (by simp) (by omega) hHA).1; have hzz := hB1.2.2.2.1; have HS1 := Lib.hid hS1; have HB1 := Lib.hid hB1; clear hS1 hB1)
    go_loopw [24] (fun s24 wx => ∃ (i : Nat) (A' : Option Addr) (c' : Nat), s24 = .int .i64 i ∧ i ≤ np ∧ Hid (StoreAt wx sb lim A' c' (L ++ ⟨k, n, v, p, m⟩ :: layP (ps.take i) m m)) ∧ Hid (Beside sb A w A' wx ∧ blkOf A' ≠ some w.heap.size) ∧ wx.cell? ⟨w.heap.size, 4, none⟩ = some (.slice K nk kc) ∧ w.heap.size + 1 ≤ wx.heap.size) (fun s24 _ => np - (intOf s24).toNat)
    case atStart =>
      refine ⟨0, A1, c1, rfl, Nat.zero_le _, HS1.out, Lib.hid ⟨(Beside.of_below (ba (Below.refl _ _))).trans HB1.out, (HB1.out.2.2.2.2 w.heap.size (by simp) (by omega) hHA).2⟩, ?_, by simpa using hzz⟩
      first | (simp [*]; done) | (rw [hbb 4]; simp)
    case round =>
      obtain ⟨i, A2, c2, rfl, hi, hS2, hB2, hc4, hz2⟩ := hrel
      by_cases hlt : i < np
      · have g0 : decide ((i : Int) < (np : Int)) = true := by first | (simp; done) | (simp; omega)
        have hil : i < ps.length := by rw [HNP.out]; exact hlt
        obtain ⟨x, hx⟩ : ∃ x, ps[i]? = some x := ⟨_, List.getElem?_eq_getElem hil⟩
        have HLP := Lib.hid (layP_take ps i x hx m m)
        have hAp := HP.out.beside hB2.out.1
        obtain ⟨p1, p2⟩ := x
        have hpa := HA.out.beside HP.out hB2.out.1
        rw [HNP.out] at hpa
        obtain ⟨ad, rfl, hPad, d0, d1⟩ := pair_at hpa hx hlt
        clear hpa
        have hb0 : (ad.add (i * 2)).block < wr.heap.size := by rw [block_of_add]; exact (hAp _ hPad).1
        have HADD : Hid (∀ w1 : World, Below wr.heap.size wr w1 → Calls Tryd.prog 72 #[.pointer (some ⟨sb, 0, none⟩), .int .i64 3, .string (ba' p1), .string (ba' p2), .int .i64 (m : Int)] w1 fun e w' => (∃ z : Int, e = .returned (.int .i64 z)) ∧ ∃ A' c', StoreAt w' sb lim A' c' (L ++ ⟨k, n, v, p, m⟩ :: layP (ps.take (i + 1)) m m) ∧ Beside sb A2 w1 A' w') := Lib.hid fun w1 hb1 => by
          have hlen : (L ++ ⟨k, n, v, p, m⟩ :: layP (ps.take i) m m).length = m + i := by
            rw [List.length_append, HLN.out, List.length_cons, layP_len, List.length_take, HNP.out, Nat.min_eq_left hi, ← HM.out]; omega
          have := add_any sb lim A2 c2 _ 3 p1 p2 m w1 (hS2.out.below hb1) (by rw [hlen, ← HM.out]; omega)
          refine this.mono fun e w' ⟨h1, A', c', h2, h3⟩ => ⟨⟨_, h1⟩, A', c', ?_, h3⟩
          rw [HLP.out]
          rw [hlen, List.append_assoc] at h2
          exact h2
        have hH2 := hB2.out.2
        clear hx hil hAp
        go_wp2_with (go_at_call 72; go_must (refine (HADD.out _ (by repeat (with_reducible (first | exact Below.refl _ _ | assumption | apply ba | apply bd | apply bdr | (refine bs ?_ (by first | assumption | (simp; done) | (simp; omega))) | (refine bt ?_ (by assumption)))))).mono ?_); rintro e w3 ⟨⟨z, rfl⟩, A3, c3, hS3, hB3⟩; have hbb3 := fun o => World.cell?_of_block (a := ⟨w.heap.size, o, none⟩) (hB3.2.2.2.2 w.heap.size (by simp; omega) (by omega) hH2).1; have hzz3 := hB3.2.2.2.1; have HS3 := Lib.hid hS3; have HB3 := Lib.hid hB3; clear hS3 hB3)
        go_roundw
        case rel =>
          refine ⟨i + 1, A3, c3, by go_num, by omega, HS3, Lib.hid ⟨(hB2.out.1.trans (Beside.of_below (ba (Below.refl _ _)))).trans HB3.out, (HB3.out.2.2.2.2 w.heap.size (by simp; omega) (by omega) hH2).2⟩, ?_, ?_⟩
          · exact (hbb3 4).trans ((World.cell?_alloc_lt _ _ _ (by show w.heap.size < wr.heap.size; omega)).trans hc4)
          · simp at hzz3; omega
        case measure => simp [intOf]; omega
      · obtain rfl : i = np := by omega
        have g0 : decide (((i : Nat) : Int) < ((i : Nat) : Int)) = false := by simp
        have hq1 : L ++ ⟨k, n, v, p, m⟩ :: layP (ps.take i) m m = L ++ ⟨k, n, v, p, m⟩ :: layP ps m m := by rw [List.take_of_length_le (by rw [HNP.out]; exact Nat.le_refl _)]
        have HS9 : Hid (StoreAt wr sb lim A2 c2 (L ++ ⟨k, n, v, p, m⟩ :: layP ps m m)) := Lib.hid (hq1 ▸ hS2.out)
        clear hq1 hS2
        go_wp2
        go_loopw [39] (fun s39 wx => ∃ (j : Nat) (A' : Option Addr) (c' : Nat), s39 = .int .i64 j ∧ j ≤ nk ∧ Hid (StoreAt wx sb lim A' c' (L ++ ⟨k, n, v, p, m⟩ :: (layP ps m m ++ layL ((plL ks).take j) (m + i) m))) ∧ Hid (Beside sb A w A' wx ∧ blkOf A' ≠ some w.heap.size)) (fun s39 _ => nk - (intOf s39).toNat)
        case atStart => exact ⟨0, A2, c2, rfl, Nat.zero_le _, Lib.hid (by simpa [layL] using HS9.out), hB2⟩
        case round =>
          obtain ⟨j, A4, c4, rfl, hj, hS4, hB4⟩ := hrel
          by_cases hjl : j < nk
          · have g1 : decide ((j : Int) < (nk : Int)) = true := by first | (simp; done) | (simp; omega)
            have hjk : j < ks.length := by rw [HNK.out]; exact hjl
            obtain ⟨t, ht⟩ : ∃ t, ks[j]? = some t := ⟨_, List.getElem?_eq_getElem hjk⟩
            have htm := List.mem_of_getElem? ht
            have HLL := Lib.hid (layL_take (plL ks) j t.pl (plL_at ht) (m + i) m)
            have hst := sizeL_take (plL ks) j t.pl (plL_at ht)
            have hsl := sizeL_take_le (plL ks) (j + 1)
            have hAp := HP.out.beside hB4.out.1
            have hin4 := (inL_iff.1 HL.out t htm).beside HP.out hB4.out.1
            have hc := IH.out t htm P
            have hbk := HB.out t htm
            have hka := HK.out.beside HP.out hB4.out.1
            rw [HNK.out] at hka
            have hlen : (L ++ ⟨k, n, v, p, m⟩ :: (layP ps m m ++ layL ((plL ks).take j) (m + i) m)).length = m + i + sizeL ((plL ks).take j) := by
              rw [List.length_append, HLN.out, List.length_cons, List.length_append, layP_len, layL_len, HNP.out, ← HM.out]; omega
            have HLAY := Lib.hid (fun (w1 : World) (hb1 : Below wr.heap.size wr w1) => hc w1 sb lim A4 c4 _ m (hS4.out.below hb1) (hin4.below (fun b h => (hAp b h).1) hb1) (hAp.beside (Beside.of_below hb1)) hbk (by rw [hlen, ← HM.out]; omega))
            obtain ⟨k', n', v', A', ac', ps', K', kc', ks'⟩ := t
            obtain ⟨ad, rfl, hPad, d0, d1, d2, d3, d4⟩ := kid_at hka ht hjl
            have hb0 : (ad.add (j * 5)).block < wr.heap.size := by rw [block_of_add]; exact (hAp _ hPad).1
            obtain ⟨np', hnp'⟩ : ∃ q, ps'.length = q := ⟨_, rfl⟩
            obtain ⟨nk', hnk'⟩ : ∃ q, ks'.length = q := ⟨_, rfl⟩
            simp only [Tr.v] at HLAY
            rw [hnp', hnk'] at HLAY
            rw [hnp'] at d3
            rw [hnk'] at d4
            have HLEN := Lib.hid hlen
            have hH4 := hB4.out.2
            clear hc hin4 hka ht htm hjk hnp' hnk' hbk hst hsl hAp hlen
            have hwz : w.heap.size < wr.heap.size + 1 := by have := hB4.out.1.2.2.2.1; omega
            have hwz2 : w.heap.size < wr.heap.size ∨ w.heap.size = wr.heap.size := by have := hB4.out.1.2.2.2.1; omega
            go_wp2_with (go_at_call 58; go_must (refine (HLAY.out _ (by repeat (with_reducible (first | exact Below.refl _ _ | assumption | apply ba | apply bd | apply bdr | (refine bs ?_ (by first | assumption | (simp; done) | (simp; omega))) | (refine bt ?_ (by assumption)))))).mono ?_); rintro e w3 ⟨rfl, A5, c5, hS5, hB5⟩; have HS5 := Lib.hid hS5; have HB5 := Lib.hid hB5; clear hS5 hB5)
            go_roundw
            case rel =>
              refine ⟨j + 1, A5, c5, by go_num, by omega, Lib.hid ?_, Lib.hid ⟨(hB4.out.1.trans (Beside.of_below (ba (Below.refl _ _)))).trans HB5.out, (HB5.out.2.2.2.2 w.heap.size (by simp; omega) (by omega) hH4).2⟩⟩
              have := HS5.out
              rw [HLEN.out] at this
              rw [HLL.out]
              simpa [List.append_assoc] using this
            case measure => simp [intOf]; omega
          · obtain rfl : j = nk := by omega
            have g1 : decide (((j : Nat) : Int) < ((j : Nat) : Int)) = false := by simp
            have hq2 : (plL ks).take j = plL ks := List.take_of_length_le (by rw [plL_len, HNK.out]; exact Nat.le_refl _)
            have HS6 : Hid (StoreAt wr sb lim A4 c4 (L ++ ⟨k, n, v, p, m⟩ :: (layP ps m m ++ layL (plL ks) (m + i) m))) := Lib.hid (by have := hS4.out; rwa [hq2] at this)
            clear hq2 hS4
            obtain ⟨T, hT⟩ : ∃ T, (L ++ (⟨k, n, v, p, m⟩ : En) :: (layP ps m m ++ layL (plL ks) (m + i) m)).length = T := ⟨_, rfl⟩
            have hTe : T = ln + (1 + i + sizeL (plL ks)) := by
              rw [← hT, List.length_append, HLN.out, List.length_cons, List.length_append, layP_len, layL_len, HNP.out]; omega
            have hlT : ln < T := by omega
            have hmi : (m : Int) - 1 = (ln : Int) := by have := HM.out; omega
            have hw2 : IntKind.i64.wrap (ln : Int) = (ln : Int) := by rw [IntKind.wrap_i64]; omega
            have hw3 : IntKind.i64.wrap ((m : Int) - 1) = (ln : Int) := by rw [hmi]; exact hw2
            have g5 : decide ((ln : Int) < (T : Int)) = true := by first | (simp; done) | (simp; omega)
            obtain ⟨q0, q1, q2, q3, q4⟩ := HS6.out
            rw [hT] at q2 q4
            have HL22 := fun (w1 : World) (hb1 : Below wr.heap.size wr w1) => len_same sb lim A4 c4 _ w1 (HS6.out.below hb1)
            rw [hT] at HL22
            have HLE := Lib.hid HL22
            obtain ⟨g, hg⟩ : ∃ g, A4 = some ⟨g, 0, none⟩ := by
              rcases q4.2 with ⟨h', h0⟩ | ⟨g, cap, cur, h', _⟩
              · omega
              · simp at h'
                exact ⟨g, h'.1⟩
            subst hg
            have hgb := HS6.out.lt (b := g) rfl
            have e4 : wr.cell? ⟨g, ln * 5 + 4, none⟩ = some (.int .i64 (m : Int)) := by
              rw [q4.cellAt _ (by omega)]
              have := rowE_at (L ++ (⟨k, n, v, p, m⟩ : En) :: (layP ps m m ++ layL (plL ks) (m + i) m)) ln ⟨k, n, v, p, m⟩ 4 (.int .i64 (m : Int)) (by rw [← HLN.out]; simp) rfl (by decide)
              exact this
            have f4 := q4.frozenAt (ln * 5 + 4)
            have HQ4 := Lib.hid q4
            clear HL22 q4 hT
            go_wp2
            go_region_with (go_at_call 71; refine (HLE.out _ (by repeat (with_reducible (first | exact Below.refl _ _ | assumption | apply ba | apply bd | apply bdr | (refine bs ?_ (by first | assumption | (simp; done) | (simp; omega))) | (refine bt ?_ (by assumption)))))).mono ?_; rintro e w9 ⟨rfl, rfl⟩)
            all_goals go_wp2
            all_goals go_ret
            all_goals
              have hE := store_end (T := ln + (1 + i + sizeL (plL ks))) HS6.out
              have hc : ((ln + (1 + i + sizeL (plL ks)) : Nat) : Int) = (ln : Int) + (1 + (i : Int) + (sizeL (plL ks) : Int)) := by omega
              rw [HLN.out, hc] at hE
              exact ⟨rfl, _, _, hE.1.below (bdr (Below.refl _ _)), hB4.out.1.trans (hE.2.trans (Beside.of_below (bdr (Below.refl _ _))))⟩
end Go.Proofs.YtjpopmgnhgancaaDoor
namespace Go.Proofs.YtjpopmgnhgancaaDoor
open Go.RowKit Go.Lib
set_option maxRecDepth 100000
def spN (b : UInt8) : Bool := spaceB (b.toNat : Int)
def trimB (l : List UInt8) : List UInt8 := ((l.dropWhile spN).reverse.dropWhile spN).reverse
theorem dropWhile_all {p : UInt8 → Bool} : ∀ (a b : List UInt8), (∀ x ∈ a, p x = true) → (a ++ b).dropWhile p = b.dropWhile p
  | [], _, _ => rfl
  | x :: a, b, h => by
    rw [List.cons_append, List.dropWhile_cons, h x (by simp), if_pos rfl]
    exact dropWhile_all a b fun y hy => h y (by simp [hy])
theorem dropWhile_head {p : UInt8 → Bool} (x : UInt8) (a : List UInt8) (h : p x = false) : (x :: a).dropWhile p = x :: a := by rw [List.dropWhile_cons, h]; rfl
/-- the two ends of what is left -/
def endsOk (m : List UInt8) : Prop := m = [] ∨ (∃ x t, m = x :: t ∧ spN x = false) ∧ (∃ t y, m = t ++ [y] ∧ spN y = false)
theorem trimB_of (p m q : List UInt8) (hp : ∀ x ∈ p, spN x = true) (hq : ∀ x ∈ q, spN x = true) (hm : endsOk m) : trimB (p ++ m ++ q) = m := by
  unfold trimB
  rw [List.append_assoc, dropWhile_all p _ hp]
  rcases hm with rfl | ⟨⟨x, t, hx, hxs⟩, t', y, hy, hys⟩
  · rw [List.nil_append, show q.dropWhile spN = [] from by simpa using dropWhile_all q [] hq]; rfl
  · rw [show (m ++ q).dropWhile spN = m ++ q from by rw [hx, List.cons_append]; exact dropWhile_head _ _ hxs]
    rw [List.reverse_append, dropWhile_all _ _ (by simpa using hq)]
    rw [show m.reverse.dropWhile spN = m.reverse from by rw [hy, List.reverse_append]; exact dropWhile_head _ _ hys, List.reverse_reverse]
theorem mem_take_get {l : List UInt8} {k : Nat} {x : UInt8} (h : x ∈ l.take k) : ∃ j, j < k ∧ j < l.length ∧ l.getD j 0 = x := by
  obtain ⟨j, hj, e⟩ := List.mem_iff_getElem.1 h
  rw [List.length_take] at hj
  exact ⟨j, by omega, by omega, by rw [List.getD_eq_getElem?_getD, List.getElem?_eq_getElem (by omega)]; simpa using e⟩
theorem mem_drop_get {l : List UInt8} {k : Nat} {x : UInt8} (h : x ∈ l.drop k) : ∃ j, k ≤ j ∧ j < l.length ∧ l.getD j 0 = x := by
  obtain ⟨j, hj, e⟩ := List.mem_iff_getElem.1 h
  rw [List.length_drop] at hj
  exact ⟨k + j, by omega, by omega, by rw [List.getD_eq_getElem?_getD, List.getElem?_eq_getElem (by omega)]; simpa using e⟩
/-- by places -/
theorem trimB_at (l : List UInt8) (i j : Nat) (hij : i ≤ j) (hj : j ≤ l.length) (h1 : ∀ k, k < i → spN (l.getD k 0) = true) (h2 : ∀ k, j ≤ k → k < l.length → spN (l.getD k 0) = true)
    (h3 : i = j ∨ spN (l.getD i 0) = false) (h4 : i = j ∨ spN (l.getD (j - 1) 0) = false) : trimB l = (l.take j).drop i := by
  have e : l = (l.take j).take i ++ (l.take j).drop i ++ l.drop j := by rw [List.take_append_drop, List.take_append_drop]
  conv => lhs; rw [e]
  refine trimB_of _ _ _ ?_ ?_ ?_
  · intro x hx
    rw [List.take_take, Nat.min_eq_left hij] at hx
    obtain ⟨k, hk, _, rfl⟩ := mem_take_get hx
    exact h1 k hk
  · intro x hx
    obtain ⟨k, hk, hk2, rfl⟩ := mem_drop_get hx
    exact h2 k hk hk2
  · by_cases c : i = j
    · left; subst c; simp
    · right
      have hi : i < (l.take j).length := by rw [List.length_take]; omega
      have hl : ((l.take j).drop i).length = j - i := by rw [List.length_drop, List.length_take]; omega
      constructor
      · refine ⟨(l.take j)[i], (l.take j).drop (i + 1), List.drop_eq_getElem_cons hi, ?_⟩
        have := h3.resolve_left c
        rw [List.getD_eq_getElem?_getD, List.getElem?_eq_getElem (by omega)] at this
        simpa using this
      · have hne : (l.take j).drop i ≠ [] := by intro h; rw [h] at hl; simp at hl; omega
        refine ⟨((l.take j).drop i).dropLast, ((l.take j).drop i).getLast hne, (List.dropLast_concat_getLast hne).symm, ?_⟩
        have := h4.resolve_left c
        rw [List.getD_eq_getElem?_getD, List.getElem?_eq_getElem (by omega)] at this
        rw [List.getLast_eq_getElem, List.getElem_drop]
        simp only [List.getElem_take]
        simp only [hl]
        simpa [show i + (j - i - 1) = j - 1 from by omega] using this
end Go.Proofs.YtjpopmgnhgancaaDoor
namespace Go.Proofs.YtjpopmgnhgancaaDoor
open Go.RowKit Go.Lib
set_option maxRecDepth 100000
def spAt (s : ByteArray) (k : Nat) : Bool := spN (s.data.toList.getD k 0)
theorem spAt_get (s : ByteArray) (k : Nat) (h : k < s.size) : spaceB ((s[k]'h).toNat : Int) = spAt s k := by
  unfold spAt spN
  rw [bN_get s k h]; rfl
def trimPost (s : ByteArray) (w : World) (e : Ending) (w' : World) : Prop := ∃ i j, i ≤ j ∧ j ≤ s.size ∧ e = .returned (.string (s.extract i j)) ∧ (s.extract i j).data.toList = trimB s.data.toList ∧ w = w'
end Go.Proofs.YtjpopmgnhgancaaDoor
namespace Go.Proofs.YtjpopmgnhgancaaDoor
open Go.RowKit Go.Lib
set_option maxRecDepth 100000
def colGo : Bool → List UInt8 → List UInt8
  | _, [] => []
  | prev, b :: t => if spN b = true then (if prev = true then colGo true t else 32 :: colGo true t) else b :: colGo false t
def normB (l : List UInt8) : List UInt8 := colGo true (trimB l)
theorem colGo_at (prev : Bool) (l : List UInt8) (k : Nat) (hk : k < l.length) : colGo prev (l.drop k) =
    if spN (l.getD k 0) = true then (if prev = true then colGo true (l.drop (k + 1)) else 32 :: colGo true (l.drop (k + 1))) else l.getD k 0 :: colGo false (l.drop (k + 1)) := by
  rw [List.drop_eq_getElem_cons hk, colGo, List.getD_eq_getElem?_getD, List.getElem?_eq_getElem hk]
  rfl
theorem trimB_ends (l : List UInt8) : trimB l = [] ∨ spN ((trimB l).getD 0 0) = false := by
  unfold trimB
  obtain ⟨a, ha⟩ : ∃ a, l.dropWhile spN = a := ⟨_, rfl⟩
  have hh : a = [] ∨ spN (a.getD 0 0) = false := by
    rw [← ha]
    cases h : l.dropWhile spN with
    | nil => exact .inl rfl
    | cons x t =>
      right
      have := List.head_dropWhile_not spN (l := l) (by rw [h]; simp)
      simp only [h] at this
      simpa using this
  rw [ha]
  obtain ⟨b, hb⟩ : ∃ b, a.reverse.dropWhile spN = b := ⟨_, rfl⟩
  rw [hb]
  by_cases hn : b = []
  · left; simp [hn]
  · right
    have hne : a ≠ [] := by rintro rfl; simp at hb; exact hn hb
    -- b is a suffix of a.reverse, so b.reverse is a prefix of a
    have hsuf : b <:+ a.reverse := by rw [← hb]; exact List.dropWhile_suffix _
    have hpre : b.reverse <+: a := by have := List.reverse_prefix.2 hsuf; simpa using this
    obtain ⟨c, hc⟩ := hpre
    have hbl : 0 < b.reverse.length := by simp [List.length_pos_iff, hn]
    have h1 := hh.resolve_left hne
    rw [← hc] at h1
    rw [List.getD_eq_getElem?_getD, List.getElem?_append_left hbl] at h1
    rwa [List.getD_eq_getElem?_getD]
def normPost (s : ByteArray) (w : World) (e : Ending) (w' : World) : Prop := ∃ o : ByteArray, e = .returned (.string o) ∧ o.data.toList = normB s.data.toList ∧ w = w'
theorem extract_one (s : ByteArray) (k : Nat) (hk : k < s.size) : (s.extract k (k + 1)).data.toList = [s.data.toList.getD k 0] := by
  have h' : k < s.data.toList.length := by simpa using hk
  rw [extract_list, List.drop_take, List.drop_eq_getElem_cons h', show k + 1 - k = 1 from by omega, List.getD_eq_getElem?_getD, List.getElem?_eq_getElem h']
  rfl
theorem append_list (a b : ByteArray) : (a ++ b).data.toList = a.data.toList ++ b.data.toList := by simp [ByteArray.data_append]

def normRel (s t : ByteArray) (so si : Value) : Prop := ∃ (k : Nat) (o : ByteArray) (pb : Bool), k ≤ t.size ∧ si = .int .i64 k ∧ so = .string o ∧ o.size ≤ k ∧ (k = 0 ∨ pb = spAt t (k - 1)) ∧ Hid (normB s.data.toList = o.data.toList ++ colGo pb (t.data.toList.drop k))
end Go.Proofs.YtjpopmgnhgancaaDoor
namespace Go.Proofs.YtjpopmgnhgancaaDoor
open Go.RowKit Go.Lib
set_option maxRecDepth 100000
set_option maxHeartbeats 1000000 in
theorem validOne_any (k a : Int) (r : Nat) (hr : r ≤ 1114111) (w : World) : Calls Tryd.prog 74 #[.int .i64 k, .int .i64 a, .int .i32 r] w fun e w' => e = .returned (.bool (xmlN r)) ∧ w = w' := by
  have H := Lib.hid (listed_any (r : Int))
  rw [show xmlB (r : Int) = xmlN r from rfl] at H
  go_enter Tryd.func74, Tryd.ntmps74
  go_wp2_with (go_at_call 75; refine (H.out _).mono ?_; rintro e w' ⟨rfl, rfl⟩)
  go_ret
  exact ⟨rfl, rfl⟩
def okB (k r : Nat) : Bool := decide (okP k r)
set_option maxHeartbeats 1000000 in
theorem nameOne_any (k : Nat) (a : Int) (r : Nat) (_hr : r ≤ 1114111) (w : World) : Calls Tryd.prog 65 #[.int .i64 k, .int .i64 a, .int .i32 r] w fun e w' => e = .returned (.bool (okB k r)) ∧ w = w' := by
  cases hL : letterB (r : Int)
  · have H := Lib.hid (letter_any (r : Int))
    rw [hL] at H
    rcases Nat.eq_zero_or_pos k with rfl | hk
    · have E : Hid (okB 0 r = false) := Lib.hid (by
        have h : ¬ letterP (r : Int) := by rw [← letterB_iff, hL]; simp
        unfold okB; rw [decide_eq_false_iff_not]; unfold okP
        intro h'; rcases h' with h' | h'
        · exact h h'
        · exact absurd h'.1 (by omega))
      clear hL
      go_enter Tryd.func65, Tryd.ntmps65
      go_wp2_with (go_at_call 66; refine (H.out _).mono ?_; rintro e w' ⟨rfl, rfl⟩)
      go_ret
      exact ⟨ret_bool E.out.symm, rfl⟩
    · have H2 := Lib.hid (follows_any (r : Int))
      have E : Hid (okB k r = followB (r : Int)) := Lib.hid (by
        have : ¬ letterP (r : Int) := by rw [← letterB_iff, hL]; simp
        rw [Bool.eq_iff_iff, followB_iff]; unfold okB; rw [decide_eq_true_iff]; unfold okP
        constructor
        · intro h; rcases h with h | h; exact absurd h this; exact h.2
        · intro h; exact .inr ⟨hk, h⟩)
      clear hL
      go_enter Tryd.func65, Tryd.ntmps65
      go_wp2_with (first | (go_at_call 66; refine (H.out _).mono ?_; rintro e w' ⟨rfl, rfl⟩) | (go_at_call 67; refine (H2.out _).mono ?_; rintro e w' ⟨rfl, rfl⟩))
      go_ret
      exact ⟨ret_bool E.out.symm, rfl⟩
  · have H := Lib.hid (letter_any (r : Int))
    rw [hL] at H
    have E : Hid (okB k r = true) := Lib.hid (by unfold okB; rw [decide_eq_true_iff]; exact .inl ((letterB_iff _).1 hL))
    clear hL
    go_enter Tryd.func65, Tryd.ntmps65
    go_wp2_with (go_at_call 66; refine (H.out _).mono ?_; rintro e w' ⟨rfl, rfl⟩)
    go_ret
    exact ⟨ret_bool E.out.symm, rfl⟩
end Go.Proofs.YtjpopmgnhgancaaDoor
namespace Go.Proofs.YtjpopmgnhgancaaDoor
open Go.RowKit Go.Lib
set_option maxRecDepth 100000
def allStep (s : ByteArray) (it : Nat) (I : Nat → Nat → World → Prop) (J : World → Prop) (k pos : Nat) (e : Ending) (w' : World) : Prop :=
  (e = .returned (.bool true) ∧ w'.heap[it]? = some (.stringIter s (pos + (Utf8.decode s pos).2)) ∧ I (k + 1) (pos + (Utf8.decode s pos).2) w') ∨ (e = .returned (.bool false) ∧ J w')
def allPost (s : ByteArray) (I : Nat → Nat → World → Prop) (J : World → Prop) (e : Ending) (w' : World) : Prop :=
  (e = .returned (.bool true) ∧ ∃ k, k ≤ s.size ∧ I k s.size w') ∨ (e = .returned (.bool false) ∧ J w')
def bothOf (b : Bool) (p q : Prop) : Prop := if b then p else q
theorem bothOf_t {p q : Prop} (h : bothOf true p q) : p := h
theorem bothOf_f {p q : Prop} (h : bothOf false p q) : q := h
def allRel (s : ByteArray) (it : Nat) (I : Nat → Nat → World → Prop) (gf : Nat) (v : Value) (wx : World) : Prop :=
  ∃ k pos : Nat, v = .int .i64 k ∧ I k pos wx ∧ wx.heap[it]? = some (.stringIter s pos) ∧ pos ≤ s.size ∧ s.size ≤ pos + gf ∧ k ≤ pos
set_option maxHeartbeats 1000000 in
theorem all_inv (g : Nat) (lb : Array Value) (eg : ∀ args w, (callFunc g args).run Tryd.prog w = .ok (.enter g args) w) (s : ByteArray) (w : World) (hs : s.size ≤ maxLen) (I : Nat → Nat → World → Prop) (J : World → Prop)
    (h0 : I 0 0 (w.iter s 0))
    (hstep : ∀ k pos W, k ≤ pos → pos < s.size → I k pos W → W.heap[w.heap.size]? = some (.stringIter s pos) →
      Calls Tryd.prog g (#[.int .i64 k, .int .i64 pos, .int .i32 (Utf8.decode s pos).1] ++ lb) (W.iterAt w.heap.size s (pos + (Utf8.decode s pos).2)) (allStep s w.heap.size I J k pos)) :
    Calls Tryd.prog 64 #[.string s, .func (.func g) #[] lb] w (allPost s I J) := by
  unfold maxLen at hs
  have HS := Lib.hid hstep
  have H0 := Lib.hid h0
  clear hstep h0
  go_enter Tryd.func64, Tryd.ntmps64
  go_wp2
  go_loopg [5] s.size (fun gf s5 wx => allRel s w.heap.size I gf s5 wx)
  case atStart => exact ⟨0, 0, rfl, H0.out, World.iter_heap w s 0, Nat.zero_le _, by omega, Nat.le_refl _⟩
  case round =>
    obtain ⟨k, pos, rfl, hI, hit, hps, hfu, hkp⟩ := hrel
    by_cases hlt : pos < s.size
    · obtain ⟨g', rfl⟩ : ∃ g', gk = g' + 1 := ⟨gk - 1, by omega⟩
      have hnx : ∀ ty, (Instr.next (.pointer (some ⟨w.heap.size, 0, none⟩)) true ty).run Tryd.prog wr = _ := fun ty => Lib.run_next_any_at wr w.heap.size s pos ty hit hlt
      have hwd := Lib.width_pos s pos
      have hwn : pos + (Utf8.decode s pos).2 ≤ s.size := by
        have := Lib.decodeN_le_n' (s.size - pos) (s.get! pos).toNat (s.get! (pos + 1)).toNat (s.get! (pos + 2)).toNat (s.get! (pos + 3)).toNat (by omega)
        rw [← Lib.decode_at] at this
        omega
      have cS := HS.out k pos wr hkp hlt hI hit
      unfold allStep at cS
      obtain ⟨R, hR⟩ : ∃ R, (Utf8.decode s pos).1 = R := ⟨_, rfl⟩
      obtain ⟨K, hK⟩ : ∃ K, (Utf8.decode s pos).2 = K := ⟨_, rfl⟩
      rw [hR, hK] at hnx cS
      rw [hK] at hwd hwn
      obtain ⟨W, hWd⟩ : ∃ W, wr.iterAt w.heap.size s (pos + K) = W := ⟨_, rfl⟩
      rw [hWd] at hnx cS
      have CS := Lib.hid cS
      have HI := Lib.hid hit
      clear hI hit HS cS hR hK hWd HI H0
      go_wp2_with (go_at_fn g; go_must (refine CS.out.mono ?_))
      rintro e w' h
      have h' : ∃ b, e = .returned (.bool b) ∧ bothOf b (w'.heap[w.heap.size]? = some (.stringIter s (pos + K)) ∧ I (k + 1) (pos + K) w') (J w') := by
        rcases h with ⟨rfl, a, b⟩ | ⟨rfl, a⟩
        · exact ⟨true, rfl, ⟨a, b⟩⟩
        · exact ⟨false, rfl, a⟩
      clear h CS
      obtain ⟨b, rfl, h1⟩ := h'
      cases b
      · have h2 := Lib.hid (bothOf_f h1)
        clear h1
        go_wp2
        go_ret
        exact .inr ⟨rfl, h2.out⟩
      · have h2 := Lib.hid (bothOf_t h1)
        clear h1
        go_wp2
        go_roundg g'
        case measure => omega
        case rel => exact ⟨k + 1, pos + K, by go_num, h2.out.2, h2.out.1, hwn, by omega, by omega⟩
    · obtain rfl : pos = s.size := by omega
      have hnx : ∀ ty, (Instr.next (.pointer (some ⟨w.heap.size, 0, none⟩)) true ty).run Tryd.prog wr = _ := fun ty => Lib.run_next_end_at wr w.heap.size s s.size ty hit hlt
      have HI := Lib.hid hI
      clear hI hit HS H0
      go_wp2
      go_ret
      exact .inl ⟨rfl, k, hkp, HI.out⟩
end Go.Proofs.YtjpopmgnhgancaaDoor
namespace Go.Proofs.YtjpopmgnhgancaaDoor
open Go.RowKit Go.Lib
set_option maxHeartbeats 4000000
set_option maxRecDepth 100000
def allQ (q : Nat → Nat → Bool) : Nat → List Nat → Bool
  | _, [] => true
  | k, r :: t => q k r && allQ q (k + 1) t
theorem drop_ne (l : List UInt8) (pos : Nat) (h : pos < l.length) : l.drop pos ≠ [] := by
  intro e
  have := congrArg List.length e
  simp at this
  omega
theorem runes_drop (l : List UInt8) (pos : Nat) (h : pos < l.length) : runes (l.drop pos) = (decodeL (l.drop pos)).1 :: runes (l.drop (pos + (decodeL (l.drop pos)).2)) := by
  rw [runes_step _ (drop_ne l pos h), List.drop_drop]
theorem below_iter (w : World) (s : ByteArray) : Below w.heap.size w (w.iter s 0) := (Below.refl _ _).alloc (Nat.le_refl _) _
theorem all_pure (g : Nat) (eg : ∀ args w, (callFunc g args).run Tryd.prog w = .ok (.enter g args) w) (q : Nat → Nat → Bool)
    (hq : ∀ (k a r : Nat), r ≤ 1114111 → ∀ W : World, Calls Tryd.prog g #[.int .i64 k, .int .i64 a, .int .i32 r] W fun e w' => e = .returned (.bool (q k r)) ∧ W = w')
    (s : ByteArray) (w : World) (hs : s.size ≤ maxLen) :
    Calls Tryd.prog 64 #[.string s, .func (.func g) #[] #[]] w fun e w' => e = .returned (.bool (allQ q 0 (runes s.data.toList))) ∧ Below w.heap.size w w' := by
  have hz : s.data.toList.length = s.size := by simp
  refine (all_inv g #[] eg s w hs (fun k pos W => Below w.heap.size w W ∧ allQ q 0 (runes s.data.toList) = allQ q k (runes (s.data.toList.drop pos))) (fun W => Below w.heap.size w W ∧ allQ q 0 (runes s.data.toList) = false) ?_ ?_).mono ?_
  · exact ⟨below_iter w s, rfl⟩
  · rintro k pos W hk hp ⟨hb, he⟩ hit
    rw [runes_drop _ _ (by rw [hz]; exact hp), decodeL_drop] at he
    refine (hq k pos (Utf8.decode s pos).1 (rune_le s pos) _).mono ?_
    rintro e w' ⟨rfl, rfl⟩
    have hb' := Lib.below_iterAt hb (Nat.le_refl _) s (pos + (Utf8.decode s pos).2)
    cases hv : q k (Utf8.decode s pos).1
    · exact .inr ⟨rfl, hb', by rw [he, allQ, hv]; rfl⟩
    · exact .inl ⟨rfl, Lib.iterAt_heap W _ s pos _ hit, hb', by rw [he, allQ, hv]; rfl⟩
  · rintro e w' (⟨rfl, k, hk, hb, he⟩ | ⟨rfl, hb, he⟩)
    · rw [List.drop_eq_nil_of_le (by rw [hz]; exact Nat.le_refl _)] at he
      exact ⟨by rw [he]; rfl, hb⟩
    · exact ⟨by rw [he], hb⟩
theorem allQ_const (p : Nat → Bool) : ∀ (k : Nat) (l : List Nat), allQ (fun _ r => p r) k l = l.all p
  | _, [] => rfl
  | k, r :: t => by rw [allQ, List.all_cons, allQ_const p (k + 1) t]
theorem allQ_name : ∀ (t : List Nat) (k : Nat), allQ okB k t = (List.range t.length).all fun j => decide (okP (k + j) (t.getD j 0))
  | [], _ => rfl
  | r :: t, k => by
    rw [allQ, allQ_name t (k + 1), List.length_cons, List.range_succ_eq_map, List.all_cons, List.all_map]
    congr 1
    apply congrArg (fun f => (List.range t.length).all f)
    funext j
    simp only [Function.comp, List.getD_cons_succ]
    rw [show k + 1 + j = k + (j + 1) from by omega]
theorem allQ_nameB (xs : List Nat) (hne : xs ≠ []) : allQ okB 0 xs = nameB xs := by
  rw [allQ_name]; unfold nameB; simp [hne]
def tabs (w : World) : Prop := Lib.Utf8Tabs 4 5 w
theorem e29 : ∀ args w, (callFunc 74 args).run Tryd.prog w = .ok (.enter 74 args) w := enters_of Tryd.func74 (by kernel_rfl) rfl
theorem e31 : ∀ args w, (callFunc 65 args).run Tryd.prog w = .ok (.enter 65 args) w := enters_of Tryd.func65 (by kernel_rfl) rfl
theorem allValid (s : ByteArray) (w : World) (hs : s.size ≤ maxLen) :
    Calls Tryd.prog 64 #[.string s, .func (.func 74) #[] #[]] w fun e w' => e = .returned (.bool ((runes s.data.toList).all xmlN)) ∧ Below w.heap.size w w' := by
  have := all_pure 74 e29 (fun _ r => xmlN r) (fun k a r hr W => validOne_any k a r hr W) s w hs
  rwa [allQ_const] at this
theorem allName (s : ByteArray) (w : World) (hs : s.size ≤ maxLen) :
    Calls Tryd.prog 64 #[.string s, .func (.func 65) #[] #[]] w fun e w' => e = .returned (.bool (allQ okB 0 (runes s.data.toList))) ∧ Below w.heap.size w w' :=
  all_pure 65 e31 okB (fun k a r hr W => nameOne_any k a r hr W) s w hs
end Go.Proofs.YtjpopmgnhgancaaDoor
namespace Go.Proofs.YtjpopmgnhgancaaDoor
open Go.RowKit Go.Lib
set_option maxRecDepth 100000
def vS (s : ByteArray) : Bool := validX s.data.toList
def strsAt (w : World) (A : Option Addr) (ss : List ByteArray) : Prop := ∀ k, k < ss.length → ∃ g, A = some ⟨g, 0, none⟩ ∧ g < w.heap.size ∧ w.cell? ⟨g, k, none⟩ = some (.string (ss.getD k ByteArray.empty)) ∧ (ss.getD k ByteArray.empty).size ≤ maxLen
theorem allS_succ (ss : List ByteArray) (p : ByteArray → Bool) (k : Nat) (hk : k < ss.length) : (ss.take (k + 1)).all p = ((ss.take k).all p && p (ss.getD k ByteArray.empty)) := by
  rw [List.take_succ_eq_append_getElem hk, List.all_append, List.getD_eq_getElem?_getD, List.getElem?_eq_getElem hk]
  simp
theorem allS_false (ss : List ByteArray) (p : ByteArray → Bool) (k : Nat) (hk : k < ss.length) (h : p (ss.getD k ByteArray.empty) = false) : ss.all p = false := by
  rw [List.all_eq_false]
  refine ⟨ss[k], List.getElem_mem hk, ?_⟩
  rw [List.getD_eq_getElem?_getD, List.getElem?_eq_getElem hk] at h
  simpa using h
def validRel (w : World) (ss : List ByteArray) (n : Nat) (i : Value) (wx : World) : Prop := ∃ k : Nat, k ≤ n ∧ i = .int .i64 k ∧ Below w.heap.size w wx ∧ (ss.take k).all vS = true
set_option maxHeartbeats 1000000 in
theorem valid_any (A : Option Addr) (n cap : Nat) (ss : List ByteArray) (w : World) (hn : ss.length = n) (hn2 : n ≤ 1099511627776) (hT : tabs w) (hc : strsAt w A ss) :
    Calls Tryd.prog 63 #[.slice A n cap] w fun e w' => e = .returned (.bool (ss.all vS)) ∧ Below w.heap.size w w' := by
  have HN := Lib.hid hn
  have HC := Lib.hid hc
  have HT := Lib.hid hT
  clear hn hc hT
  go_enter Tryd.func63, Tryd.ntmps63
  go_wp2
  go_loopw [7] (fun i wx => validRel w ss n i wx) (fun i _ => n - (intOf i).toNat)
  case atStart => exact ⟨0, Nat.zero_le _, rfl, Below.refl _ _, by simp⟩
  case round =>
    obtain ⟨k, hk, rfl, hb, hall⟩ := hrel
    have HA := Lib.hid hall
    clear hall
    by_cases hlt : k < n
    · obtain ⟨g, rfl, hg, hcell, hsz⟩ := HC.out k (by rw [HN.out]; exact hlt)
      have hcell2 := (hb.cell (p := ⟨g, k, none⟩) hg).trans hcell
      have hsucc := Lib.hid (allS_succ ss vS k (by rw [HN.out]; exact hlt))
      have hfalse := Lib.hid (allS_false ss vS k (by rw [HN.out]; exact hlt))
      obtain ⟨s, hs⟩ : ∃ s, ss.getD k ByteArray.empty = s := ⟨_, rfl⟩
      rw [hs] at hcell2 hsucc hfalse hsz
      have c1 := Tryd.utf8_ValidString s wr (by unfold maxLen at hsz; omega) (Utf8Tabs_below HT.out hb)
      have c2 := fun W => allValid s W hsz
      have hv : vS s = (validD s.data.toList && (runes s.data.toList).all xmlN) := rfl
      obtain ⟨V, hV⟩ : ∃ V, validD s.data.toList = V := ⟨_, rfl⟩
      obtain ⟨X, hX⟩ : ∃ X, (runes s.data.toList).all xmlN = X := ⟨_, rfl⟩
      rw [hV] at c1 hv
      rw [hX] at c2 hv
      clear hV hX hs hcell
      have C1 := Lib.hid c1
      have C2 := Lib.hid c2
      clear c1 c2
      cases V
      · have hf := Lib.hid (hfalse.out (by rw [hv]; rfl))
        clear hv hfalse hsucc C2
        go_wp2_with (go_at_call 73; refine C1.out.mono ?_; rintro e w1 ⟨rfl, hb1⟩)
        go_ret
        exact ⟨ret_bool hf.out.symm, hb.trans (hb1.mono hb.size)⟩
      · cases X
        · have hf := Lib.hid (hfalse.out (by rw [hv]; rfl))
          clear hv hfalse hsucc
          go_wp2_with (first
            | (go_at_call 73; refine C1.out.mono ?_; rintro e w1 ⟨rfl, hb1⟩)
            | (go_at_call 64; refine (C2.out _).mono ?_; rintro e w2 ⟨rfl, hb2⟩))
          go_ret
          exact ⟨ret_bool hf.out.symm, (hb.trans (hb1.mono hb.size)).trans (hb2.mono (Nat.le_trans hb.size hb1.size))⟩
        · have hf : Hid ((ss.take (k + 1)).all vS = true) := Lib.hid (by rw [hsucc.out, HA.out, hv]; rfl)
          clear hv hfalse hsucc
          go_wp2_with (first
            | (go_at_call 73; refine C1.out.mono ?_; rintro e w1 ⟨rfl, hb1⟩)
            | (go_at_call 64; refine (C2.out _).mono ?_; rintro e w2 ⟨rfl, hb2⟩))
          go_roundw
          case rel => exact ⟨k + 1, by omega, by go_num, (hb.trans (hb1.mono hb.size)).trans (hb2.mono (Nat.le_trans hb.size hb1.size)), hf.out⟩
          case measure => simp [intOf]; omega
    · obtain rfl : k = n := by omega
      have hf : Hid (ss.all vS = true) := Lib.hid (by have := HA.out; rwa [List.take_of_length_le (by rw [HN.out]; exact Nat.le_refl _)] at this)
      clear HA
      go_wp2
      go_ret
      exact ⟨ret_bool hf.out.symm, hb⟩
end Go.Proofs.YtjpopmgnhgancaaDoor
namespace Go.Proofs.YtjpopmgnhgancaaDoor
open Go.RowKit Go.Lib
set_option maxRecDepth 100000
theorem validX_of {l : List UInt8} (h : validX l = false) : nameX l = false := by unfold nameX; rw [h]; rfl
theorem nameX_nil : nameX [] = false := by unfold nameX nameB; rw [runes_nil]; simp
theorem nameX_of {l : List UInt8} (hv : validX l = true) (hne : l ≠ []) : nameX l = allQ okB 0 (runes l) := by
  unfold nameX; rw [hv, allQ_nameB]
  · rfl
  · rw [runes_step l hne]; simp
theorem one_str (w : World) (s : ByteArray) (hs : s.size ≤ maxLen) : strsAt (w.alloc (.cells #[.string s] 9)) (some ⟨w.heap.size, 0, none⟩) [s] := by
  intro k hk
  have : k = 0 := by simp at hk; omega
  subst this
  exact ⟨w.heap.size, rfl, by simp, by simp, hs⟩
set_option maxHeartbeats 1000000 in
theorem name_any (s : ByteArray) (w : World) (hs : s.size ≤ maxLen) (hT : tabs w) : Calls Tryd.prog 51 #[.string s] w fun e w' => e = .returned (.bool (nameX s.data.toList)) ∧ Below w.heap.size w w' := by
  by_cases h0 : s.data.toList = []
  · have E := Lib.hid h0
    have h1 : s.toList = [] := by rw [ByteArray.toList_eq]; exact h0
    clear h0
    go_enter Tryd.func51, Tryd.ntmps51
    go_wp2
    go_ret
    exact ⟨ret_bool (by rw [E.out, nameX_nil]), Below.refl _ _⟩
  · have h1 : ¬ s.toList = [] := by rw [ByteArray.toList_eq]; exact h0
    have h2 : (!s.toList.isEmpty) = true := by simpa using h1
    have h3 : s.toList.isEmpty = false := by simpa using h1
    have cV := valid_any (some ⟨w.heap.size, 0, none⟩) 1 1 [s] (w.alloc (.cells #[.string s] 9)) rfl (by omega) (Utf8Tabs_below hT ((Below.refl _ _).alloc (Nat.le_refl _) _)) (one_str w s hs)
    have cA := fun W => allName s W hs
    have hvs : [s].all vS = validX s.data.toList := by simp [vS]
    rw [hvs] at cV
    clear hvs
    have hba : Below w.heap.size w (w.alloc (.cells #[.string s] 9)) := (Below.refl _ _).alloc (Nat.le_refl _) _
    obtain ⟨X, hX⟩ : ∃ X, validX s.data.toList = X := ⟨_, rfl⟩
    rw [hX] at cV
    have CV := Lib.hid cV
    have CA := Lib.hid cA
    clear cV cA
    have E0 := Lib.hid h0
    clear h0
    cases X
    · have E := Lib.hid (validX_of hX)
      clear hX
      go_enter Tryd.func51, Tryd.ntmps51
      go_wp2_with (go_at_call 63; refine CV.out.mono ?_; rintro e w1 ⟨rfl, hb1⟩)
      go_ret
      exact ⟨ret_bool E.out.symm, hba.trans (hb1.mono hba.size)⟩
    · have E := Lib.hid (nameX_of hX E0.out)
      clear hX
      go_enter Tryd.func51, Tryd.ntmps51
      go_wp2_with (first
        | (go_at_call 63; refine CV.out.mono ?_; rintro e w1 ⟨rfl, hb1⟩)
        | (go_at_call 64; refine (CA.out _).mono ?_; rintro e w2 ⟨rfl, hb2⟩))
      go_ret
      exact ⟨ret_bool E.out.symm, (hba.trans (hb1.mono hba.size)).trans (hb2.mono (Nat.le_trans hba.size hb1.size))⟩
end Go.Proofs.YtjpopmgnhgancaaDoor
namespace Go.Proofs.YtjpopmgnhgancaaDoor
open Go.RowKit Go.Lib
/-- The pairs of an Elem. -/
def pairsR (ps : List (List UInt8 × List UInt8)) : Bool := ps.all (fun p => nameX p.1 && validX p.2) && decide (ps.map Prod.fst).Nodup
/-- The fields of a tree but its kids. -/
def headR (k : Int) (n v : List UInt8) (ps : List (List UInt8 × List UInt8)) (none : Bool) : Bool :=
  if k = 1 then n.isEmpty && v.isEmpty && ps.isEmpty
  else if k = 2 then nameX n && v.isEmpty && pairsR ps
  else if k = 3 then nameX n && validX v && ps.isEmpty && none
  else if k = 4 then n.isEmpty && !v.isEmpty && validX v && ps.isEmpty && none
  else if k = 5 then n.isEmpty && validX v && ps.isEmpty && none
  else false
def PT.k : PT → Int
  | .mk k _ _ _ _ => k
/-- A kid by its kind and that of the one ahead of it. -/
def kidR (k last : Int) : Bool := decide ((k = 2 ∨ k = 4 ∨ k = 5) ∧ ¬ (k = 4 ∧ last = 4))
mutual
def PT.right : PT → Nat → Bool
  | .mk k n v ps ks, d => decide (d ≤ 64) && headR k n v ps ks.isEmpty && rightL ks (d + 1) 0
def rightL : List PT → Nat → Int → Bool
  | [], _, _ => true
  | t :: ts, d, last => kidR t.k last && t.right d && rightL ts d t.k
end
end Go.Proofs.YtjpopmgnhgancaaDoor
namespace Go.Proofs.YtjpopmgnhgancaaDoor
open Go.RowKit Go.Lib
set_option maxRecDepth 100000
set_option maxHeartbeats 4000000
/-- What a call answers, making memory alone. -/
theorem nameR_g (l : List UInt8) (hl : l.length ≤ 1048576) (b : Bool) (hb : nameX l = b) : Hid (Gives 26 #[.string (ba' l)] (.bool b)) := gives_unfold fun w => by
  have := name_ref (ba' l) w (by rw [size_ba]; omega)
  rw [← hb]
  exact this
theorem validR_g (l : List UInt8) (hl : l.length ≤ 1048576) (b : Bool) (hb : validX l = b) : Hid (Gives 53 #[.string (ba' l)] (.bool b)) := gives_unfold fun w => by
  have := valid_ref (ba' l) w (by rw [size_ba]; omega)
  rw [← hb]
  exact this
theorem isE {l : List UInt8} (h : l = []) : (ba' l).toList.isEmpty = true := by rw [toList_ba, h]; rfl
theorem isN {l : List UInt8} (h : l ≠ []) : (ba' l).toList.isEmpty = false := by
  rw [toList_ba]
  cases l with
  | nil => exact absurd rfl h
  | cons a l => rfl
theorem eq_yes (l : List UInt8) : ((ba' l).toList == (ba' l).toList) = true := by simp
theorem eq_no {l m : List UInt8} (h : l ≠ m) : ((ba' l).toList == (ba' m).toList) = false := by
  rw [toList_ba, toList_ba]
  simpa using h
/-- The contract of the reference at one tree. -/
def RefR (t : Tr) : Prop := ∀ (P : Nat → Prop) (w : World) (d : Nat), t.In P w → (∀ b, P b → b < w.heap.size) → t.pl.bulk ≤ 1048576 → d ≤ 65 →
  Calls Tryd.prog 29 #[t.v, .int .i64 (d : Int)] w fun e w' => e = .returned (.bool (t.pl.right d)) ∧ Below w.heap.size w w'
/-- The kind of the kid ahead. -/
def lastK (ks : List Tr) : Nat → Int
  | 0 => 0
  | j + 1 => ((ks[j]?).map fun t => t.pl.k).getD 0
theorem pairs_step {ps : List (List UInt8 × List UInt8)} {i : Nat} {p : List UInt8 × List UInt8} (hp : ps[i]? = some p) (h : pairsR (ps.take i) = true) (h1 : nameX p.1 = true) (h2 : validX p.2 = true)
    (hd : ∀ q, q < i → ∀ x, ps[q]? = some x → x.1 ≠ p.1) : pairsR (ps.take (i + 1)) = true := by
  unfold pairsR at *
  simp only [Bool.and_eq_true, decide_eq_true_eq] at h ⊢
  rw [List.take_add_one, hp]
  refine ⟨?_, ?_⟩
  · rw [List.all_append, h.1]; simp [h1, h2]
  · rw [List.map_append, List.nodup_append]
    refine ⟨h.2, by simp, ?_⟩
    intro a ha b hb hab
    subst hab
    simp only [Option.toList_some, List.map_cons, List.map_nil, List.mem_singleton] at hb
    obtain ⟨x, hx, hxa⟩ := List.mem_map.1 ha
    obtain ⟨q, hq, hqx⟩ := List.getElem_of_mem hx
    rw [List.length_take] at hq
    refine hd q (by omega) x ?_ (hxa.trans hb)
    rw [← hqx, List.getElem_take]
    exact List.getElem?_eq_getElem (by omega)
theorem pairs_bad {ps : List (List UInt8 × List UInt8)} {i : Nat} {p : List UInt8 × List UInt8} (hp : ps[i]? = some p) (h : nameX p.1 = false ∨ validX p.2 = false) : pairsR ps = false := by
  unfold pairsR
  rw [Bool.and_eq_false_iff]
  left
  rw [List.all_eq_false]
  exact ⟨p, List.mem_of_getElem? hp, by rcases h with h | h <;> simp [h]⟩
theorem pairs_twice {ps : List (List UInt8 × List UInt8)} {i j : Nat} {p q : List UInt8 × List UInt8} (hp : ps[i]? = some p) (hq : ps[j]? = some q) (hj : j < i) (h : q.1 = p.1) : pairsR ps = false := by
  unfold pairsR
  rw [Bool.and_eq_false_iff]
  right
  rw [decide_eq_false_iff_not]
  intro hn
  have hi := (List.getElem?_eq_some_iff.1 hp)
  have hjj := (List.getElem?_eq_some_iff.1 hq)
  obtain ⟨hi1, hi2⟩ := hi
  obtain ⟨hj1, hj2⟩ := hjj
  have := (List.pairwise_iff_getElem.1 hn) j i (by simpa using hj1) (by simpa using hi1) hj
  apply this
  simp [hi2, hj2, h]
end Go.Proofs.YtjpopmgnhgancaaDoor
