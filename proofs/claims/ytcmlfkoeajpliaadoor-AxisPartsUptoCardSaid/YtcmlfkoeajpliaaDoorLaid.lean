/- Trees are laid into a store and into the list. No condition beyond what the theorems state. -/
import Derived.Test.YtcmlfkoeajpliaaDoorRefLay
import Derived.Test.YtcmlfkoeajpliaaDoorBuild
import Derived.Test.YtcmlfkoeajpliaaDoorParts
import Derived.Test.YtcmlfkoeajpliaaDoorRefFew
import Derived.Test.YtcmlfkoeajpliaaDoorRefRight
namespace Go.Proofs.YtcmlfkoeajpliaaDoor
open Go.RowKit Go.Lib
set_option maxRecDepth 100000
theorem StoreAt.same {w w' : World} {sb lim : Nat} {A : Option Addr} {c : Nat} {L : List En} (h : StoreAt w sb lim A c L) (hz : w.heap.size ≤ w'.heap.size) (hs : w'.heap[sb]? = w.heap[sb]?) (hA : ∀ b, blkOf A = some b → w'.heap[b]? = w.heap[b]?) : StoreAt w' sb lim A c L := by
  obtain ⟨h0, h1, h2, h3, h4⟩ := h
  refine ⟨Nat.lt_of_lt_of_le h0 hz, (World.cell?_of_block hs).trans h1, (World.cell?_of_block hs).trans h2, (World.frozen?_of_block (a := ⟨sb, 1, none⟩) hs).trans h3, own_keep h4 fun b hb => ?_⟩
  rw [own_blk] at hb
  exact hA b hb
/-- Trees laid into a store, and their nodes in a row of the call's own. -/
structure LaidS (w0 W : World) (sb : Nat) (A : Option Addr) (c : Nat) (Al : Option Addr) (cl : Nat) (us : List Tr) : Prop where
  below : Below w0.heap.size w0 W
  store : StoreAt W sb 1000 A c (layL (plL us) 0 0)
  own : W.ownsRow w0.heap.size 83 6 (.slice Al (sizeL (plL us)) cl) (sizeL (plL us)) (rowN (nodesL us 0 0))
  sbw : w0.heap.size ≤ sb
  nsb : blkOf Al ≠ some sb
  nA : ∀ b, blkOf Al = some b → blkOf A ≠ some b
  trees : InL (fun b => b < W.heap.size ∧ b ≠ sb ∧ blkOf A ≠ some b ∧ blkOf Al ≠ some b) W us
  fine : ∀ t ∈ us, t.pl.right 0 = true ∧ t.pl.size ≤ 60 ∧ t.pl.bulk ≤ 1048576
theorem LaidS.later {w0 W W' : World} {sb : Nat} {A : Option Addr} {c : Nat} {Al : Option Addr} {cl : Nat} {us : List Tr} (h : LaidS w0 W sb A c Al cl us) (hb : Below W.heap.size W W') : LaidS w0 W' sb A c Al cl us :=
  { h with below := h.below.trans (hb.mono h.below.size), store := h.store.below hb, own := own_below h.own hb, trees := inL_iff.2 fun t ht => (inL_iff.1 h.trees t ht).keep (fun _b h => ⟨Nat.lt_of_lt_of_le h.1 hb.size, h.2⟩) (fun _p hp => hb.cell hp.1) }
theorem plL_app (a b : List Tr) : plL (a ++ b) = plL a ++ plL b := by rw [plL_map, plL_map, plL_map, List.map_append]
theorem plL_one (t : Tr) : plL [t] = [t.pl] := rfl
theorem LaidS.next {w0 wr w5 w6 w7 w8 : World} {sb : Nat} {A A6 : Option Addr} {c c6 : Nat} {Al Al8 : Option Addr} {cl c8 : Nat} {us : List Tr} {t2 : Tr} {T : PT} (h : LaidS w0 wr sb A c Al cl us)
    (hb5 : Below wr.heap.size wr w5) (hB6 : Beside sb A w5 A6 w6) (hS6 : StoreAt w6 sb 1000 A6 c6 (layL (plL us) 0 0 ++ T.lay (sizeL (plL us)) 0)) (hb7 : Below w6.heap.size w6 w7) (hin : t2.In (NewB w6 w7) w7) (hp : t2.pl = T)
    (hL8 : Along Al w7 Al8 w8) (hO8 : w8.ownsRow w0.heap.size 83 6 (.slice Al8 (sizeL (plL us) + T.size) c8) (sizeL (plL us) + T.size) (rowN (nodesL us 0 0 ++ t2.nodes (sizeL (plL us)) 0)))
    (hf : T.right 0 = true ∧ T.size ≤ 60 ∧ T.bulk ≤ 1048576) : LaidS w0 w8 sb A6 c6 Al8 c8 (us ++ [t2]) := by
  have hsw := h.store.1
  have hz5 := hb5.size
  have hz6 := hB6.2.2.2.1
  have hz7 := hb7.size
  have hz8 := hL8.2.2.2.1
  have hb0 := h.below.size
  have hAl : ∀ b, blkOf Al = some b → w0.heap.size ≤ b ∧ b < wr.heap.size := fun b hb => own_lt h.own (by rw [own_blk]; exact hb)
  have hAlb : ∀ b, blkOf A = some b → w0.heap.size ≤ b ∧ b < wr.heap.size := fun b hb => ⟨by have := (StoreAt.lt h.store hb).1; have := h.sbw; omega, (StoreAt.lt h.store hb).2⟩
  -- what is none of the store's and none of the list's stays
  have stay : ∀ b, b < wr.heap.size → b ≠ sb → blkOf A ≠ some b → blkOf Al ≠ some b → w8.heap[b]? = wr.heap[b]? ∧ blkOf A6 ≠ some b ∧ blkOf Al8 ≠ some b := by
    intro b h1 h2 h3 h4
    obtain ⟨e6, n6⟩ := hB6.2.2.2.2 b (by omega) h2 h3
    obtain ⟨e8, n8⟩ := hL8.2.2.2.2 b (by omega) h4
    exact ⟨e8.trans ((hb7.block b (by omega)).trans (e6.trans (hb5.block b h1))), n6, n8⟩
  have hA6n : ∀ b, blkOf A6 = some b → blkOf Al ≠ some b := by
    intro b hb hal
    have h1 := hAl b hal
    exact (hB6.2.2.2.2 b (by omega) (fun e => h.nsb (e ▸ hal)) (h.nA b hal)).2 hb
  have hA6l : ∀ b, blkOf A6 = some b → b < w6.heap.size := fun b hb => (StoreAt.lt hS6 hb).2
  refine ⟨?_, ?_, ?_, h.sbw, ?_, ?_, ?_, ?_⟩
  · refine h.below.trans ⟨?_, ?_, ?_, by omega, fun b hb => (stay b (by omega) (by have := h.sbw; omega) (fun e => by have := (hAlb b e).1; omega) (fun e => by have := (hAl b e).1; omega)).1⟩
    · exact hL8.1.trans (hb7.os.trans (hB6.1.trans hb5.os))
    · exact hL8.2.1.trans (hb7.tape.trans (hB6.2.1.trans hb5.tape))
    · exact hL8.2.2.1.trans (hb7.output.trans (hB6.2.2.1.trans hb5.output))
  · rw [plL_app, plL_one, layL_app, layL, layL, List.append_nil, Nat.zero_add, hp]
    exact (hS6.below hb7).same hz8 (hL8.2.2.2.2 sb (by omega) h.nsb).1 (fun b hb => (hL8.2.2.2.2 b (by have := hA6l b hb; omega) (hA6n b hb)).1)
  · rw [plL_app, plL_one, sizeL_app, sizeL, sizeL, Nat.add_zero, hp, nodesL_app, nodesL, nodesL, List.append_nil, Nat.zero_add]
    exact hO8
  · exact (hL8.2.2.2.2 sb (by omega) h.nsb).2
  · intro b hb hb6
    have h6 := hA6l b hb6
    exact (hL8.2.2.2.2 b (by omega) (hA6n b hb6)).2 hb
  · refine inL_iff.2 fun t ht => ?_
    rcases List.mem_append.1 ht with ht | ht
    · exact (inL_iff.1 h.trees t ht).keep (fun b hb => ⟨by omega, hb.2.1, (stay b hb.1 hb.2.1 hb.2.2.1 hb.2.2.2).2⟩) (fun p hp' => World.cell?_of_block (stay _ hp'.1 hp'.2.1 hp'.2.2.1 hp'.2.2.2).1)
    · obtain rfl : t = t2 := by simpa using ht
      have hne : ∀ b, NewB w6 w7 b → blkOf Al ≠ some b := fun b hb e => by have := (hAl b e).2; have := hb.1; omega
      exact hin.keep (fun b hb => ⟨by have := hb.2; omega, by have := hb.1; omega, fun e => by have := hA6l b e; have := hb.1; omega, (hL8.2.2.2.2 b hb.2 (hne b hb)).2⟩) (fun p hp' => World.cell?_of_block (hL8.2.2.2.2 _ hp'.2 (hne _ hp')).1)
  · intro t ht
    rcases List.mem_append.1 ht with ht | ht
    · exact h.fine t ht
    · obtain rfl : t = t2 := by simpa using ht
      rw [hp]; exact hf
theorem LaidS.size {w0 W : World} {sb : Nat} {A : Option Addr} {c : Nat} {Al : Option Addr} {cl : Nat} {us : List Tr} (h : LaidS w0 W sb A c Al cl us) : sizeL (plL us) ≤ 60 * us.length := by
  have := h.fine
  clear h
  induction us with
  | nil => rw [plL, sizeL]; omega
  | cons a us ih =>
    rw [plL, sizeL, List.length_cons]
    have h1 := (this a (.head _)).2.1
    have h2 := ih (fun t ht => this t (.tail _ ht))
    omega
end Go.Proofs.YtcmlfkoeajpliaaDoor
namespace Go.Proofs.YtcmlfkoeajpliaaDoor
open Go.RowKit Go.Lib
set_option maxRecDepth 100000
set_option maxHeartbeats 8000000
theorem t1_below {w4 w5 wa : World} {t : Tr} (h : t.In (NewB w4 w5) w5) (ha : Below w5.heap.size w5 wa) : t.In (NewB w4 w5) wa := h.below (fun _b hb => hb.2) ha
/-- The trees that are laid: of the first eight those that are right and not great. -/
def goodT (t : PT) : Bool := decide (t.size ≤ 60) && t.right 0
def laidT (L : List PT) (i : Nat) : List PT := (L.take i).filter goodT
theorem laidT_yes {L : List PT} {i : Nat} {t : PT} (h : L[i]? = some t) (hg : goodT t = true) : laidT L (i + 1) = laidT L i ++ [t] := by
  unfold laidT; rw [List.take_add_one, h, List.filter_append]; simp [hg]
theorem laidT_no {L : List PT} {i : Nat} {t : PT} (h : L[i]? = some t) (hg : goodT t = false) : laidT L (i + 1) = laidT L i := by
  unfold laidT; rw [List.take_add_one, h, List.filter_append]; simp [hg]
theorem laid_any (A0 : Option Addr) (cap0 nt : Nat) (ts : List Tr) (w : World) (hT : tabs w) (hR : RdP (fun b => b < w.heap.size) w 5 A0 nt (rowT ts)) (hlen : ts.length = nt) (hin : ∀ t ∈ ts, t.In (fun b => b < w.heap.size) w) (hbk : ∀ t ∈ ts, t.pl.bulk ≤ 1048576) :
    Calls Tryd.prog 34 #[.slice A0 nt cap0] w fun e w' => ∃ sb A c Al cl us, e = .returned (.tuple #[.pointer (some ⟨sb, 0, none⟩), .slice Al (sizeL (plL us)) cl]) ∧ LaidS w w' sb A c Al cl us ∧ plL us = laidT (plL ts) 8 := by
  have HT := Lib.hid hT; have HR := Lib.hid hR; have HLEN := Lib.hid hlen; have HIN := Lib.hid hin; have HBK := Lib.hid hbk
  have HNEW := Lib.hid (new_any 1000 w (by decide) (by decide))
  simp only [show ((1000 : Nat) : Int) = 1000 from rfl] at HNEW
  clear hT hR hlen hin hbk
  go_enter Tryd.func34, Tryd.ntmps34
  go_wp2_with fail
  refine HNEW.out.mono ?_
  rintro e w2 ⟨rfl, rfl⟩
  obtain ⟨w2, hw2⟩ : ∃ w2, w.alloc (.cells #[.int .i64 (1000 : Int), .slice none 0 0] 79) = w2 := ⟨_, rfl⟩
  have hst2 : StoreAt w2 w.heap.size 1000 none 0 [] := by rw [← hw2]; exact new_store 1000 w
  have B2 : Below w.heap.size w w2 := by rw [← hw2]; exact ba (Below.refl _ _)
  have hS0 : LaidS w w2 w.heap.size none 0 none 0 [] := ⟨B2, hst2, World.ownsRow_nil _ _ _ _, Nat.le_refl _, by simp [blkOf], fun b h => by simp [blkOf] at h, by simp [InL], fun t h => nomatch h⟩
  have HS0 := Lib.hid hS0
  simp only [hw2]
  obtain ⟨sb, hsb⟩ : ∃ sb, w.heap.size = sb := ⟨_, rfl⟩
  rw [hsb] at HS0
  have HSB := Lib.hid hsb
  have hsbv : (Value.pointer (some ⟨w.heap.size, 0, none⟩)) = .pointer (some ⟨sb, 0, none⟩) := by rw [hsb]
  simp only [hsbv]
  clear hst2 hS0 hw2 hsb hsbv HNEW
  go_wp2
  go_loopw [6, 7] (fun s6 s7 wx => ∃ (i ln : Nat) (A' : Option Addr) (c' : Nat) (Al : Option Addr) (cl : Nat) (us : List Tr), s6 = .slice Al ln cl ∧ s7 = .int .i64 (i : Int) ∧ i ≤ nt ∧ i ≤ 8 ∧ Hid (us.length ≤ i) ∧ Hid (sizeL (plL us) = ln) ∧ Hid (LaidS w wx sb A' c' Al cl us) ∧ Below w.heap.size w wx ∧ Hid (plL us = laidT (plL ts) i)) (fun _ s7 _ => nt - (intOf s7).toNat)
  case atStart => exact ⟨0, 0, none, 0, none, 0, [], rfl, rfl, by omega, by omega, Lib.hid (by simp), Lib.hid (by rw [plL, sizeL]), HS0, B2, Lib.hid rfl⟩
  case round =>
    obtain ⟨i, ln, A6, c6, Al, cl, us, rfl, rfl, hi, hi8, hul, hln, hS6, hB6, hpl6⟩ := hrel
    clear B2 HS0
    by_cases hlt : i < nt ∧ i < 8
    · obtain ⟨hlt, hl8⟩ := hlt
      have gi : decide ((i : Int) < (nt : Int)) = true := by first | (simp; done) | (simp; omega)
      have gi' : decide (i < nt) = true := by simpa using hlt
      have g8 : decide ((i : Int) < 8) = true := by first | (simp; done) | (simp; omega)
      have hil : i < ts.length := by rw [HLEN.out]; exact hlt
      obtain ⟨t, ht⟩ : ∃ t, ts[i]? = some t := ⟨_, List.getElem?_eq_getElem hil⟩
      have htm := List.mem_of_getElem? ht
      have hin' := (HIN.out t htm).below (fun _ h => h) hB6
      have hbk' := HBK.out t htm
      have hPw : ∀ b, b < w.heap.size → b < wr.heap.size := fun b hb => Nat.lt_of_lt_of_le hb hB6.size
      have HCP := Lib.hid (fun (w3 : World) (hb3 : Below wr.heap.size wr w3) => copy_any t _ w3 (hin'.below hPw hb3) (fun b hb => Nat.lt_of_lt_of_le (hPw b hb) hb3.size) (fit_of_bulk hbk'))
      have HCW := Lib.hid (fun (w3 : World) (hb3 : Below w.heap.size w w3) => copy_any t _ w3 ((HIN.out t htm).below (fun _ h => h) hb3) (fun b hb => Nat.lt_of_lt_of_le hb hb3.size) (fit_of_bulk hbk'))
      have HRT := Lib.hid (fun (w3 : World) (hb3 : Below wr.heap.size wr w3) => refRight_any t _ w3 0 (hin'.below hPw hb3) (fun b hb => Nat.lt_of_lt_of_le (hPw b hb) hb3.size) hbk' (by omega))
      have hka := HR.out.below (fun _ h => h) hB6
      obtain ⟨T, hTe⟩ : ∃ T, t.pl = T := ⟨_, rfl⟩
      rw [hTe] at HCP HCW HRT hbk'
      have HPI : Hid ((plL ts)[i]? = some T) := Lib.hid (by rw [plL_map, List.getElem?_map, ht, ← hTe]; rfl)
      have HTE := Lib.hid hTe
      obtain ⟨k, n, v, A, ac, ps, K, kc, ks⟩ := t
      obtain ⟨ad, rfl, hPad, d0, d1, d2, d3, d4⟩ := kid_at hka ht hlt
      have hb0 : (ad.add (i * 5)).block < wr.heap.size := by rw [block_of_add]; exact hPw _ hPad
      have hb00 : (ad.add (i * 5)).block < w.heap.size := by rw [block_of_add]; exact hPad
      have HF : Hid (∀ (w3 : World) (g cap : Nat), Below wr.heap.size wr w3 → g < w3.heap.size → w3.cell? ⟨g, 0, none⟩ = some (.int .i64 k) → w3.cell? ⟨g, 1, none⟩ = some (.string (ba' n)) → w3.cell? ⟨g, 2, none⟩ = some (.string (ba' v)) → w3.cell? ⟨g, 3, none⟩ = some (.slice A ps.length ac) → w3.cell? ⟨g, 4, none⟩ = some (.slice K ks.length kc) →
          Calls Tryd.prog 14 #[.int .i64 60, .slice (some ⟨g, 0, none⟩) 1 cap] w3 fun e w' => e = .returned (.bool (decide (T.size ≤ 60))) ∧ Below w3.heap.size w3 w') :=
        Lib.hid fun w3 g cap h1 hg h0 ha hb hc hd => by
          have := few_one k n v A ac ps K kc ks _ w3 60 g cap (hin'.below hPw h1) (fun b hb => Nat.lt_of_lt_of_le (hPw b hb) h1.size) (by rw [HTE.out]; exact (fit_of_bulk hbk').2) (by omega) hg h0 ha hb hc hd
          rw [HTE.out] at this
          exact this
      obtain ⟨fb, hfb⟩ : ∃ fb, decide (T.size ≤ 60) = fb := ⟨_, rfl⟩
      obtain ⟨rb, hrb⟩ : ∃ rb, T.right 0 = rb := ⟨_, rfl⟩
      rw [hfb] at HF
      rw [hrb] at HRT
      have HSZ : Hid (fb = true → T.size ≤ 60) := Lib.hid fun h => by rw [h] at hfb; exact of_decide_eq_true hfb
      have HFB := Lib.hid hfb
      have HRB := Lib.hid hrb; have HBT := Lib.hid hbk'
      obtain ⟨np, hnp⟩ : ∃ q, ps.length = q := ⟨_, rfl⟩
      obtain ⟨nk, hnk⟩ : ∃ q, ks.length = q := ⟨_, rfl⟩
      simp only [Tr.v] at HCP HCW HRT
      rw [hnp, hnk] at HCP HCW HF HRT
      rw [hnp] at d3
      rw [hnk] at d4
      have HDW := Lib.hid hb00
      clear hka hil ht htm hin' hbk' hTe hfb hrb hnp hnk hPad hPw hb00 HTE
      have HB6 := Lib.hid hB6
      go_wp2_with fail
      refine (HF.out _ _ _ (by repeat (with_reducible (first | exact Below.refl _ _ | assumption | apply ba | apply bd | apply bdr | (refine bs ?_ (by first | assumption | (simp; done) | (simp; omega))) | (refine bt ?_ (by assumption))))) (by simp) (by first | (simp; done) | (simp [*]; done)) (by first | (simp; done) | (simp [*]; done)) (by first | (simp; done) | (simp [*]; done)) (by first | (simp; done) | (simp [*]; done)) (by first | (simp; done) | (simp [*]; done))).mono ?_
      rintro e w3 ⟨rfl, hb3⟩
      have B3 : Below wr.heap.size wr w3 := (by repeat (with_reducible (first | exact Below.refl _ _ | assumption | apply ba | apply bd | apply bdr | (refine bs ?_ (by first | assumption | (simp; done) | (simp; omega))) | (refine bt ?_ (by assumption)))))
      have d0_3 := (B3.cell hb0).trans d0
      have d1_3 := (B3.cell (show ({ block := (ad.add (i * 5)).block, off := (ad.add (i * 5)).off + 1 } : Addr).block < wr.heap.size from hb0)).trans d1
      have d2_3 := (B3.cell (show ({ block := (ad.add (i * 5)).block, off := (ad.add (i * 5)).off + 2 } : Addr).block < wr.heap.size from hb0)).trans d2
      have d3_3 := (B3.cell (show ({ block := (ad.add (i * 5)).block, off := (ad.add (i * 5)).off + 3 } : Addr).block < wr.heap.size from hb0)).trans d3
      have d4_3 := (B3.cell (show ({ block := (ad.add (i * 5)).block, off := (ad.add (i * 5)).off + 4 } : Addr).block < wr.heap.size from hb0)).trans d4
      clear hb3 HF
      cases fb with
      | false =>
        clear d0_3 d1_3 d2_3 d3_3 d4_3
        go_wp2
        go_roundw
        case rel => exact ⟨i + 1, ln, A6, c6, Al, cl, us, rfl, by go_num, by omega, by omega, Lib.hid (by have := hul.out; omega), hln, Lib.hid (hS6.out.later B3), bt HB6.out B3, Lib.hid (by rw [laidT_no HPI.out (by unfold goodT; rw [HFB.out]; rfl)]; exact hpl6.out)⟩
        case measure => simp [intOf]; omega
      | true =>
        go_wp2_with fail
        refine (HRT.out _ (by repeat (with_reducible (first | exact Below.refl _ _ | assumption | apply ba | apply bd | apply bdr | (refine bs ?_ (by first | assumption | (simp; done) | (simp; omega))) | (refine bt ?_ (by assumption)))))).mono ?_
        rintro e w4 ⟨rfl, hb4⟩
        have B4 : Below wr.heap.size wr w4 := bt B3 hb4
        clear d0_3 d1_3 d2_3 d3_3 d4_3
        have d0_4 := (B4.cell hb0).trans d0
        have d1_4 := (B4.cell (show ({ block := (ad.add (i * 5)).block, off := (ad.add (i * 5)).off + 1 } : Addr).block < wr.heap.size from hb0)).trans d1
        have d2_4 := (B4.cell (show ({ block := (ad.add (i * 5)).block, off := (ad.add (i * 5)).off + 2 } : Addr).block < wr.heap.size from hb0)).trans d2
        have d3_4 := (B4.cell (show ({ block := (ad.add (i * 5)).block, off := (ad.add (i * 5)).off + 3 } : Addr).block < wr.heap.size from hb0)).trans d3
        have d4_4 := (B4.cell (show ({ block := (ad.add (i * 5)).block, off := (ad.add (i * 5)).off + 4 } : Addr).block < wr.heap.size from hb0)).trans d4
        clear hb4 HRT
        cases rb with
        | false =>
          clear d0_4 d1_4 d2_4 d3_4 d4_4
          go_wp2
          go_roundw
          case rel => exact ⟨i + 1, ln, A6, c6, Al, cl, us, rfl, by go_num, by omega, by omega, Lib.hid (by have := hul.out; omega), hln, Lib.hid (hS6.out.later B4), bt HB6.out B4, Lib.hid (by rw [laidT_no HPI.out (by unfold goodT; rw [HRB.out, Bool.and_false])]; exact hpl6.out)⟩
          case measure => simp [intOf]; omega
        | true =>
          go_wp2_with fail
          refine (HCP.out _ (by repeat (with_reducible (first | exact Below.refl _ _ | assumption | apply ba | apply bd | apply bdr | (refine bs ?_ (by first | assumption | (simp; done) | (simp; omega))) | (refine bt ?_ (by assumption)))))).mono ?_
          rintro e w5 ⟨t1, rfl, hp1, hin1, hb5⟩
          have B5 : Below wr.heap.size wr w5 := bt B4 hb5
          have HST := Lib.hid (fun (wa : World) (ha : Below w5.heap.size w5 wa) => (⟨hS6.out.store.below (bt B5 ha), t1_below hin1 ha⟩ : StoreAt wa sb 1000 A6 c6 (layL (plL us) 0 0) ∧ t1.In (NewB w4 w5) wa))
          have hsz := HSZ.out (by first | trivial | rfl)
          have hln8 : sizeL (plL us) ≤ 480 := by have := hS6.out.size; have := hul.out; omega
          have HB1 : Hid (∀ wa : World, Below w5.heap.size w5 wa → Calls Tryd.prog 18 #[.pointer (some ⟨sb, 0, none⟩), t1.v] wa fun e w' => e = .returned (.tuple #[.int .i64 ((ln : Int) + 1), .int .i64 0]) ∧ ∃ A' c', StoreAt w' sb 1000 A' c' (layL (plL us) 0 0 ++ T.lay (sizeL (plL us)) 0) ∧ Beside sb A6 wa A' w') := Lib.hid fun wa ha => by
            have hA6 := fun (b : Nat) (h : blkOf A6 = some b) => (StoreAt.lt hS6.out.store h).2
            have hz4 := B4.size
            have hz5 := hb5.size
            have hza := ha.size
            have hsbl := hS6.out.store.1
            have := build_ok t1 (NewB w4 w5) wa sb 1000 A6 c6 _ (Utf8Tabs_below HT.out (bt HB6.out (bt B5 ha))) (HST.out wa ha).1 (HST.out wa ha).2 (fun b hb => ⟨by have := hb.2; omega, by have := hb.1; omega, fun e => by have := hA6 b e; have := hb.1; omega⟩) (by rw [hp1]; exact fit_of_bulk HBT.out) (by decide) (by rw [layL_len]; omega) (by rw [hp1]; exact HRB.out) (by rw [hp1, layL_len]; omega)
            rw [hp1, layL_len, hln.out, show ((ln + 1 : Nat) : Int) = (ln : Int) + 1 by omega] at this
            rw [hln.out]
            exact this
          obtain ⟨k3, n3, v3, A3, ac3, ps3, K3, kc3, ks3⟩ := t1
          simp only [Tr.v] at HB1 ⊢
          have hln9 : ln ≤ 480 := by rw [← hln.out]; exact hln8
          clear hp1 hin1 HCP hln8 hsz HST
          go_wp2_with fail
          refine (HB1.out _ (by repeat (with_reducible (first | exact Below.refl _ _ | assumption | apply ba | apply bd | apply bdr | (refine bs ?_ (by first | assumption | (simp; done) | (simp; omega))) | (refine bt ?_ (by assumption)))))).mono ?_
          rintro e w6 ⟨rfl, A7, c7, hS7, hB7⟩
          have b67 := Beside.below (B := w.heap.size) hB7 hS6.out.sbw (fun b h => by have := (StoreAt.lt hS6.out.store h).1; have := hS6.out.sbw; omega) (by have := B5.size; have := HB6.out.size; simp; omega)
          have b5a : Below wr.heap.size wr _ := ba (o := .cells #[.int .i64 k3, .string (ba' n3), .string (ba' v3), .slice A3 ps3.length ac3, .slice K3 ks3.length kc3] 33) B5
          have Bw6 : Below w.heap.size w w6 := (bt HB6.out b5a).trans b67
          have HS7 := Lib.hid hS7; have HB7 := Lib.hid hB7; have HB5A := Lib.hid b5a
          have e0 := (b67.cell HDW.out).trans ((b5a.cell hb0).trans d0)
          have e1 := (b67.cell (show ({ block := (ad.add (i * 5)).block, off := (ad.add (i * 5)).off + 1 } : Addr).block < w.heap.size from HDW.out)).trans ((b5a.cell (show ({ block := (ad.add (i * 5)).block, off := (ad.add (i * 5)).off + 1 } : Addr).block < wr.heap.size from hb0)).trans d1)
          have e2 := (b67.cell (show ({ block := (ad.add (i * 5)).block, off := (ad.add (i * 5)).off + 2 } : Addr).block < w.heap.size from HDW.out)).trans ((b5a.cell (show ({ block := (ad.add (i * 5)).block, off := (ad.add (i * 5)).off + 2 } : Addr).block < wr.heap.size from hb0)).trans d2)
          have e3 := (b67.cell (show ({ block := (ad.add (i * 5)).block, off := (ad.add (i * 5)).off + 3 } : Addr).block < w.heap.size from HDW.out)).trans ((b5a.cell (show ({ block := (ad.add (i * 5)).block, off := (ad.add (i * 5)).off + 3 } : Addr).block < wr.heap.size from hb0)).trans d3)
          have e4 := (b67.cell (show ({ block := (ad.add (i * 5)).block, off := (ad.add (i * 5)).off + 4 } : Addr).block < w.heap.size from HDW.out)).trans ((b5a.cell (show ({ block := (ad.add (i * 5)).block, off := (ad.add (i * 5)).off + 4 } : Addr).block < wr.heap.size from hb0)).trans d4)
          have HAL : Hid (∀ b, blkOf Al = some b → w.heap.size ≤ b ∧ b < wr.heap.size) := Lib.hid fun b hb => own_lt hS6.out.own (by rw [own_blk]; exact hb)
          have HO6 : Hid (w6.ownsRow w.heap.size 83 6 (.slice Al (sizeL (plL us)) cl) (sizeL (plL us)) (rowN (nodesL us 0 0))) := Lib.hid (own_keep hS6.out.own fun b hb => by
            rw [own_blk] at hb
            have h1 := HAL.out b hb
            have h2 := b5a.size
            exact (hB7.2.2.2.2 b (by omega) (fun e => hS6.out.nsb (e ▸ hb)) (hS6.out.nA b hb)).1.trans (b5a.block b h1.2))
          have hz6 : wr.heap.size ≤ w6.heap.size := Nat.le_trans b5a.size hB7.2.2.2.1
          clear d0 d1 d2 d3 d4 d0_4 d1_4 d2_4 d3_4 d4_4 hS7 hB7 b67 HB1 b5a
          have g9 : ((ln : Int) + 1 != (ln : Int) + 1) = false := by simp
          go_wp2_with fail
          refine (HCW.out _ Bw6).mono ?_
          rintro e w7 ⟨t2, rfl, hp2, hin2, hb7⟩
          have HL := layRef_any t2 (NewB w6 w7) w7 w.heap.size Al cl (nodesL us 0 0) 0
          rw [nodesL_len, hp2] at HL
          have HLC := Lib.hid (HL (own_below HO6.out hb7) hin2 (fun b hb => ⟨hb.2, fun e => by have := (HAL.out b e).2; have := hb.1; omega⟩) (fit_of_bulk HBT.out) (by have := hS6.out.size; have := hul.out; have := HSZ.out (by first | trivial | rfl); omega) (by have := Bw6.size; have := hb7.size; omega))
          rw [hln.out] at HLC
          have HP2 := Lib.hid hp2; have HIN2 := Lib.hid hin2; have HB7' := Lib.hid hb7
          obtain ⟨k4, n4, v4, A4, ac4, ps4, K4, kc4, ks4⟩ := t2
          simp only [Tr.v] at HLC ⊢
          obtain ⟨l9, hl9⟩ : ∃ l9, ln + T.size = l9 := ⟨_, rfl⟩
          have HL9 := Lib.hid hl9
          simp only [hl9] at HLC
          clear hp2 hin2 hb7 HL hl9 e0 e1 e2 e3 e4
          go_wp2_with fail
          refine HLC.out.mono ?_
          rintro e w8 ⟨A8, c8, rfl, hO8, hL8⟩
          have hnx : LaidS w w8 sb A7 c7 A8 c8 (us ++ [.mk k4 n4 v4 A4 ac4 ps4 K4 kc4 ks4]) := hS6.out.next HB5A.out HB7.out HS7.out HB7'.out HIN2.out HP2.out hL8 (by rw [hln.out, HL9.out]; exact hO8) ⟨HRB.out, HSZ.out (by first | trivial | rfl), HBT.out⟩
          have HNX := Lib.hid hnx
          have Bw8 := hnx.below
          clear hO8 hL8 hnx
          go_wp2
          go_roundw
          case rel => exact ⟨i + 1, l9, A7, c7, A8, c8, _, rfl, by go_num, by omega, by omega, Lib.hid (by rw [List.length_append]; have := hul.out; simp; omega), Lib.hid (by rw [plL_app, plL_one, sizeL_app, sizeL, sizeL, Nat.add_zero, HP2.out, hln.out, HL9.out]), HNX, Bw8, Lib.hid (by rw [laidT_yes HPI.out (by unfold goodT; rw [HFB.out, HRB.out]; rfl), plL_app, plL_one, HP2.out, hpl6.out])⟩
          case measure => simp [intOf]; omega
    · have fin : ∀ g : Bool, True := fun _ => trivial
      by_cases hln' : i < nt
      · have H8 : Hid (i = 8) := Lib.hid (by omega)
        have g8 : decide ((i : Int) < 8) = false := by simp; omega
        have gi : decide ((i : Int) < (nt : Int)) = true := by first | (simp; done) | (simp; omega)
        have gi' : decide (i < nt) = true := by simpa using hln'
        clear fin hlt
        go_wp2
        go_ret2
        have h := hln.out
        subst h
        exact ⟨sb, A6, c6, Al, cl, us, rfl, hS6.out, by rw [hpl6.out, H8.out]⟩
      · have gi : decide ((i : Int) < (nt : Int)) = false := by simp; omega
        have gi' : decide (i < nt) = false := by simpa using hln'
        clear fin hlt
        go_wp2
        go_ret2
        have h := hln.out
        subst h
        exact ⟨sb, A6, c6, Al, cl, us, rfl, hS6.out, by
          have hl : (plL ts).length = nt := by rw [plL_map, List.length_map]; exact HLEN.out
          rw [hpl6.out]; unfold laidT; rw [List.take_of_length_le (by omega), List.take_of_length_le (by omega)]⟩
end Go.Proofs.YtcmlfkoeajpliaaDoor
